import PyProof.Rows.All
import Wide.All
import OpenK.AllK
import Wide.FinOn
import Lean
import PyProof.EqAt
import PyProof.EqKinds
import PyProof.TupleCall
import KE.KRevIter
import PyProof.ListNew
import PyProof.NeKinds
import PyProof.StrBlockL
import KE.LcSums
import PyProof.Rows.EqDataRows
import PyProof.Draws
import PyProof.EnumMake
import PyProof.ZipIter
import PyProof.WalksMore
import PyProof.P3In
import PyProof.IsRules
import KE.KTab
import PyProof.Rows.SumAny
import KE.KLcPair
import PyProof.ExcClass2
import PyProof.ExcInit
import PyProof.StationsW
import PyProof.InstStoreFacts
import PySem.Challenge.RW_leansay_k34_whole_saying_line_rows_line
set_option Elab.async false
set_option linter.all false
noncomputable section
set_option hygiene false
local macro_rules | `(tactic| walk_at "i1") => `(tactic| intro vs H Q E h)
local macro_rules | `(tactic| walk_at "i2") => `(tactic| intro f cdv A outer s H vs Q E hr h)
local macro_rules | `(tactic| walk_at "i3") => `(tactic| intro cdv A outer s H vs Q E hr h)
set_option hygiene true
set_option maxRecDepth 100000
namespace L2
open PySem PySem.Spec PyProof.Rows
abbrev Key:=Sum Int Str
theorem szA:0<=sizeLine:=by decide
theorem szB:1<=sizeLine:=by decide
theorem szC:2<=sizeLine:=by decide
theorem szD:3<=sizeLine:=by decide
abbrev FrN (a b:Scope):Prop:=∀ p∈a.names,p.2=NameKind.free->List.lookup p.1 b.names=some .cell\/List.lookup p.1 b.names=some .free
def uX:Key->Value->Bool
 | .inl k,v=>Value.isInt k v
 | .inr x,v=>Value.isStrOf x v
def keyH (w:World):Key->Int
 | .inl k=>hashInt k
 | .inr x=>hashStr w x
theorem cC:∀{k:Key} {v:Value},uX k v=true->(∃ i t,k=Sum.inl i/\v=Value.int i t)\/(∃ x t,k=Sum.inr x/\v=Value.str x t)
 | .inl i,v,h=>by
  obtain ⟨t,e⟩:=Value.isInt_shape (k:=i) (v:=v) h;exact .inl ⟨i,t,rfl,e⟩
 | .inr x,v,h=>by
  obtain ⟨t,e⟩:=Value.isStrOf_shape (x:=x) (v:=v) h;exact .inr ⟨x,t,rfl,e⟩
theorem DA (i:Int) (t:Tok):uX (.inl i) (.int i t)=true:=by simp [uX,Value.isInt]
theorem Dz (x:Str) (t:Tok):uX (.inr x) (.str x t)=true:=by simp [uX,Value.isStrOf]
theorem key_ll (a b:Int):decide ((Sum.inl a:Key)=Sum.inl b)=(a == b):=by
 by_cases e:a=b
 ·subst e;simp
 ·have h:¬ (Sum.inl a:Key)=Sum.inl b:=λq=>e (Sum.inl.inj q);rw [decide_eq_false h];exact (beq_eq_false_iff_ne.mpr e).symm
theorem key_rr (a b:Str):decide ((Sum.inr a:Key)=Sum.inr b)=decide (a=b):=by
 by_cases e:a=b
 ·subst e;simp
 ·have h:¬ (Sum.inr a:Key)=Sum.inr b:=λq=>e (Sum.inr.inj q);rw [decide_eq_false h,decide_eq_false e]
theorem key_lr (a:Int) (b:Str):decide ((Sum.inl a:Key)=Sum.inr b)=false:=decide_eq_false (λq=>nomatch q)
theorem key_rl (a:Str) (b:Int):decide ((Sum.inr a:Key)=Sum.inl b)=false:=decide_eq_false (λq=>nomatch q)
noncomputable def cH (prog:Program) (w:World):PySem.KeyKind prog w Key where
 is:=uX
 hash:=keyH w
 inj:=λv a b ha hb=>by
  rcases cC ha with ⟨i,t,rfl,rfl⟩ | ⟨x,t,rfl,rfl⟩
  ·rcases cC hb with ⟨j,u,rfl,e⟩ | ⟨y,u,rfl,e⟩
   ·injection e with e1 _;rw [e1]
   ·exact nomatch e
  ·rcases cC hb with ⟨j,u,rfl,e⟩ | ⟨y,u,rfl,e⟩
   ·exact nomatch e
   ·injection e with e1 _;rw [e1]
 byValue:=λk v h=>by
  rcases cC h with ⟨i,t,rfl,rfl⟩ | ⟨x,t,rfl,rfl⟩ <;> rfl
 pyHash:=λhv h=>by
  rcases cC hv with ⟨i,t,rfl,rfl⟩ | ⟨x,t,rfl,rfl⟩
  ·exact wpAny_pyHash_int h
  ·exact wpAny_pyHash_str h
 eqBool:=λhu hv h=>by
  rcases cC hu with ⟨i,t,rfl,rfl⟩ | ⟨x,t,rfl,rfl⟩
  ·rcases cC hv with ⟨j,u,rfl,rfl⟩ | ⟨y,u,rfl,rfl⟩
   ·rw [key_ll] at h;exact wpAny_eqBool_int h
   ·rw [key_lr] at h;exact SeqAt.EqAt.int_str i t y u _ _ _ _ h
  ·rcases cC hv with ⟨j,u,rfl,rfl⟩ | ⟨y,u,rfl,rfl⟩
   ·rw [key_rl] at h;exact SeqAt.EqAt.str_int x t j u _ _ _ _ h
   ·rw [key_rr] at h;exact wpAny_eqBool_str h
 «strs»:=λk x t v h=>by
  rcases cC h with ⟨i,u,rfl,e⟩ | ⟨y,u,rfl,e⟩
  ·exact nomatch e
  ·injection e with e1 _
   subst e1;cases v <;> rfl
theorem yk (prog:Program) (w:World) (i:Int) (t:Tok):(cH prog w).is (.inl i) (.int i t)=true:=DA i t
theorem yj (prog:Program) (w:World) (x:Str) (t:Tok):(cH prog w).is (.inr x) (.str x t)=true:=Dz x t
inductive V where
 | non | bl (b:Bool) | int (i:Int) | str (x:Str) | byt (b:Array UInt8) | flt (b:UInt64) | ref (a:Addr) | ty (n:String)
 deriving DecidableEq
def RelV:V->Value->Prop
 | .non,u=>u=Value.none
 | .bl b,u=>u=Value.bool b
 | .int i,u=>∃ t,u=Value.int i t
 | .str x,u=>∃ t,u=Value.str x t
 | .byt b,u=>∃ t,u=Value.bytes b t
 | .flt b,u=>∃ t,u=Value.float b t
 | .ref a,u=>u=Value.ref a
 | .ty n,u=>u=Value.type n
abbrev Vals:List V->List Value->Prop:=Paired RelV
theorem Vals.length {xs:List V} {us:List Value} (r:Vals xs us):xs.length=us.length:=Paired.length r
theorem Vals.get:∀{xs:List V} {us:List Value} {i:Nat} {x:V},Vals xs us->xs[i]?=some x->∃ u,us[i]?=some u/\RelV x u
 | _,_,_,_,.nil,e=>by simp at e
 | _,_,0,_,.cons r _,e=>by simp at e;subst e;exact ⟨_,rfl,r⟩
 | _,_,i+1,x,.cons _ t,e=>by
  obtain ⟨u,h1,h2⟩:=Vals.get (i:=i) (x:=x) t (by simpa using e);exact ⟨u,by simpa using h1,h2⟩
theorem Vals.set {x:V} {u:Value} (r:RelV x u):∀{xs:List V} {us:List Value} (i:Nat),Vals xs us->Vals (xs.set i x) (us.set i u)
 | _,_,_,.nil=>.nil
 | _,_,0,.cons _ t=>.cons r t
 | _,_,i+1,.cons q t=>.cons q (Vals.set r i t)
theorem Vals.append:∀{xs ys:List V} {us ws:List Value},Vals xs us->Vals ys ws->Vals (xs++ys) (us++ws)
 | _,_,_,_,.nil,s=>s
 | _,_,_,_,.cons r t,s=>.cons r (Vals.append t s)
theorem Vals.take:∀{xs:List V} {us:List Value} (n:Nat),Vals xs us->Vals (xs.take n) (us.take n)
 | _,_,0,_=>.nil
 | _,_,_+1,.nil=>.nil
 | _,_,n+1,.cons r t=>.cons r (Vals.take n t)
theorem Vals.drop:∀{xs:List V} {us:List Value} (n:Nat),Vals xs us->Vals (xs.drop n) (us.drop n)
 | _,_,0,r=>r
 | _,_,_+1,.nil=>.nil
 | _,_,n+1,.cons _ t=>Vals.drop n t
def jg:Option V->Option Value->Prop
 | some v,some u=>RelV v u
 | none,none=>True
 | _,_=>False
def KV {κ:Type}:List (κ×V)->List (κ×Value)->Prop:=Paired λ(p:κ×V) (q:κ×Value)=>p.1=q.1/\RelV p.2 q.2
def kV:Key->V
 | .inl i=>.int i
 | .inr x=>.str x
inductive HO where
 | lst (xs:List V)
 | tup (xs:List V)
 | dK (kvs:List (Key×V)) | dT (kvs:List (List Key×V))
 | set (S:Int->Bool) (n:Nat)
 | ins (C dx:Addr) (fs:List (Str×V))
 | own (x:Addr)
 | xd (fs:List (Str×V))
 | met (f x:Addr)
 | rng (lo hi:Int)
 | frz (o:Obj) (u:HO)
 | tbl (ps:Array Value)
 | ext (φ:Heap->Prop)
abbrev Hp:=Addr->Option HO
def upd (H:Hp) (a:Addr) (o:HO):Hp:=λb=>if b=a then some o else H b
theorem ae {H:Hp} {a:Addr} {o:HO}:upd H a o a=some o:=by unfold upd;rw [if_pos rfl]
theorem aq {H:Hp} {a b:Addr} {o:HO} (h:b≠a):upd H a o b=H b:=by unfold upd;rw [if_neg h]
theorem upd_upd {H:Hp} {a:Addr} {o u:HO}:upd (upd H a o) a u=upd H a u:=by
 funext b;unfold upd;split <;> rfl
theorem BI {H:Hp} {a b:Addr} {o u:HO} (h:H a=some o) (h':H b=some u) (d:o≠u):a≠b:=by
 intro e;subst e;rw [h] at h';exact d (Option.some.inj h')
theorem ax {H:Hp} {a b:Addr} {o:HO} (h:H a=some o) (h':H b=none):a≠b:=by
 intro e;subst e;rw [h] at h';cases h'
section
variable (P:Program) (w:World)
noncomputable def bC (H:Hp) (h:Heap) (a:Addr):HO->Prop
 | .lst xs=>xs.length<=sizeLine/\∃(its:List Value) (n:Nat),Vals xs its/\h.get? a=some {cls:=.type "list",data:=.seq its.toArray n}
 | .tup xs=>xs.length<=sizeLine/\∃ its:List Value,Vals xs its/\IsTup h a its.toArray
 | .dK kvs=>kvs.length<=sizeLine/\(a == sysModules)=false/\∃ vs,KV kvs vs/\h.DictOf (cH P w) a vs
 | .dT kvs=>kvs.length<=sizeLine/\(a == sysModules)=false/\∃ xs:List (List Key×Addr×Value),
   Paired (λ(p:List Key×V) (q:List Key×Addr×Value)=>p.1=q.1/\H q.2.1=some (.tup (p.1.map kV))/\RelV p.2 q.2.2) kvs xs/\
   ∃ o es ep,h.get? a=some o/\o.ExactDict/\o.data=.dict es ep/\es.toList=xs.map (entryOfKey (tupleKind (cH P w)))/\(xs.map (·.1)).Nodup
 | .set S n=>h.SetOf (intKind P w) a S n
 | .ins C dx fs=>H dx=some (.own a)/\fs.length<=1000/\dx≠a/\h.get? a=some (PySem.W.instObj C dx)/\
   ∃ mA,h.Ns1 dx mA/\(∀ f,jg (fs.lookup f) (mA f))/\PySem.Within mA (fs.map (·.1))
 | .own _=>∃ o,h.get? a=some o
 | .xd fs=>∃ mA,h.Ns1 a mA/\∀ f,jg (fs.lookup f) (mA f)
 | .rng lo hi=>∃ t u v,h.get? a=some {cls:=.type "range",data:=.fields #[.int lo t,.int hi u,.int 1 v] }
 | .frz o u=>h.get? a=some o/\bC H h a u
 | .tbl ps=>h.get? a=some {cls:=.none,data:=.fields ps}
 | .met f x=>h.get? a=some (PySem.W.methodObj (.ref f) (.ref x))
 | .ext φ=>φ h/\(∃ o,h.get? a=some o)/\∀ h1 h2:Heap,φ h1->(∀ o,h1.get? a=some o->h2.get? a=some o)->φ h2
def HOk (H:Hp) (h:Heap):Prop:=∀ a o,H a=some o->bC P w H h a o
end
section
variable {P:Program} {w:World} {H H':Hp} {h h':Heap} {a:Addr} {o:HO}
theorem bC.lt (x:bC P w H h a o):a < h.objs.size:=by
 cases o with
 | lst xs=>obtain ⟨_,_,_,_,e⟩:=x;exact Heap.lt_size e
 | tup xs=>obtain ⟨_,_,_,p⟩:=x;exact p.lt
 | dK kvs=>obtain ⟨_,_,_,_,o,_,_,e,_⟩:=x;exact Heap.lt_size e
 | dT kvs=>obtain ⟨_,_,_,_,o,_,_,e,_⟩:=x;exact Heap.lt_size e
 | set S n=>obtain ⟨o,_,_,_,e,_⟩:=x;exact Heap.lt_size e
 | ins C dx fs=>obtain ⟨_,_,_,e,_⟩:=x;exact Heap.lt_size e
 | own y=>obtain ⟨_,e⟩:=x;exact Heap.lt_size e
 | xd fs=>obtain ⟨_,⟨_,_,_,e,_⟩,_⟩:=x;exact Heap.lt_size e
 | rng lo hi=>obtain ⟨_,_,_,e⟩:=x;exact Heap.lt_size e
 | frz ob u=>obtain ⟨e,_⟩:=x;exact Heap.lt_size e
 | tbl ps=>exact Heap.lt_size (show h.get? a=some _ from x)
 | met f y=>exact Heap.lt_size (show h.get? a=some _ from x)
 | ext φ=>obtain ⟨_,⟨_,e⟩,_⟩:=x;exact Heap.lt_size e
theorem Paired.mapP {α β:Type} {F G:α->β->Prop}:∀{l₁:List α} {l₂:List β},Paired F l₁ l₂->(∀ a b,F a b->G a b)->Paired G l₁ l₂
 | _,_,.nil,_=>.nil
 | _,_,.cons r t,f=>.cons (f _ _ r) (Paired.mapP t f)
theorem bC.stay (x:bC P w H h a o) (k:∀ b u,(b=a\/H b=some (.own a))->h.get? b=some u->h'.get? b=some u)
  (ho:∀ b,H b=some (.own a)->H' b=some (.own a)) (ht:∀ b xs,H b=some (.tup xs)->H' b=some (.tup xs)):bC P w H' h' a o:=by
 induction o with
 | lst xs=>obtain ⟨z,its,n,r,e⟩:=x;exact ⟨z,its,n,r,k _ _ (.inl rfl) e⟩
 | tup xs=>obtain ⟨z,its,r,ob,e,c⟩:=x;exact ⟨z,its,r,ob,k _ _ (.inl rfl) e,c⟩
 | dK kvs=>obtain ⟨z,y,vs,r,ob,es,ep,e,c⟩:=x;exact ⟨z,y,vs,r,ob,es,ep,k _ _ (.inl rfl) e,c⟩
 | dT kvs =>
  obtain ⟨z,y,xs,r,ob,es,ep,e,c⟩:=x;exact ⟨z,y,xs,Paired.mapP r λp q z=>⟨z.1,ht _ _ z.2.1,z.2.2⟩,ob,es,ep,k _ _ (.inl rfl) e,c⟩
 | set S n=>obtain ⟨ob,es,ep,t,e,c⟩:=x;exact ⟨ob,es,ep,t,k _ _ (.inl rfl) e,c⟩
 | ins C dx fs =>
  obtain ⟨d,z,ne,e,mA,⟨od,es,ep,e2,c⟩,r⟩:=x;exact ⟨ho _ d,z,ne,k _ _ (.inl rfl) e,mA,⟨od,es,ep,k _ _ (.inr d) e2,c⟩,r⟩
 | own y=>obtain ⟨ob,e⟩:=x;exact ⟨ob,k _ _ (.inl rfl) e⟩
 | xd fs=>obtain ⟨mA,⟨od,es,ep,e,c⟩,r⟩:=x;exact ⟨mA,⟨od,es,ep,k _ _ (.inl rfl) e,c⟩,r⟩
 | rng lo hi=>obtain ⟨t,u,v,e⟩:=x;exact ⟨t,u,v,k _ _ (.inl rfl) e⟩
 | frz ob u ih=>obtain ⟨e,q⟩:=x;exact ⟨k _ _ (.inl rfl) e,ih q⟩
 | tbl ps =>
  have e:h.get? a=some {cls:=.none,data:=.fields ps}:=x;show h'.get? a=some {cls:=.none,data:=.fields ps};exact k a _ (.inl rfl) e
 | met f y =>
  have e:h.get? a=some (PySem.W.methodObj (.ref f) (.ref y)):=x;show h'.get? a=some (PySem.W.methodObj (.ref f) (.ref y));exact k a _ (.inl rfl) e
 | ext φ=>obtain ⟨p,⟨o,e⟩,st⟩:=x;exact ⟨st _ _ p λo q=>k _ _ (.inl rfl) q,⟨o,k _ _ (.inl rfl) e⟩,st⟩
theorem HOk.lt (x:HOk P w H h) (e:H a=some o):a < h.objs.size:=(x a o e).lt
theorem HOk.fresh (x:HOk P w H h) (e:h.objs.size<=a):H a=none:=by
 cases q:H a with
 | none=>rfl
 | some u=>exact absurd (Nat.lt_of_lt_of_le (x.lt q) e) (Nat.lt_irrefl _)
theorem HOk.kept (x:HOk P w H h) (k:∀ b u,h.get? b=some u->h'.get? b=some u):HOk P w H h':=λa o e =>
 (x a o e).stay (λb u _ q=>k b u q) (λ_ q=>q) λ_ _ q=>q
theorem HOk.laid (x:HOk P w H h) (k:∀ b u,h.get? b=some u->h'.get? b=some u) (hp:h.objs.size<=a) (new:bC P w (upd H a o) h' a o):HOk P w (upd H a o) h':=λb u e=>by
 have hn:=x.fresh hp
 by_cases hb:b=a
 ·subst hb;rw [ae] at e;cases e;exact new
 ·rw [aq hb] at e;exact (x b u e).stay (λc v _ q=>k c v q) (λc q=>by rw [aq (ax q hn)];exact q) λc xs q=>by rw [aq (ax q hn)];exact q
end
def Rd (H:Hp) (a:Addr) (u:HO):Prop:=H a=some u\/∃ o,H a=some (.frz o u)
theorem Rd.ok {P:Program} {w:World} {H:Hp} {h:Heap} {a:Addr} {u:HO} (r:Rd H a u) (x:HOk P w H h):bC P w H h a u:=by
 rcases r with r | ⟨o,r⟩
 ·exact x a u r
 ·obtain ⟨_,q⟩:=x a _ r;exact q
def Mut:Option HO->Prop
 | some (.lst _)=>True
 | some (.dK _)=>True
 | some (.dT _)=>True
 | some (.set _ _)=>True
 | some (.ins _ _ _)=>True
 | some (.ext _)=>True
 | _=>False
section
variable {P:Program} {w:World} {H:Hp} {h h':Heap} {x e:Addr} {o':HO}
theorem HOk.write (ok:HOk P w H h) (mu:Mut (H x)) (he:e=x\/H e=some (.own x)) (k:∀ b u,b≠e->h.get? b=some u->h'.get? b=some u) (heo:∃ u,h'.get? e=some u)
  (new:bC P w (upd H x o') h' x o'):HOk P w (upd H x o') h':=λb u q=>by
 have nown:∀ c y,H c=some (.own y)->c≠x:=λc y r z=>by subst z;rw [r] at mu;exact mu
 have ntup:∀ c xs,H c=some (.tup xs)->c≠x:=λc xs r z=>by subst z;rw [r] at mu;exact mu
 by_cases hb:b=x
 ·subst hb;rw [ae] at q;cases q;exact new
 ·rw [aq hb] at q
  by_cases hbe:b=e
  ·have q':H b=some (.own x):=by
    rcases he with z | z
    ·exact absurd (hbe.trans z) hb
    ·rw [hbe];exact z
   rw [q] at q';cases q'
   obtain ⟨v,hv⟩:=heo;exact ⟨v,by rw [hbe];exact hv⟩
  ·refine (ok b u q).stay (λc v hc r=>k c v ?_ r) (λc r=>by rw [aq (nown c b r)];exact r) λc xs r=>by rw [aq (ntup c xs r)];exact r
   rcases hc with rfl | hc
   ·exact hbe
   ·rintro rfl
    rcases he with z | z
    ·exact nown c b hc z
    ·rw [hc] at z;cases z;exact hb rfl
end
structure Un (fs ex:List Addr) (H H':Hp) (h h':Heap):Prop where
 keep:∀ b o,h.get? b=some o->H b=none->b ∉ fs->b ∉ ex->h'.get? b=some o
 slot:∀ b o,h.get? b=some o->H b=none->b∈fs->b ∉ ex->∃ sl,h'.get? b=some {o with slots:=sl}
 free:∀ b o,h.get? b=some o->H b=none->b ∉ ex->H' b=none
 there:∀ b o,h.get? b=some o->b ∉ ex->∃ o',h'.get? b=some o'
 tups:∀ b xs,H b=some (.tup xs)->H' b=some (.tup xs)
 frzs:∀ b o u,H b=some (.frz o u)->H' b=some (.frz o u)
 tbls:∀ b ps,H b=some (.tbl ps)->∃ more,H' b=some (.tbl (ps++more))
section
variable {fs fs' ex ex':List Addr} {H H1 H2:Hp} {h h1 h2 h':Heap} {a x e:Addr} {o:HO}
theorem Un.any (u:Un fs ex H H1 h h1) {b:Addr} {ob:Obj} (q:h.get? b=some ob) (n:H b=none) (hx:b ∉ ex):∃ sl,h1.get? b=some {ob with slots:=sl}:=by
 by_cases hb:b∈fs
 ·exact u.slot b ob q n hb hx
 ·exact ⟨ob.slots,u.keep b ob q n hb hx⟩
theorem Un.kept (k:∀ b u,h.get? b=some u->h'.get? b=some u):Un fs ex H H h h':=
 ⟨λb ob q _ _ _=>k b ob q,λb ob q _ _ _=>⟨ob.slots,k b ob q⟩,λ_ _ _ n _=>n,λb ob q _=>⟨ob,k b ob q⟩,λ_ _ q=>q,λ_ _ _ q=>q,λ_ ps q=>⟨#[],by rw [q];simp⟩⟩
theorem Un.refl:Un fs ex H H h h:=Un.kept λ_ _ q=>q
theorem Un.laid (k:∀ b u,h.get? b=some u->h'.get? b=some u) (hp:h.objs.size<=a) (hn:H a=none):Un fs ex H (upd H a o) h h' where
 keep:=λb u q _ _ _=>k b u q
 slot:=λb u q _ _ _=>⟨u.slots,k b u q⟩
 free:=λb u q n _=>by rw [aq (Nat.ne_of_lt (Nat.lt_of_lt_of_le (Heap.lt_size q) hp))];exact n
 there:=λb u q _=>⟨u,k b u q⟩
 tups:=λb xs q=>by rw [aq (ax q hn)];exact q
 frzs:=λb u xs q=>by rw [aq (ax q hn)];exact q
 tbls:=λb ps q=>⟨#[],by rw [aq (ax q hn),q];simp⟩
theorem Un.write (mu:Mut (H x)) (he:e=x\/H e=some (.own x)) (k:∀ b u,b≠e->h.get? b=some u->h'.get? b=some u) (heo:∃ u,h'.get? e=some u):Un fs ex H (upd H x o) h h':=by
 have hx:∀ b,H b=none->b≠x:=λb n z=>by subst z;rw [n] at mu;exact mu
 have hb:∀ b,H b=none->b≠e:=λb n z=>by
  subst z;rcases he with r | r
  ·exact hx b n r
  ·rw [n] at r;cases r
 have hm:∀ b u,H b=some u->¬Mut (some u)->b≠x:=λb u q nm z=>by subst z;rw [q] at mu;exact nm mu
 refine ⟨λb u q n _ _=>k b u (hb b n) q,λb u q n _ _=>⟨u.slots,k b u (hb b n) q⟩,λb u q n _=>by rw [aq (hx b n)];exact n,λb u q _=>?_,
  λb xs q=>by rw [aq (hm b _ q λz=>z)];exact q,λb u xs q=>by rw [aq (hm b _ q λz=>z)];exact q,λb ps q=>⟨#[],by rw [aq (hm b _ q λz=>z),q];simp⟩⟩
 by_cases hbe:b=e
 ·subst hbe;exact heo
 ·exact ⟨u,k b u hbe q⟩
end
def trk (h:Heap) (H:Hp):List Addr:=(List.range h.objs.size).filter λa=>(H a).isSome
def wj (h:Heap) (H:Hp):Heap:=PySem.W.hideAll h (trk h H)
theorem DE (h:Heap) (H:Hp):(wj h H).objs.size=h.objs.size:=PySem.W.hideAll_size _ _
theorem GP {h:Heap} {H:Hp} {b:Addr} {o:Obj} (e:h.get? b=some o) (n:H b=none):(wj h H).get? b=some o:=
 PySem.W.hideAll_get _ e λhm=>by
  have q:(H b).isSome=true:=(List.mem_filter.mp hm).2;rw [n] at q;simp at q
theorem of_hidT {h:Heap} {H:Hp} {b:Addr} {o:Obj} (e:(wj h H).get? b=some o):h.get? b=some o/\H b=none:=by
 have e':h.get? b=some o:=PySem.W.of_hideAll (trk h H) e;refine ⟨e',?_⟩;cases q:H b with
 | none=>rfl
 | some x =>
  have hm:b∈trk h H:=List.mem_filter.mpr ⟨List.mem_range.mpr (Heap.lt_size e'),by simp [q]⟩;have z:(wj h H).get? b=none:=PySem.W.hideAll_none (trk h H) hm;rw [z] at e;cases e
structure Mod (K:W.Frag) (mg:Str->Option Value) (base:Heap):Prop where
 kin:K.In base
 glob:base.Ns mainGlobals mg
 blt:∃ mb,base.Ns builtinsNs mb/\∀ x:Str,x≠"__name__"->mb x=bootBuiltins x
 nolimit:base.NoLimit
structure Cx where
 prog:Program
 w:World
 K:W.Frag
 mg:Str->Option Value
 base:Heap
 A:Around
 N:List Str
 s₀:Shared
 H₀:Hp
 env:Env
 outer:List Env
 stack:List Env
 ex:List Addr
 fn:Str->Bool
 calm:Bool
 pn:List (Addr×Obj)
 xe:Value->Shared->Prop
def frs (l:List Env):List Addr:=l.filterMap (·.frame)
abbrev Cx.fs (X:Cx):List Addr:=frs X.outer
def Vis (sc:Scope) (x:Str):Prop:=sc.names.lookup x=some .local\/sc.names.lookup x=some .cell\/sc.names.lookup x=some .free
def Loc (sc:Scope) (x:Str):Prop:=sc.names.lookup x=some .local\/sc.names.lookup x=some .cell
def Look (env:Env) (h:Heap) (m:Str->Option Value) (x:Str) (u:Value):Prop:=
 (env.kindOf x=some .local/\m x=some u)\/((env.kindOf x=some .cell\/env.kindOf x=some .free)/\∃ c,env.cells.lookup x=some c/\h.IsCell c (some u))
structure Cx.Ok (X:Cx):Prop where
 mod:Mod X.K X.mg X.base
 kind:X.env.scope.kind=.function
 glob:X.env.globals=mainGlobals
 blt:X.env.builtins=builtinsNs
 above:X.s₀.heap.objs.size<=X.env.locals
 inj:∀ x y c,X.env.cells.lookup x=some c->X.env.cells.lookup y=some c->x=y
 has:∀ x,(X.env.kindOf x=some .cell\/X.env.kindOf x=some .free)->∃ c,X.env.cells.lookup x=some c
 cab:∀ x c,X.fn x=true->X.env.cells.lookup x=some c->X.s₀.heap.objs.size<=c
 hd:X.calm=true->X.A.handled=none
 frames:X.A.frames=some X.stack
 stk:X.stack=X.outer\/(X.stack=X.env::X.outer/\X.env.frame=some X.env.locals)
 exf:∀ b∈X.ex,b≠X.env.locals/\∀ x c,X.env.cells.lookup x=some c->c≠b
 bs:∀ b o,X.base.get? b=some o->X.s₀.heap.get? b=some o/\X.H₀ b=none
 bsz:X.base.objs.size<=X.s₀.heap.objs.size
 noex:∀ b o,X.base.get? b=some o->b ∉ X.ex
 exfs:∀ b∈X.ex,b ∉ X.fs
 funs:X.s₀.heap.FunFrames X.base X.outer
 frf:∀ b∈X.fs,X.H₀ b=none
structure Inv (X:Cx) (pins:List (Addr×Obj)) (σ:List (Option V)) (H:Hp) (s:Shared):Prop where
 ok:X.Ok
 os:s.os=X.s₀.os
 bare:AllBare s.gens
 base:Un X.fs X.ex X.H₀ H X.s₀.heap s.heap
 loc:∃ m,s.heap.Ns X.env.locals m/\∀(i:Nat) (x:Str) (v:V),X.N[i]?=some x->σ[i]?=some (some v)->Vis X.env.scope x->∃ u,RelV v u/\Look X.env s.heap m x u
 cell:∀ x c,X.env.cells.lookup x=some c->∃ v,s.heap.IsCell c v
 free:H X.env.locals=none
 freeC:∀ x c,X.env.cells.lookup x=some c->H c=none
 pin:∀ p∈X.pn++pins,s.heap.get? p.1=some p.2/\H p.1=none/\p.1≠X.env.locals/\p.1 ∉ X.fs/\∀ v,p.2.data≠.cell v
 hok:HOk X.prog X.w H s.heap
 len:σ.length=X.N.length
section
variable {X:Cx} {pins:List (Addr×Obj)} {σ:List (Option V)} {H H':Hp} {s:Shared} {h':Heap}
theorem Cx.Ok.nofr (ok:X.Ok) {b:Addr} {o:Obj} (e:X.base.get? b=some o):b ∉ X.fs:=λhb=>by
 have:=(ok.funs.mem hb).1;rw [e] at this;cases this
theorem Inv.bs (I:Inv X pins σ H s):∀ b o,X.base.get? b=some o->s.heap.get? b=some o/\H b=none:=λb o e =>
 ⟨I.base.keep b o (I.ok.bs b o e).1 (I.ok.bs b o e).2 (I.ok.nofr e) (I.ok.noex b o e),I.base.free b o (I.ok.bs b o e).1 (I.ok.bs b o e).2 (I.ok.noex b o e)⟩
theorem Inv.bk (I:Inv X pins σ H s):∀ b o,X.base.get? b=some o->s.heap.get? b=some o:=λb o e=>(I.bs b o e).1
theorem Inv.mod (I:Inv X pins σ H s):Mod X.K X.mg X.base:=I.ok.mod
theorem Inv.kIn (I:Inv X pins σ H s):X.K.In s.heap:=I.ok.mod.kin.keeps I.bk
theorem Inv.lt (I:Inv X pins σ H s):X.env.locals < s.heap.objs.size:=let ⟨_,hn,_⟩:=I.loc;hn.lt
theorem Inv.sz (I:Inv X pins σ H s):X.s₀.heap.objs.size<=s.heap.objs.size:=Nat.le_trans I.ok.above (Nat.le_of_lt I.lt)
theorem Inv.nofs (I:Inv X pins σ H s) {a:Addr} (h:s.heap.objs.size<=a):a ∉ X.fs:=λhb=>by
 obtain ⟨_,o,ho,_⟩:=I.ok.funs.mem hb;exact absurd (Nat.lt_of_lt_of_le (Heap.lt_size ho) (Nat.le_trans I.sz h)) (Nat.lt_irrefl _)
theorem Inv.cne (I:Inv X pins σ H s):∀ x c,X.env.cells.lookup x=some c->c≠X.env.locals:=λx c e z=>by
 obtain ⟨v,o,ho,hd⟩:=I.cell x c e;obtain ⟨m,⟨o',es,ep,ho',hd',_⟩,_⟩:=I.loc;rw [z,ho'] at ho;cases ho;rw [hd'] at hd;cases hd
theorem Inv.funs (I:Inv X pins σ H s):s.heap.FunFrames X.base X.outer:=by
 have all:∀(l:List Env),(∀ b∈frs l,b∈X.fs)->X.s₀.heap.FunFrames X.base l->s.heap.FunFrames X.base l:=by
  intro l
  induction l with
  | nil=>intro _ _;trivial
  | cons env r ih =>
   intro hs hl;obtain ⟨hk,⟨L,o,hf,hn,ho,hd⟩,hr⟩:=hl;have hL:L∈X.fs:=hs L (by unfold frs;rw [List.filterMap_cons,hf];exact List.mem_cons_self);obtain ⟨sl,e⟩:=I.base.slot L o ho (I.ok.frf L hL) hL λz=>I.ok.exfs L z hL;exact ⟨hk,⟨L,_,hf,hn,e,hd⟩,ih (λb hb=>hs b (by unfold frs;rw [List.filterMap_cons,hf];exact List.mem_cons_of_mem _ hb)) hr⟩
 exact all X.outer (λ_ hb=>hb) I.ok.funs
theorem Inv.stack (I:Inv X pins σ H s):s.heap.FunFrames X.base X.stack:=by
 rcases I.ok.stk with e | ⟨e,hf⟩
 ·rw [e];exact I.funs
 ·rw [e];obtain ⟨m,hn,_⟩:=I.loc;refine .cons (by rw [I.ok.kind];decide) hf hn ?_ I.funs;exact Heap.get?_none_of_le (Nat.le_trans I.ok.bsz I.ok.above)
theorem Inv.stkSub (I:Inv X pins σ H s):∀ b∈frs X.stack,b∈X.env.locals::X.fs:=λb hb=>by
 rcases I.ok.stk with e | ⟨e,hf⟩
 ·rw [e] at hb;exact List.mem_cons_of_mem _ hb
 ·rw [e] at hb;unfold frs at hb;rw [List.filterMap_cons,hf] at hb;exact hb
theorem Inv.stkFree (I:Inv X pins σ H s):∀ b∈frs X.stack,H b=none:=λb hb=>by
 rcases List.mem_cons.mp (I.stkSub b hb) with e | hb
 ·rw [e];exact I.free
 ·obtain ⟨_,o,ho,_⟩:=I.ok.funs.mem hb;exact I.base.free b o ho (I.ok.frf b hb) λz=>I.ok.exfs b z hb
theorem Inv.step {g':Array GenState} {t':Nat} {d':Drawn} {ch:List Addr} (I:Inv X pins σ H s)
  (hch:∀ b∈ch,(b∈X.ex\/X.s₀.heap.objs.size<=b)/\b≠X.env.locals/\(∀ x c,X.env.cells.lookup x=some c->c≠b)/\∀ p∈X.pn++pins,p.1≠b)
  (keep:∀ b o,b≠X.env.locals->b ∉ X.fs->b ∉ ch->s.heap.get? b=some o->H b=none->h'.get? b=some o)
  (slot:∀ b o,b≠X.env.locals->b∈X.fs->b ∉ ch->s.heap.get? b=some o->H b=none->∃ sl,h'.get? b=some {o with slots:=sl}) (free:∀ b o,b ∉ ch->s.heap.get? b=some o->H b=none->H' b=none)
  (there:∀ b o,b ∉ ch->s.heap.get? b=some o->∃ o',h'.get? b=some o')
  (tups:∀ b xs,H b=some (.tup xs)->H' b=some (.tup xs)) (frzs:∀ b o u,H b=some (.frz o u)->H' b=some (.frz o u)) (tbls:∀ b ps,H b=some (.tbl ps)->∃ more,H' b=some (.tbl (ps++more)))
  (ns:∀ m,s.heap.Ns X.env.locals m->h'.Ns X.env.locals m) (hok:HOk X.prog X.w H' h') (hg:AllBare g') :
  Inv X pins σ H' {s with heap:=h',gens:=g',drawn:=d',toks:=t' }:=by
 have neL:∀ b o,X.s₀.heap.get? b=some o->b≠X.env.locals:=λb o e=>Nat.ne_of_lt (Nat.lt_of_lt_of_le (Heap.lt_size e) I.ok.above)
 have neC:∀ b o,X.s₀.heap.get? b=some o->b ∉ X.ex->b ∉ ch:=λb o e hx hb=>by
  rcases (hch b hb).1 with z | z
  ·exact hx z
  ·exact absurd (Nat.lt_of_lt_of_le (Heap.lt_size e) z) (Nat.lt_irrefl _)
 have cellK:∀ x c,X.env.cells.lookup x=some c->∀ v,s.heap.IsCell c v->h'.IsCell c v:=λx c e v ⟨o,ho,hd⟩=>by
  have nch:c ∉ ch:=λz=>(hch c z).2.2.1 x c e rfl
  by_cases hc:c∈X.fs
  ·obtain ⟨sl,q⟩:=slot c o (I.cne x c e) hc nch ho (I.freeC x c e);exact ⟨_,q,hd⟩
  ·exact ⟨o,keep c o (I.cne x c e) hc nch ho (I.freeC x c e),hd⟩
 refine ⟨I.ok,I.os,hg,⟨λb o e n hb hx=>?_,λb o e n hb hx=>?_,λb o e n hx=>?_,λb o e hx=>?_,λb xs e=>tups b xs (I.base.tups b xs e),λb o xs e=>frzs b o xs (I.base.frzs b o xs e),λb ps e=>?_⟩,?_,λx c e=>?_,?_,λx c e=>?_,λp hp=>?_,hok,I.len⟩
 ·exact keep b o (neL b o e) hb (neC b o e hx) (I.base.keep b o e n hb hx) (I.base.free b o e n hx)
 ·obtain ⟨sl,e1⟩:=I.base.slot b o e n hb hx;obtain ⟨sl',e2⟩:=slot b _ (neL b o e) hb (neC b o e hx) e1 (I.base.free b o e n hx);exact ⟨sl',e2⟩
 ·obtain ⟨o',e1⟩:=I.base.there b o e hx;exact free b o' (neC b o e hx) e1 (I.base.free b o e n hx)
 ·obtain ⟨o',e1⟩:=I.base.there b o e hx;exact there b o' (neC b o e hx) e1
 ·obtain ⟨m1,e1⟩:=I.base.tbls b ps e;obtain ⟨m2,e2⟩:=tbls b _ e1;exact ⟨m1++m2,by rw [e2,Array.append_assoc]⟩
 ·obtain ⟨m,hn,hl⟩:=I.loc;refine ⟨m,ns m hn,λi x v e1 e2 e3=>?_⟩;obtain ⟨u,r,l⟩:=hl i x v e1 e2 e3;refine ⟨u,r,?_⟩;rcases l with l | ⟨k,c,e,z⟩
  ·exact .inl l
  ·exact .inr ⟨k,c,e,cellK x c e _ z⟩
 ·obtain ⟨v,z⟩:=I.cell x c e;exact ⟨v,cellK x c e v z⟩
 ·obtain ⟨m,⟨o,_,_,ho,_⟩,_⟩:=I.loc;exact free _ o (λz=>(hch _ z).2.1 rfl) ho I.free
 ·obtain ⟨v,o,ho,hd⟩:=I.cell x c e;exact free c o (λz=>(hch c z).2.2.1 x c e rfl) ho (I.freeC x c e)
 ·obtain ⟨e,n,ne,nf,d⟩:=I.pin p hp;have nch:p.1 ∉ ch:=λz=>(hch p.1 z).2.2.2 p hp rfl;exact ⟨keep p.1 p.2 ne nf nch e n,free p.1 p.2 nch e n,ne,nf,d⟩
theorem Inv.un {t':Nat} (I:Inv X pins σ H s) (u:Un X.fs [] H H' s.heap h') (hok:HOk X.prog X.w H' h'):Inv X pins σ H' {s with heap:=h',toks:=t' }:=by
 obtain ⟨m,⟨o,es,ep,ho,r⟩,_⟩:=id I.loc;obtain ⟨sl,hL⟩:=u.any ho I.free (by simp)
 exact I.step (g':=s.gens) (d':=s.drawn) (ch:=[]) (λ_ z=>nomatch z) (λb o _ hb _ e n=>u.keep b o e n hb (by simp)) (λb o _ hb _ e n=>u.slot b o e n hb (by simp)) (λb o _ e n=>u.free b o e n (by simp)) (λb o _ e=>u.there b o e (by simp)) u.tups u.frzs u.tbls (λm' hm=>by
  obtain ⟨o',es',ep',ho',r'⟩:=hm;rw [ho] at ho';cases ho'
  exact ⟨_,es',ep',hL,r'⟩) hok I.bare
theorem Inv.call {g':Array GenState} {t':Nat} {d':Drawn} {ch:List Addr} (I:Inv X pins σ H s) (u:Un (frs X.stack) ch H H' s.heap h') (hok:HOk X.prog X.w H' h') (hg:AllBare g')
  (hch:∀ b∈ch,(b∈X.ex\/X.s₀.heap.objs.size<=b)/\b≠X.env.locals/\(∀ x c,X.env.cells.lookup x=some c->c≠b)/\∀ p∈X.pn++pins,p.1≠b) :
  Inv X pins σ H' {s with heap:=h',gens:=g',drawn:=d',toks:=t' }:=by
 obtain ⟨m,⟨o,es,ep,ho,r⟩,_⟩:=id I.loc;obtain ⟨sl,hL⟩:=u.any ho I.free λz=>(hch _ z).2.1 rfl
 exact I.step (ch:=ch) hch (λb o hL hb hc e n=>u.keep b o e n (λz=>(List.mem_cons.mp (I.stkSub b z)).elim hL hb) hc) (λb o _ _ hc e n=>u.any e n hc) (λb o hc e n=>u.free b o e n hc) (λb o hc e=>u.there b o e hc) u.tups u.frzs u.tbls (λm' hm=>by
  obtain ⟨o',es',ep',ho',r'⟩:=hm;rw [ho] at ho';cases ho'
  exact ⟨_,es',ep',hL,r'⟩) hok hg
theorem Inv.turned {t':Nat} {it:Addr} (I:Inv X pins σ H s) (k:∀ b o,b≠it->s.heap.get? b=some o->h'.get? b=some o) (hn:H it=none) (hL:it≠X.env.locals)
  (h1:it∈X.ex\/X.s₀.heap.objs.size<=it) (h2:∀ x c,X.env.cells.lookup x=some c->c≠it) (h3:∀ p∈X.pn++pins,p.1≠it):Inv X pins σ H {s with heap:=h',toks:=t' }:=by
 have nit:∀ b u,H b=some u->b≠it:=λb u e z=>by rw [z,hn] at e;cases e
 refine I.step (g':=s.gens) (d':=s.drawn) (ch:=[it]) (λb hb=>?_) (λb o _ _ hc e _=>k b o (λz=>hc (by simp [z])) e) (λb o _ _ hc e _=>⟨o.slots,k b o (λz=>hc (by simp [z])) e⟩) (λ_ _ _ _ n=>n)
  (λb o hc e=>⟨o,k b o (λz=>hc (by simp [z])) e⟩) (λ_ _ e=>e) (λ_ _ _ e=>e) (λb ps e=>⟨#[],by rw [e];simp⟩) (λm hm=>?_) (λb u e=>?_) I.bare
 ·have e:b=it:=by simpa using hb
  subst e;exact ⟨h1,hL,h2,h3⟩
 ·obtain ⟨o,es,ep,ho,r⟩:=hm;exact ⟨o,es,ep,k _ o (Ne.symm hL) ho,r⟩
 ·refine (I.hok b u e).stay (λc v hc q=>k c v ?_ q) (λ_ q=>q) λ_ _ q=>q;rcases hc with z | z
  ·rw [z];exact nit b u e
  ·exact nit c _ z
theorem Inv.tok (I:Inv X pins σ H s) (t:Nat):Inv X pins σ H {s with toks:=t}:=I.un (h':=s.heap) (t':=t) Un.refl I.hok
theorem Inv.kept {t':Nat} (I:Inv X pins σ H s) (k:∀ b u,s.heap.get? b=some u->h'.get? b=some u):Inv X pins σ H {s with heap:=h',toks:=t' }:=I.un (Un.kept k) (I.hok.kept k)
theorem Inv.laid {a:Addr} {o:HO} {t':Nat} (I:Inv X pins σ H s) (k:∀ b u,s.heap.get? b=some u->h'.get? b=some u) (hp:s.heap.objs.size<=a) (new:bC X.prog X.w (upd H a o) h' a o) :
  Inv X pins σ (upd H a o) {s with heap:=h',toks:=t' }:=I.un (Un.laid k hp (I.hok.fresh hp)) (I.hok.laid k hp new)
theorem Inv.write {x e:Addr} {o:HO} {t':Nat} (I:Inv X pins σ H s) (mu:Mut (H x)) (he:e=x\/H e=some (.own x)) (k:∀ b u,b≠e->s.heap.get? b=some u->h'.get? b=some u) (heo:∃ u,h'.get? e=some u)
  (new:bC X.prog X.w (upd H x o) h' x o):Inv X pins σ (upd H x o) {s with heap:=h',toks:=t' }:=I.un (Un.write mu he k heo) (I.hok.write mu he k heo new)
theorem Inv.pins_of {pins':List (Addr×Obj)} (I:Inv X pins σ H s) (h:∀ p∈pins',s.heap.get? p.1=some p.2/\H p.1=none/\p.1≠X.env.locals/\p.1 ∉ X.fs/\∀ v,p.2.data≠.cell v):Inv X pins' σ H s:=
 ⟨I.ok,I.os,I.bare,I.base,I.loc,I.cell,I.free,I.freeC,λp hp=>(List.mem_append.mp hp).elim (λz=>I.pin p (List.mem_append_left _ z)) (h p),I.hok,I.len⟩
theorem sj {N:List Str} (hN:N.Nodup) {i j:Nat} {x:Str} (a:N[i]?=some x) (b:N[j]?=some x):i=j:=by
 obtain ⟨h1,e1⟩:=List.getElem?_eq_some_iff.mp a;obtain ⟨h2,e2⟩:=List.getElem?_eq_some_iff.mp b;exact (List.getElem_inj hN).mp (e1.trans e2.symm)
theorem CH {M:Model} {A:Around} {E:Value->Shared->Prop} {i:Nat} {x:Str} {v:V} {u:Value} {Q:Unit->Shared->Prop} (I:Inv X pins σ H s) (hN:X.N.Nodup) (hi:X.N[i]?=some x) (hx:Loc X.env.scope x) (r:RelV v u)
  (h:∀ s',Inv X pins (σ.set i (some v)) H s'->(∃ a,Heap.SameBut a s.heap s'.heap/\(a=X.env.locals\/X.env.cells.lookup x=some a))->Q () s') (hf:X.fn x=true\/X.env.scope.names.lookup x=some .local:=by first | exact .inl rfl | exact .inr rfl | assumption):wpAny M A (storeName X.env x u) Q E s:=by
 obtain ⟨m,hn,hl⟩:=id I.loc;have hcls:(X.env.scope.kind == .class || (X.env.scope.kind == .module && X.env.locals != X.env.globals))=false:=by rw [I.ok.kind];rfl
 have hiσ:i < σ.length:=by rw [I.len];exact (List.getElem?_eq_some_iff.mp hi).1
 have cne:=I.cne
 have tracked:∀{a:Addr} {h':Heap},(∃ o,s.heap.get? a=some o/\H a=none)->Heap.SameBut a s.heap h'->HOk X.prog X.w H h':=λ{a h'} ha hs b ob e=>by
  obtain ⟨_,_,hfree⟩:=ha;refine (I.hok b ob e).stay (λc w' hc q=>(hs.2 c ?_).trans q) (λ_ q=>q) λ_ _ q=>q;rintro rfl
  rcases hc with rfl | hc
  ·rw [hfree] at e;cases e
  ·rw [hfree] at hc;cases hc
 rcases hx with hk | hk
 ·refine wpAny_storeName_local hk hn (λh' hn' hs=>?_) hcls;obtain ⟨oL,_,_,hoL,_⟩:=id hn;refine h _ ⟨I.ok,I.os,I.bare,⟨λb o e n hb hx=>?_,λb o e n hb hx=>?_,I.base.free,λb o e hx=>?_,I.base.tups,I.base.frzs,I.base.tbls⟩,⟨_,hn',λj y v' e1 e2 e3=>?_⟩,λy c e=>?_,I.free,I.freeC,λp hp=>?_,tracked ⟨oL,hoL,I.free⟩ hs,by simpa using I.len⟩ ⟨_,hs,.inl rfl⟩
  ·exact (hs.2 b (Nat.ne_of_lt (Nat.lt_of_lt_of_le (Heap.lt_size e) I.ok.above))).trans (I.base.keep b o e n hb hx)
  ·obtain ⟨sl,e1⟩:=I.base.slot b o e n hb hx;exact ⟨sl,(hs.2 b (Nat.ne_of_lt (Nat.lt_of_lt_of_le (Heap.lt_size e) I.ok.above))).trans e1⟩
  ·obtain ⟨o',e1⟩:=I.base.there b o e hx;exact ⟨o',(hs.2 b (Nat.ne_of_lt (Nat.lt_of_lt_of_le (Heap.lt_size e) I.ok.above))).trans e1⟩
  ·by_cases hj:j=i
   ·subst hj;rw [hi] at e1;cases e1
    rw [List.getElem?_set_self hiσ] at e2;cases e2
    exact ⟨u,r,.inl ⟨hk,by simp⟩⟩
   ·rw [List.getElem?_set_ne (Ne.symm hj)] at e2;obtain ⟨u',r',q⟩:=hl j y v' e1 e2 e3;refine ⟨u',r',?_⟩;rcases q with ⟨k,e⟩ | ⟨k,c,e,z⟩
    ·refine .inl ⟨k,?_⟩;have:y≠x:=λe=>hj (sj hN e1 (e ▸ hi));simp [this,e]
    ·exact .inr ⟨k,c,e,z.sameBut hs (cne y c e)⟩
  ·obtain ⟨w',z⟩:=I.cell y c e;exact ⟨w',z.sameBut hs (cne y c e)⟩
  ·obtain ⟨e,n,ne,nf,d⟩:=I.pin p hp;exact ⟨(hs.2 p.1 ne).trans e,n,ne,nf,d⟩
 ·have hfn:X.fn x=true:=by
   rcases hf with z | z
   ·exact z
   ·rw [z] at hk;cases hk
  obtain ⟨c,hc⟩:=I.ok.has x (.inl hk);obtain ⟨w',z⟩:=I.cell x c hc;refine wpAny_storeName_cell I.ok.kind hk hc z (λh' hc' hs=>?_);obtain ⟨oc,hoc,hocd⟩:=id z;refine h {s with heap:=h' } ⟨I.ok,I.os,I.bare,⟨λb o e n hb hx=>?_,λb o e n hb hx=>?_,I.base.free,λb o e hx=>?_,I.base.tups,I.base.frzs,I.base.tbls⟩,⟨m,hn.sameBut hs (Ne.symm (cne x c hc)),λj y v' e1 e2 e3=>?_⟩,λy c' e=>?_,I.free,I.freeC,λp hp=>?_,tracked ⟨oc,hoc,I.freeC x c hc⟩ hs,by simpa using I.len⟩ ⟨c,hs,.inr hc⟩
  ·exact (hs.2 b (Nat.ne_of_lt (Nat.lt_of_lt_of_le (Heap.lt_size e) (I.ok.cab x c hfn hc)))).trans (I.base.keep b o e n hb hx)
  ·obtain ⟨sl,e1⟩:=I.base.slot b o e n hb hx;exact ⟨sl,(hs.2 b (Nat.ne_of_lt (Nat.lt_of_lt_of_le (Heap.lt_size e) (I.ok.cab x c hfn hc)))).trans e1⟩
  ·obtain ⟨o',e1⟩:=I.base.there b o e hx;exact ⟨o',(hs.2 b (Nat.ne_of_lt (Nat.lt_of_lt_of_le (Heap.lt_size e) (I.ok.cab x c hfn hc)))).trans e1⟩
  ·by_cases hj:j=i
   ·subst hj;rw [hi] at e1;cases e1
    rw [List.getElem?_set_self hiσ] at e2;cases e2
    exact ⟨u,r,.inr ⟨.inl hk,c,hc,hc'⟩⟩
   ·rw [List.getElem?_set_ne (Ne.symm hj)] at e2;obtain ⟨u',r',q⟩:=hl j y v' e1 e2 e3;refine ⟨u',r',?_⟩;rcases q with q | ⟨k,c',e,z'⟩
    ·exact .inl q
    ·refine .inr ⟨k,c',e,z'.sameBut hs ?_⟩;rintro rfl
     exact hj (sj hN e1 (I.ok.inj _ _ _ e hc ▸ hi))
  ·by_cases hcc:c'=c
   ·subst hcc;exact ⟨_,hc'⟩
   ·obtain ⟨w2,z2⟩:=I.cell y c' e;exact ⟨w2,z2.sameBut hs hcc⟩
  ·obtain ⟨e,n,ne,nf,d⟩:=I.pin p hp;refine ⟨(hs.2 p.1 ?_).trans e,n,ne,nf,d⟩;intro q;rw [q,hoc] at e;have q':oc=p.2:=Option.some.inj e;exact d w' (by rw [<- q'];exact hocd)
theorem mU {M:Model} {A:Around} {E:Value->Shared->Prop} {i:Nat} {x:Str} {v:V} {u:Value} {Q:Unit->Shared->Prop} (I:Inv X pins σ H s) (hN:X.N.Nodup) (hi:X.N[i]?=some x) (hx:Loc X.env.scope x) (r:RelV v u)
  (h:∀ s',Inv X pins (σ.set i (some v)) H s'->Q () s') (hf:X.fn x=true\/X.env.scope.names.lookup x=some .local:=by first | exact .inl rfl | exact .inr rfl | assumption):wpAny M A (storeName X.env x u) Q E s:=
 CH I hN hi hx r (λs' I' _=>h s' I') hf
theorem Inv.call' {s':Shared} {ch:List Addr} (I:Inv X pins σ H s) (ho:s'.os=s.os) (u:Un (frs X.stack) ch H H' s.heap s'.heap) (hok:HOk X.prog X.w H' s'.heap) (hg:AllBare s'.gens)
  (hch:∀ b∈ch,(b∈X.ex\/X.s₀.heap.objs.size<=b)/\b≠X.env.locals/\(∀ x c,X.env.cells.lookup x=some c->c≠b)/\∀ p∈X.pn++pins,p.1≠b):Inv X pins σ H' s':=by
 obtain ⟨h',g',d',t',o'⟩:=s';have e:o'=s.os:=ho;subst e;exact I.call (g':=g') (t':=t') (d':=d') u hok hg hch
end
abbrev XK:=Value->Option Addr->Hp->Prop
abbrev St:=List (Option V)
abbrev VK:=V->Hp->Prop
abbrev TE:=St->Hp->VK->Prop
abbrev TT:=St->Hp->(Bool->Hp->Prop)->Prop
abbrev TA:=St->Hp->(List V->Hp->Prop)->Prop
structure Ends where
 nx:St->Hp->Prop
 rt:VK
 bk:St->Hp->Prop:=λ_ _=>False
 ct:St->Hp->Prop:=λ_ _=>False
abbrev TS:=Ends->St->Hp->Prop
def EP (X:Cx) (pins:List (Addr×Obj)) (σ:St) (Q:VK) (u:Value) (s':Shared):Prop:=∃ v H',Inv X pins σ H' s'/\RelV v u/\Q v H'
def TP (X:Cx) (pins:List (Addr×Obj)) (σ:St) (Q:Bool->Hp->Prop) (b:Bool) (s':Shared):Prop:=∃ H',Inv X pins σ H' s'/\Q b H'
def AP (X:Cx) (pins:List (Addr×Obj)) (σ:St) (Q:List V->Hp->Prop) (us:List Value) (s':Shared):Prop:=∃ vs H',Inv X pins σ H' s'/\Vals vs us/\Q vs H'
def SP (X:Cx) (pins:List (Addr×Obj)) (D:Ends) (f:Flow) (s':Shared):Prop:=
 match f with
 | .next=>∃ σ' H',Inv X pins σ' H' s'/\D.nx σ' H'
 | .brk=>∃ σ' H',Inv X pins σ' H' s'/\D.bk σ' H'
 | .cont=>∃ σ' H',Inv X pins σ' H' s'/\D.ct σ' H'
 | .ret u=>∃ v σ' H',Inv X pins σ' H' s'/\RelV v u/\D.rt v H'
def PE (X:Cx) (e:Expr) (t:TE):Prop:=
 ∀(pins:List (Addr×Obj)) (s:Shared) (σ:St) (H:Hp) (Q:VK),Inv X pins σ H s->t σ H Q->wpAny (model X.prog X.w) X.A (eval e X.env) (EP X pins σ Q) X.xe s
def PT (X:Cx) (e:Expr) (t:TT):Prop:=
 ∀(pins:List (Addr×Obj)) (s:Shared) (σ:St) (H:Hp) (Q:Bool->Hp->Prop),Inv X pins σ H s->t σ H Q->wpAny (model X.prog X.w) X.A (isTrue e X.env (eval e X.env)) (TP X pins σ Q) X.xe s
def PW (X:Cx) (e:Expr) (t:TT):Prop:=
 ∀(whole:Sem Value) (pins:List (Addr×Obj)) (s:Shared) (σ:St) (H:Hp) (Q:Bool->Hp->Prop),Inv X pins σ H s->t σ H Q->wpAny (model X.prog X.w) X.A (isTrue e X.env whole) (TP X pins σ Q) X.xe s
theorem PW.pt {X:Cx} {e:Expr} {t:TT} (h:PW X e t):PT X e t:=h _
def PA (X:Cx) (es:List Expr) (t:TA):Prop:=
 ∀(pos:Pos) (pins:List (Addr×Obj)) (s:Shared) (σ:St) (H:Hp) (Q:List V->Hp->Prop),Inv X pins σ H s->t σ H Q->wpAny (model X.prog X.w) X.A (spliced (backTo pos (starEach es X.env))) (AP X pins σ Q) X.xe s
def PS (X:Cx) (st:Stmt) (t:TS):Prop:=
 ∀(pins:List (Addr×Obj)) (s:Shared) (σ:St) (H:Hp) (D:Ends),Inv X pins σ H s->t D σ H->wpAny (model X.prog X.w) X.A (exec st X.env) (SP X pins D) X.xe s
def PSs (X:Cx) (st:List Stmt) (t:TS):Prop:=
 ∀(pins:List (Addr×Obj)) (s:Shared) (σ:St) (H:Hp) (D:Ends),Inv X pins σ H s->t D σ H->wpAny (model X.prog X.w) X.A (execs st X.env) (SP X pins D) X.xe s
theorem thn {α:Type} {t:Sem α} {Q Q':α->Shared->Prop} {M:Model} {A:Around} {E:Value->Shared->Prop} {s:Shared} (h:wpAny M A t Q E s) (hQ:∀ a s,Q a s->Q' a s):wpAny M A t Q' E s:=wpAny_mono h hQ λ_ _ x=>x
section
variable {X:Cx}
theorem bin {a b:Expr} {ta tb:TE} (ha:PE X a ta) (hb:PE X b tb) {pins:List (Addr×Obj)} {s:Shared} {σ:St} {H:Hp} {R:V->V->Hp->Prop} (I:Inv X pins σ H s) (h:ta σ H λx H1=>tb σ H1 λy H2=>R x y H2)
  {α:Type} {Q:α->Shared->Prop} {f:Value->Value->Sem α}
  (hf:∀ v u s2 x y H2,Inv X pins σ H2 s2->RelV x v->RelV y u->R x y H2->wpAny (model X.prog X.w) X.A (f v u) Q X.xe s2) :
  wpAny (model X.prog X.w) X.A (eval a X.env) (λv s₁=>wpAny (model X.prog X.w) X.A (eval b X.env) (λu s₂=>wpAny (model X.prog X.w) X.A (f v u) Q X.xe s₂) X.xe s₁) X.xe s:=by
 refine thn (ha pins s σ H _ I h) λv s1 zz=>?_;obtain ⟨x,H1,I1,r1,q1⟩:=zz;refine thn (hb pins s1 σ H1 _ I1 q1) λu s2 zz=>?_;obtain ⟨y,H2,I2,r2,q2⟩:=zz;exact hf v u s2 x y H2 I2 r1 r2 q2
inductive XtVar (i:Nat) (σ:St) (H:Hp) (Q:VK):Prop where
 | mk (v:V) (z_0:σ[i]?=some (some v)) (z_1:Q v H):XtVar i σ H Q
def tVar (i:Nat):TE:=λσ H Q=>XtVar i σ H Q
inductive XBl (x:V) (P:Bool->Prop):Prop where
 | mk (c:Bool) (e:x=.bl c) (q:P c):XBl x P
def tC (v:V):TE:=λ_ H Q=>Q v H
theorem Fq {i:Nat} {x:Str} {pos:Pos} (hN:X.N[i]?=some x) (hv:Vis X.env.scope x) (hd:(x == ("__debug__":Str))=false:=by decide) (hcd:(x == ("__classdict__":Str))=false:=by decide):PE X (.Name x pos) (tVar i):=by
 intro pins s σ H Q I h;obtain ⟨v,e,h⟩:=h;obtain ⟨m,hn,hl⟩:=I.loc;obtain ⟨u,r,l⟩:=hl i x v hN e hv;have fin:EP X pins σ Q u s:=⟨v,H,I,r,h⟩;rcases l with ⟨hk,hm⟩ | ⟨hk,c,hc,hcell⟩
 ·exact wpAny_Name (wpAny_loadName_local I.ok.kind hk hn hm fin) hd
 ·rcases hk with hk | hk
  ·exact wpAny_Name (wpAny_loadName_cell I.ok.kind hk hc hcell fin) hd
  ·exact wpAny_Name (wpAny_loadName_free I.ok.kind hk hc hcell fin hcd) hd
theorem ak {i j pos}:PE X (.Constant (.int i) j pos) (tC (.int i)):=λ_ _ _ H _ I h=>wpAny_Constant_int ⟨.int i,H,I.tok _,⟨_,rfl⟩,h⟩
theorem nK {b j pos}:PE X (.Constant (.bool b) j pos) (tC (.bl b)):=λ_ _ _ H _ I h=>Constant_bool ⟨.bl b,H,I,rfl,h⟩
theorem rX {j pos}:PE X (.Constant .none j pos) (tC .non):=λ_ _ _ H _ I h=>Constant_none ⟨.non,H,I,rfl,h⟩
theorem aL {x j pos}:PE X (.Constant (.str x) j pos) (tC (.str x)):=λ_ _ _ H _ I h=>Calls.Constant_str ⟨.str x,H,I.tok _,⟨_,rfl⟩,h⟩
def Gl (X:Cx) (x:Str):Prop:=X.env.kindOf x=some .globalImplicit
theorem iz {E:Value->Shared->Prop} {pins:List (Addr×Obj)} {s:Shared} {σ:St} {H:Hp} {x:Str} {u:Value} {pos:Pos} {Q:Value->Shared->Prop} (I:Inv X pins σ H s) (hg:Gl X x) (hm:X.mg x=some u) (h:Q u s)
  (hd:(x == ("__debug__":Str))=false:=by decide):wpAny (model X.prog X.w) X.A (eval (.Name x pos) X.env) Q E s:=
 Calls.Name_function_global I.ok.kind hg (Calls.loadGlobal_global (by rw [I.ok.glob];exact I.mod.glob.keeps I.bk) hm h) hd
theorem oZ {E:Value->Shared->Prop} {pins:List (Addr×Obj)} {s:Shared} {σ:St} {H:Hp} {x:Str} {u:Value} {pos:Pos} {Q:Value->Shared->Prop} (I:Inv X pins σ H s) (hg:Gl X x) (hm:X.mg x=none) (hv:bootBuiltins x=some u) (h:Q u s)
  (hn:x≠"__name__":=by decide) (hd:(x == ("__debug__":Str))=false:=by decide):wpAny (model X.prog X.w) X.A (eval (.Name x pos) X.env) Q E s:=by
 obtain ⟨mb,h1,h2⟩:=I.mod.blt;exact Calls.Name_function_global I.ok.kind hg (Calls.loadGlobal_builtin (by rw [I.ok.glob];exact I.mod.glob.keeps I.bk) hm (by rw [I.ok.blt];exact h1.keeps I.bk) ((h2 x hn).trans hv) h) hd
theorem dN {x:Str} {v:V} {u:Value} {pos:Pos} (hg:Gl X x) (hm:X.mg x=some u) (r:RelV v u) (hd:(x == ("__debug__":Str))=false:=by decide):PE X (.Name x pos) (tC v):=
 λ_ _ _ H _ I h=>iz I hg hm ⟨v,H,I,r,h⟩ hd
theorem gE {x:Str} {v:V} {u:Value} {pos:Pos} (hg:Gl X x) (hm:X.mg x=none) (hv:bootBuiltins x=some u) (r:RelV v u) (hn:x≠"__name__":=by decide) (hd:(x == ("__debug__":Str))=false:=by decide):PE X (.Name x pos) (tC v):=
 λ_ _ _ H _ I h=>oZ I hg hm hv ⟨v,H,I,r,h⟩ hn hd
variable {a b:Expr} {ta tb:TE} {pos:Pos}
def PC (X:Cx) (op:CmpOp) (a b:Expr) (t:TE):Prop:=
 ∀(
  pins:List (Addr×Obj)) (s:Shared) (σ:St) (H:Hp) (Q:VK),Inv X pins σ H s->t σ H Q->
  wpAny (model X.prog X.w) X.A (eval a X.env) (λv s₁=>wpAny (model X.prog X.w) X.A (eval b X.env) (λu s₂=>wpAny (model X.prog X.w) X.A (compareOp op v u) (EP X pins σ Q) X.xe s₂) X.xe s₁) X.xe s
def tB (t:TE):TT:=λσ H Q=>t σ H λx H1=>XBl x λc=>Q c H1
theorem Fm {op:CmpOp} {t:TE} (h:PC X op a b t) (h1:behindInMarks op b=false:=by first | exact nobehind _ (by decide) (by decide) | rfl):PT X (.Compare a [op] [b] pos) (tB t):=by
 intro pins s σ H Q I hw;refine wpAny_isTrue_Compare1 (thn (h pins s σ H _ I hw) λv s1 h1=>thn h1 λu s2 h2=>thn h2 λc s3 zz=>?_) h1;obtain ⟨x,H1,I1,r1,q1⟩:=zz;obtain ⟨d,rfl,q⟩:=q1;cases r1
 exact wpAny_truthy_bool ⟨H1,I1,q⟩
theorem gq {e:Expr} {t:TE} (h:PE X e t) (he:∀ whole,isTrue e X.env whole=(do let v <- whole;standAt e.pos;holding [v] (truthy v)):=by intro _;rfl):PT X e (tB t):=by
 intro pins s σ H Q I hw;refine isTrue_plain (thn (h pins s σ H _ I hw) λv s1 zz=>?_) (he _);obtain ⟨x,H1,I1,r1,q1⟩:=zz;obtain ⟨d,rfl,q⟩:=q1;cases r1
 exact wpAny_truthy_bool ⟨H1,I1,q⟩
variable {tA tB':TT} {rest:List Expr}
def tAnd (t u:TT):TT:=λσ H Q=>t σ H λc H1=>if c=true then u σ H1 Q else Q false H1
def tOr (t u:TT):TT:=λσ H Q=>t σ H λc H1=>if c=true then Q true H1 else u σ H1 Q
def tNot (t:TT):TT:=λσ H Q=>t σ H λc H1=>Q (!c) H1
theorem qz (ha:PT X a tA):PW X (.BoolOp .And [a] pos) tA:=by
 intro wh pins s σ H Q I h;refine isTrue_and (thn (ha pins s σ H Q I h) λc s1 e=>?_);cases c with
 | true=>exact isTrue_and_nil e
 | false=>exact e
theorem oP (ha:PT X a tA):PW X (.BoolOp .Or [a] pos) tA:=by
 intro wh pins s σ H Q I h;refine isTrue_or (thn (ha pins s σ H Q I h) λc s1 e=>?_);cases c with
 | false=>exact isTrue_or_nil e
 | true=>exact e
theorem vF (ha:PT X a tA) (hb:PW X (.BoolOp .And (b::rest) pos) tB'):PW X (.BoolOp .And (a::b::rest) pos) (tAnd tA tB'):=by
 intro wh pins s σ H Q I h;refine isTrue_and (thn (ha pins s σ H _ I h) λc s1 zz=>?_);obtain ⟨H1,I1,q1⟩:=zz;cases c with
 | true=>exact hb wh pins s1 σ H1 Q I1 q1
 | false=>exact ⟨H1,I1,q1⟩
theorem nG (ha:PT X a tA) (hb:PW X (.BoolOp .Or (b::rest) pos) tB'):PW X (.BoolOp .Or (a::b::rest) pos) (tOr tA tB'):=by
 intro wh pins s σ H Q I h;refine isTrue_or (thn (ha pins s σ H _ I h) λc s1 zz=>?_);obtain ⟨H1,I1,q1⟩:=zz;cases c with
 | true=>exact ⟨H1,I1,q1⟩
 | false=>exact hb wh pins s1 σ H1 Q I1 q1
theorem ke (ha:PT X a tA):PT X (.UnaryOp .Not a pos) (tNot tA):=by
 intro pins s σ H Q I h;exact isTrue_not (ha pins s σ H (λc H1=>Q (!c) H1) I h)
def tAndV (ta tb:TE):TE:=λσ H Q=>ta σ H λx H1=>XBl x λc=>if c=true then tb σ H1 Q else Q (.bl false) H1
def tOrV (ta tb:TE):TE:=λσ H Q=>ta σ H λx H1=>XBl x λc=>if c=true then Q (.bl true) H1 else tb σ H1 Q
def tNotV (ta:TE):TE:=λσ H Q=>ta σ H λx H1=>XBl x λc=>Q (.bl (!c)) H1
theorem jr {op} {t:TE} (h:PE X a t):PE X (.BoolOp op [a] pos) t:=λpins s σ H Q I hw=>BoolOp_one (h pins s σ H Q I hw)
theorem rZ (ha:PE X a ta) (hb:PE X (.BoolOp .And (b::rest) pos) tb):PE X (.BoolOp .And (a::b::rest) pos) (tAndV ta tb):=by
 intro pins s σ H Q I h;refine BoolOp_and (thn (ha pins s σ H _ I h) λv s1 zz=>?_);obtain ⟨x,H1,I1,r1,q1⟩:=zz;obtain ⟨c,rfl,q1⟩:=q1;cases r1
 refine wpAny_truthy_bool ?_;cases c with
 | true=>exact hb pins s1 σ H1 Q I1 q1
 | false=>exact ⟨.bl false,H1,I1,rfl,q1⟩
theorem BA (ha:PE X a ta) (hb:PE X (.BoolOp .Or (b::rest) pos) tb):PE X (.BoolOp .Or (a::b::rest) pos) (tOrV ta tb):=by
 intro pins s σ H Q I h;refine BoolOp_or (thn (ha pins s σ H _ I h) λv s1 zz=>?_);obtain ⟨x,H1,I1,r1,q1⟩:=zz;obtain ⟨c,rfl,q1⟩:=q1;cases r1
 refine wpAny_truthy_bool ?_;cases c with
 | false=>exact hb pins s1 σ H1 Q I1 q1
 | true=>exact ⟨.bl true,H1,I1,rfl,q1⟩
theorem Ft (ha:PE X a ta):PE X (.UnaryOp .Not a pos) (tNotV ta):=by
 intro pins s σ H Q I h;refine UnaryOp_ (thn (ha pins s σ H _ I h) λv s1 zz=>?_);obtain ⟨x,H1,I1,r1,q1⟩:=zz;obtain ⟨c,rfl,q1⟩:=q1;cases r1
 exact not_of (wpAny_truthy_bool ⟨.bl (!c),H1,I1,rfl,q1⟩)
def tIf (t:TT) (ta tb:TE):TE:=λσ H Q=>t σ H λc H1=>if c=true then ta σ H1 Q else tb σ H1 Q
theorem iS {c:Expr} (hc:PT X c tA) (ha:PE X a ta) (hb:PE X b tb):PE X (.IfExp c a b pos) (tIf tA ta tb):=by
 intro pins s σ H Q I h;refine wpAny_IfExp (thn (hc pins s σ H _ I h) λd s1 zz=>?_);obtain ⟨H1,I1,q1⟩:=zz;cases d with
 | true=>exact ha pins s1 σ H1 Q I1 q1
 | false=>exact hb pins s1 σ H1 Q I1 q1
end
def SqL (K:W.Frag) (H:Hp) (a:Addr) (xs:List V):Prop:=
 Rd H a (.lst xs)\/
  ∃(o:Obj) (its:Array Value) (n:Nat),K.lookup a=some o/\o.cls=.type "list"/\o.dict=none/\o.data=.seq its n/\its.size<=sizeLine/\Vals xs its.toList
def SqT (K:W.Frag) (H:Hp) (a:Addr) (xs:List V):Prop:=
 Rd H a (.tup xs)\/
  ∃(o:Obj) (its:Array Value) (n:Nat),K.lookup a=some o/\o.cls=.type "tuple"/\o.data=.seq its n/\its.size<=sizeLine/\Vals xs its.toList
def absV:Value->Option V
 | .none=>some .non
 | .bool b=>some (.bl b)
 | .int i _=>some (.int i)
 | .str x _=>some (.str x)
 | .bytes b _=>some (.byt b)
 | .float b _=>some (.flt b)
 | .ref a=>some (.ref a)
 | .type n=>some (.ty n)
 | _=>none
theorem RelV.abs {x:V} {u:Value} (r:RelV x u):absV u=some x:=by
 cases x with
 | non=>cases r;rfl
 | bl _=>cases r;rfl
 | int _=>obtain ⟨t,rfl⟩:=r;rfl
 | str _=>obtain ⟨t,rfl⟩:=r;rfl
 | byt _=>obtain ⟨t,rfl⟩:=r;rfl
 | flt _=>obtain ⟨t,rfl⟩:=r;rfl
 | ref _=>cases r;rfl
 | ty _=>cases r;rfl
theorem RelV.inj {x y:V} {u:Value} (r:RelV x u) (q:RelV y u):x=y:=Option.some.inj (r.abs.symm.trans q.abs)
theorem Vals.inj:∀{xs ys:List V} {us:List Value},Vals xs us->Vals ys us->xs=ys
 | _,_,_,.nil,.nil=>rfl
 | _,_,_,.cons r t,.cons r' t'=>by rw [r.inj r',Vals.inj t t']
section
variable {X:Cx} {pins:List (Addr×Obj)} {σ:St} {H:Hp} {s:Shared} {a:Addr} {xs ys:List V}
theorem SqL.of {K:W.Frag} (h:H a=some (.lst xs)):SqL K H a xs:=.inl (.inl h)
theorem SqT.of {K:W.Frag} (h:H a=some (.tup xs)):SqT K H a xs:=.inl (.inl h)
theorem Inv.list (I:Inv X pins σ H s) (h:SqL X.K H a xs):∃ its:List Value,Vals xs its/\PlainL s.heap a its.toArray/\xs.length<=sizeLine:=by
 rcases h with h | ⟨o,its,n,hk,hc,hd,hs,hz,r⟩
 ·obtain ⟨z,its,n,r,e⟩:=h.ok I.hok;exact ⟨its,r,⟨_,n,e,rfl,rfl,rfl⟩,z⟩
 ·refine ⟨its.toList,r,⟨o,n,I.kIn a o hk,hc,hd,by simpa using hs⟩,?_⟩;have e:=r.length;simp only [Array.length_toList] at e;omega
theorem Inv.tuple (I:Inv X pins σ H s) (h:SqT X.K H a xs):∃ its:List Value,Vals xs its/\IsTup s.heap a its.toArray/\xs.length<=sizeLine:=by
 rcases h with h | ⟨o,its,n,hk,hc,hs,hz,r⟩
 ·obtain ⟨z,its,r,p⟩:=h.ok I.hok;exact ⟨its,r,p,z⟩
 ·refine ⟨its.toList,r,⟨o,I.kIn a o hk,hc,n,by simpa using hs⟩,?_⟩;have e:=r.length;simp only [Array.length_toList] at e;omega
theorem Inv.list_inj (I:Inv X pins σ H s) (h:SqL X.K H a xs) (h':SqL X.K H a ys):xs=ys:=by
 obtain ⟨its,r,⟨o,n,e,_,_,d⟩,_⟩:=I.list h;obtain ⟨its',r',⟨o',n',e',_,_,d'⟩,_⟩:=I.list h';rw [e] at e';cases e'
 rw [d] at d';injection d' with d1 _
 have:its=its':=by simpa using congrArg Array.toList d1
 subst this;exact r.inj r'
theorem Inv.tuple_inj (I:Inv X pins σ H s) (h:SqT X.K H a xs) (h':SqT X.K H a ys):xs=ys:=by
 obtain ⟨its,r,⟨o,e,_,n,d⟩,_⟩:=I.tuple h;obtain ⟨its',r',⟨o',e',_,n',d'⟩,_⟩:=I.tuple h';rw [e] at e';cases e'
 rw [d] at d';injection d' with d1 _
 have:its=its':=by simpa using congrArg Array.toList d1
 subst this;exact r.inj r'
end
abbrev Cx.wish (X:Cx) (E:Value->Shared->Prop):Cx:={X with xe:=E}
abbrev Cx.nox (X:Cx):Cx:=X.wish λ_ _=>False
theorem Cx.Ok.wish {X:Cx} (ok:X.Ok) (E:Value->Shared->Prop):(X.wish E).Ok:=
 ⟨ok.mod,ok.kind,ok.glob,ok.blt,ok.above,ok.inj,ok.has,ok.cab,ok.hd,ok.frames,ok.stk,ok.exf,ok.bs,ok.bsz,ok.noex,ok.exfs,ok.funs,ok.frf⟩
theorem Cx.Ok.unwish {X:Cx} {E:Value->Shared->Prop} (ok:(X.wish E).Ok):X.Ok:=
 ⟨ok.mod,ok.kind,ok.glob,ok.blt,ok.above,ok.inj,ok.has,ok.cab,ok.hd,ok.frames,ok.stk,ok.exf,ok.bs,ok.bsz,ok.noex,ok.exfs,ok.funs,ok.frf⟩
section
variable {X:Cx} {pins:List (Addr×Obj)} {σ:St} {H:Hp} {s:Shared} {E:Value->Shared->Prop}
theorem Inv.wish (I:Inv X pins σ H s) (E:Value->Shared->Prop):Inv (X.wish E) pins σ H s:=⟨I.ok.wish E,I.os,I.bare,I.base,I.loc,I.cell,I.free,I.freeC,I.pin,I.hok,I.len⟩
theorem Inv.unwish (I:Inv (X.wish E) pins σ H s):Inv X pins σ H s:=⟨I.ok.unwish,I.os,I.bare,I.base,I.loc,I.cell,I.free,I.freeC,I.pin,I.hok,I.len⟩
theorem SP.unwish {D:Ends} {f:Flow} {s':Shared} (h:SP (X.wish E) pins D f s'):SP X pins D f s':=by
 cases f with
 | next=>obtain ⟨σ',H',I,q⟩:=h;exact ⟨σ',H',I.unwish,q⟩
 | brk=>obtain ⟨σ',H',I,q⟩:=h;exact ⟨σ',H',I.unwish,q⟩
 | cont=>obtain ⟨σ',H',I,q⟩:=h;exact ⟨σ',H',I.unwish,q⟩
 | ret u=>obtain ⟨v,σ',H',I,r,q⟩:=h;exact ⟨v,σ',H',I.unwish,r,q⟩
theorem PSs.nox {st:List Stmt} {t:TS} (h:PSs X.nox st t):PSs X st t:=λpins s σ H D I hw =>
 wpAny_mono (h pins s σ H D (I.wish _) hw) (λ_ _ q=>q.unwish) λ_ _ z=>False.elim z
end
section
variable {X:Cx} {st:Stmt} {rest:List Stmt} {t u:TS} {e:Expr} {te:TE} {pos:Pos}
def tNext:TS:=λD σ H=>D.nx σ H
def tSeq (t u:TS):TS:=λD σ H=>t {D with nx:=u D} σ H
theorem aI:PSs X [] tNext:=λ_ _ σ H _ I h=>wpAny_execs_nil ⟨σ,H,I,h⟩
theorem ai (h1:PS X st t) (h2:PSs X rest u):PSs X (st::rest) (tSeq t u):=by
 intro pins s σ H D I h;refine wpAny_execs_cons (thn (h1 pins s σ H {D with nx:=u D} I h) λf s1 q=>?_)
 cases f with
 | next =>
  obtain ⟨σ',H',I',q⟩:=q;exact h2 pins s1 σ' H' D I' q
 | ret v=>exact q
 | brk=>exact q
 | cont=>exact q
theorem aj (h1:PS X st t):PSs X [st] t:=by
 intro pins s σ H D I h;refine wpAny_execs_cons (thn (h1 pins s σ H D I h) λf s1 q=>?_);cases f with
 | next=>exact wpAny_execs_nil q
 | ret v=>exact q
 | brk=>exact q
 | cont=>exact q
theorem Inv.quiet {pins:List (Addr×Obj)} {σ:St} {H:Hp} {s:Shared} (I:Inv X pins σ H s):interactive X.env=false:=by simp [interactive,I.ok.kind]
def tDrop (te:TE):TS:=λD σ H=>te σ H λ_ H1=>D.nx σ H1
theorem bg (he:PE X e te) (hs:swapsWith e none pos.line X.env=pure false:=by rfl):PS X (.Expr e pos) (tDrop te):=by
 intro pins s σ H D I h;refine wpAny_Expr_any (thn (he pins s σ H _ I h) λv s1 zz=>?_) I.quiet hs;obtain ⟨x,H1,I1,r1,q1⟩:=zz;exact ⟨σ,H1,I1,q1⟩
def tRet (te:TE):TS:=λD σ H=>te σ H D.rt
theorem aw (he:PE X e te):PS X (.Return (some e) pos) (tRet te):=by
 intro pins s σ H D I h;refine wpAny_Return_some (thn (he pins s σ H _ I h) λv s1 zz=>?_);obtain ⟨x,H1,I1,r1,q1⟩:=zz;exact ⟨x,σ,H1,I1,r1,q1⟩
def tIfS (c:TT) (t u:TS):TS:=λD σ H=>c σ H λb H1=>if b=true then t D σ H1 else u D σ H1
theorem aY {c:Expr} {a b:List Stmt} {tc:TT} (hc:PT X c tc) (ha:PSs X a t) (hb:PSs X b u):PS X (.If c a b pos) (tIfS tc t u):=by
 intro pins s σ H D I h;refine wpAny_If (thn (hc pins s σ H _ I h) λd s1 zz=>?_);obtain ⟨H1,I1,q1⟩:=zz;cases d with
 | true=>exact ha pins s1 σ H1 D I1 q1
 | false=>exact hb pins s1 σ H1 D I1 q1
def tNever:TS:=λ_ _ _=>False
theorem nI:PS X st tNever:=λ_ _ _ _ _ _ h=>h.elim
end
abbrev TG:=V->St->Hp->(St->Hp->Prop)->Prop
abbrev TGs:=List V->St->Hp->(St->Hp->Prop)->Prop
def PG (X:Cx) (target:Expr) (t:TG):Prop:=
 ∀(
  pins:List (Addr×Obj)) (s:Shared) (σ:St) (H:Hp) (v:V) (u:Value) (Q:St->Hp->Prop),Inv X pins σ H s->RelV v u->t v σ H Q->
  wpAny (model X.prog X.w) X.A (assign target X.env u) (λ_ s'=>∃ σ' H',Inv X pins σ' H' s'/\Q σ' H') X.xe s
def PGs (X:Cx) (ts:List Expr) (t:TGs):Prop:=
 ∀(
  pins:List (Addr×Obj)) (s:Shared) (σ:St) (H:Hp) (vs:List V) (us:List Value) (Q:St->Hp->Prop),Inv X pins σ H s->Vals vs us->t vs σ H Q->
  wpAny (model X.prog X.w) X.A (assignInOrder ((assignEach ts X.env).map (·.2)) us) (λ_ s'=>∃ σ' H',Inv X pins σ' H' s'/\Q σ' H') X.xe s
abbrev TSet:=V->V->V->Hp->(Hp->Prop)->Prop
def PSet (X:Cx) (t:TSet):Prop:=
 ∀(
  pins:List (Addr×Obj)) (s:Shared) (σ:St) (H:Hp) (o i v:V) (ov iv u:Value) (Q:Hp->Prop),Inv X pins σ H s->RelV o ov->RelV i iv->RelV v u->t o i v H Q->
  wpAny (model X.prog X.w) X.A (setItem ov iv u) (λ_ s'=>∃ H',Inv X pins σ H' s'/\Q H') X.xe s
abbrev TIp:=V->V->Hp->VK->Prop
def PIp (X:Cx) (op:Operator) (t:TIp):Prop:=
 ∀(
  pins:List (Addr×Obj)) (s:Shared) (σ:St) (H:Hp) (x y:V) (v u:Value) (Q:VK),Inv X pins σ H s->RelV x v->RelV y u->t x y H Q->
  wpAny (model X.prog X.w) X.A (inplaceOp op v u) (EP X pins σ Q) X.xe s
section
variable {X:Cx} {pos:Pos}
def pZ (i:Nat):TG:=λv σ H Q=>Q (σ.set i (some v)) H
theorem aP {i:Nat} {x:Str} (hN:X.N.Nodup) (hi:X.N[i]?=some x) (hx:Loc X.env.scope x) (hf:X.fn x=true\/X.env.scope.names.lookup x=some .local:=by first | exact .inl rfl | exact .inr rfl | assumption):PG X (.Name x pos) (pZ i):=by
 intro pins s σ H v u Q I r h;exact wpAny_assign_Name (mU I hN hi hx r (λs' I'=>⟨_,H,I',h⟩) hf)
def gNil:TGs:=λvs σ H Q=>vs=[]/\Q σ H
def gCons (t:TG) (u:TGs):TGs:=λvs σ H Q=>∃ v r,vs=v::r/\t v σ H λσ' H'=>u r σ' H' Q
theorem fh:PGs X [] gNil:=by
 intro pins s σ H vs us Q I r h;obtain ⟨e,h⟩:=h;subst e;cases r
 exact assignInOrder_nil ⟨σ,H,I,h⟩
theorem ba {e:Expr} {es:List Expr} {t:TG} {u:TGs} (h1:PG X e t) (h2:PGs X es u)
  (hs:(assignEach (e::es) X.env).map (·.2)=assign e X.env::(assignEach es X.env).map (·.2):=by rfl):PGs X (e::es) (gCons t u):=by
 intro pins s σ H vs us Q I r h;obtain ⟨v,vr,e1,h⟩:=h;subst e1;cases r with
 | cons r rr =>
  rw [hs];refine assignInOrder_cons (thn (h1 pins s σ H _ _ _ I r h) λ_ s1 zz=>?_);obtain ⟨σ1,H1,I1,q1⟩:=zz;exact h2 pins s1 σ1 H1 _ _ Q I1 rr q1
def gTup (K:W.Frag) (n:Nat) (t:TGs):TG:=λv σ H Q=>∃ a xs,v=.ref a/\SqT K H a xs/\xs.length=n/\t xs σ H Q
theorem kh {es:List Expr} {k:Nat} {t:TGs} {n:Nat} (hc:X.calm=true) (h:PGs X es t)
  (hn:(assignEach es X.env).length=n:=by rfl) (hst:(assignEach es X.env).findIdx? (·.1)=none:=by rfl):PG X (.Tuple es k pos) (gTup X.K n t):=by
 intro pins s σ H v u Q I r hw;obtain ⟨a,xs,e1,hq,hl,hw⟩:=hw;subst e1;cases r
 obtain ⟨its,rv,ht,hz⟩:=I.tuple hq;refine assign_Tuple_tuple (I.ok.hd hc) ht (by simp [hn,<- hl,rv.length]) hst λh' hx=>?_;have I1:Inv X pins σ H {s with heap:=h' }:=I.kept (t':=s.toks) λb o e=>hx b o (Nat.ne_of_lt (Heap.lt_size e)) e
 exact h pins _ σ H xs _ Q I1 (by simpa using rv) hw
def gSub (to ti:TE) (t:TSet):TG:=λv σ H Q=>to σ H λo H1=>ti σ H1 λi H2=>t o i v H2 λH3=>Q σ H3
theorem vJ {o i:Expr} {to ti:TE} {t:TSet} (ho:PE X o to) (hi:PE X i ti) (hs:PSet X t)
  (ha:∀ v,assign (.Subscript o i pos) X.env v=(do
   let ov <- holding [v] (eval o X.env)
   let iv <- holding [v,ov] (eval i X.env)
   standAt pos
   holding [v,ov,iv] (setItem ov iv v)
   release [v,ov,iv] []):=by intro _;rfl):PG X (.Subscript o i pos) (gSub to ti t):=by
 intro pins s σ H v u Q I r h;rw [ha];refine wpAny_bind (wpAny_holding (thn (ho pins s σ H _ I h) λov s1 zz=>?_));obtain ⟨x,H1,I1,r1,q1⟩:=zz;refine wpAny_bind (wpAny_holding (thn (hi pins s1 σ H1 _ I1 q1) λiv s2 zz=>?_));obtain ⟨y,H2,I2,r2,q2⟩:=zz;refine wpAny_bind (wpAny_standAt (wpAny_bind (wpAny_holding (thn (hs pins s2 σ H2 x y v ov iv u _ I2 r1 r2 r q2) λ_ s3 zz=>?_))));obtain ⟨H3,I3,q3⟩:=zz;exact wpAny_release ⟨σ,H3,I3,q3⟩
def tAsg (te:TE) (g:TG):TS:=λD σ H=>te σ H λx H1=>g x σ H1 D.nx
theorem vI {tg e:Expr} {te:TE} {g:TG} (he:PE X e te) (hg:PG X tg g) (hs:swapsWithSole [tg] e pos.line X.env=pure false:=by rfl) (hw:swappedStores [tg] e X.env=pure none:=by rfl)
  (h1:(assignEach [tg] X.env).map (·.2)=[assign tg X.env]:=by rfl):PS X (.Assign [tg] e pos) (tAsg te g):=by
 intro pins s σ H D I h;refine wpAny_Assign_stores (thn (he pins s σ H _ I h) λv s1 zz=>?_) hs hw;obtain ⟨x,H1,I1,r1,q1⟩:=zz;rw [h1];exact thn (hg pins s1 σ H1 x v _ I1 r1 q1) λ_ s2 q=>q
theorem aJ {i:Nat} {x:Str} {e:Expr} {te:TE} {pos':Pos} (hN:X.N.Nodup) (hi:X.N[i]?=some x) (hx:Loc X.env.scope x) (he:PE X e te) (hs:swapsWith e (some (.Name x pos')) pos.line X.env=pure false:=by rfl) (hf:X.fn x=true\/X.env.scope.names.lookup x=some .local:=by first | exact .inl rfl | exact .inr rfl | assumption) :
  PS X (.Assign [.Name x pos'] e pos) (tAsg te (pZ i)):=by
 intro pins s σ H D I h;refine wpAny_Assign_Name (thn (he pins s σ H _ I h) λv s1 zz=>?_) hs;obtain ⟨y,H1,I1,r1,q1⟩:=zz;exact mU I1 hN hi hx r1 (λs2 I2=>⟨_,H1,I2,q1⟩) hf
def tAug (i:Nat) (te:TE) (ti:TIp):TS:=λD σ H=>∃ x,σ[i]?=some (some x)/\te σ H λy H1=>ti x y H1 λz H2=>D.nx (σ.set i (some z)) H2
theorem Fn {i:Nat} {x:Str} {e:Expr} {te:TE} {op:Operator} {ti:TIp} {pos':Pos} (hN:X.N.Nodup) (hi:X.N[i]?=some x) (hx:Loc X.env.scope x) (he:PE X e te) (ho:PIp X op ti) (hf:X.fn x=true\/X.env.scope.names.lookup x=some .local:=by first | exact .inl rfl | exact .inr rfl | assumption) :
  PS X (.AugAssign (.Name x pos') op e pos) (tAug i te ti):=by
 intro pins s σ H D I h;obtain ⟨v,e1,h⟩:=h;obtain ⟨m,hn,hl⟩:=I.loc;have vis:Vis X.env.scope x:=by rcases hx with k | k;exact .inl k;exact .inr (.inl k)
 obtain ⟨u,r,l⟩:=hl i x v hi e1 vis;refine wpAny_AugAssign_Name ?_
 have go:wpAny (model X.prog X.w) X.A (eval e X.env) (λw s₂=>wpAny (model X.prog X.w) X.A (inplaceOp op u w) (λr s₃=>wpAny (model X.prog X.w) X.A (storeName X.env x r) (λ_=>SP X pins D .next) X.xe s₃) X.xe s₂) X.xe s:=by
  refine thn (he pins s σ H _ I h) λw s1 zz=>?_;obtain ⟨y,H1,I1,r1,q1⟩:=zz;refine thn (ho pins s1 σ H1 v y u w _ I1 r r1 q1) λz s2 zz=>?_;obtain ⟨zv,H2,I2,r2,q2⟩:=zz;exact mU I2 hN hi hx r2 (λs3 I3=>⟨_,H2,I3,q2⟩) hf
 rcases l with ⟨hk,hm⟩ | ⟨hk,c,hc,hcell⟩
 ·exact wpAny_loadName_local I.ok.kind hk hn hm go
 ·rcases hk with hk | hk
  ·exact wpAny_loadName_cell I.ok.kind hk hc hcell go
  ·rcases hx with k | k
   ·have:X.env.scope.names.lookup x=some .free:=hk;rw [k] at this;cases this
   ·have:X.env.scope.names.lookup x=some .free:=hk;rw [k] at this;cases this
def ipI (f:Int->Int->Int):TIp:=λx y H Q=>∃ i j,x=.int i/\y=.int j/\Q (.int (f i j)) H
theorem GK:PIp X .Add (ipI λi j=>i+j):=by
 intro pins s σ H x y v u Q I r1 r2 h;obtain ⟨i,j,e1,e2,q⟩:=h;subst e1;subst e2;obtain ⟨t,rfl⟩:=r1;obtain ⟨t',rfl⟩:=r2;exact iadd_int ⟨.int _,H,I.tok _,⟨_,rfl⟩,q⟩
end
section
variable {X:Cx} {pos:Pos}
def tWhile (c:TT) (tb:TS):TS:=λD σ H=>∃ W:Nat->St->Hp->Prop,(∃ m,W m σ H)/\∀ m σ H,W m σ H->
 c σ H λb H1=>if b=true then ∃ N:St->Hp->Prop,(∀ σ' H',N σ' H'->∃ m',m' < m/\W m' σ' H')/\tb {D with nx:=N,ct:=N,bk:=D.nx} σ H1 else D.nx σ H1
theorem kg {c:Expr} {body:List Stmt} {tc:TT} {tb:TS} (hp:PassesOwn (model X.prog X.w) X.A X.env X.xe) (hc:PT X c tc) (hb:PSs X body tb):PS X (.While c body [] pos) (tWhile tc tb):=by
 intro pins s σ H D I h;obtain ⟨W,⟨m0,w0⟩,turn⟩:=h;refine wpAny_While (codeAny_whileLoop (λn s'=>∃ σ' H',Inv X pins σ' H' s'/\W n σ' H') ?_ m0 ⟨σ,H,I,w0⟩);rintro n s1 ⟨σ1,H1,I1,w1⟩
 refine wpAny_passesOwn hp (thn (hc pins s1 σ1 H1 _ I1 (turn n σ1 H1 w1)) λb s2 zz=>?_);obtain ⟨H2,I2,q2⟩:=zz;cases b with
 | true =>
  obtain ⟨N,hN,q2⟩:=q2;rw [if_pos rfl];refine wpAny_passesOwn hp (thn (hb pins s2 σ1 H2 _ I2 q2) λf s3 q3=>?_);cases f with
  | next =>
   obtain ⟨σ3,H3,I3,n3⟩:=q3;obtain ⟨m',hm,w3⟩:=hN σ3 H3 n3;exact ⟨m',hm,σ3,H3,I3,w3⟩
  | cont =>
   obtain ⟨σ3,H3,I3,n3⟩:=q3;obtain ⟨m',hm,w3⟩:=hN σ3 H3 n3;exact ⟨m',hm,σ3,H3,I3,w3⟩
  | brk=>exact q3
  | ret v=>exact q3
 | false =>
  rw [if_neg Bool.false_ne_true];exact wpAny_execs_nil ⟨σ1,H2,I2,q2⟩
end
structure It where
 go:Nat->Hp->Prop
 yld:Nat->Hp->V->Hp->Prop
 stop:Nat->Hp->Prop
def jJ (X:Cx) (pins:List (Addr×Obj)) (H:Hp) (b:Addr):Prop:=
 H b=none/\b≠X.env.locals/\b ∉ X.fs/\(b∈X.ex\/X.s₀.heap.objs.size<=b)/\(∀ x c,X.env.cells.lookup x=some c->c≠b)/\∀ p∈X.pn++pins,p.1≠b
theorem Inv.fpOk {X:Cx} {pins:List (Addr×Obj)} {σ:St} {H H':Hp} {s:Shared} {b:Addr} (I:Inv X pins σ H s) (hb:s.heap.objs.size<=b) (hn:H' b=none):jJ X pins H' b:=by
 refine ⟨hn,Nat.ne_of_gt (Nat.lt_of_lt_of_le I.lt hb),I.nofs hb,.inr (Nat.le_trans I.sz hb),λx c e z=>?_,λp hp z=>?_⟩
 ·obtain ⟨v,q⟩:=I.cell x c e;exact absurd (Nat.lt_of_lt_of_le q.lt (by rw [z];exact hb)) (Nat.lt_irrefl _)
 ·exact absurd (Nat.lt_of_lt_of_le (Heap.lt_size (I.pin p hp).1) (by rw [z];exact hb)) (Nat.lt_irrefl _)
structure Turn (P:Program) (w:World) (K:W.Frag) (tg:Expr) (J:It) (fp:List Addr) (it:Addr) (tn:Nat->Heap->Prop):Prop where
 mem:it∈fp
 obj:∀ i h,tn i h->∀ b∈fp,∃ o,h.get? b=some o/\∀ v,o.data≠.cell v
 keep:∀ i h h',tn i h->(∀ b∈fp,∀ o,h.get? b=some o->h'.get? b=some o)->tn i h'
 item:∀(X:Cx),X.prog=P->X.w=w->X.K=K->X.calm=true->∀(i:Nat) (pins:List (Addr×Obj)) (s:Shared) (σ:St) (H:Hp) (E:Value->Shared->Prop),Inv X pins σ H s->(∀ b∈fp,jJ X pins H b)->tn i s.heap->J.go i H->
  wpAny (model P w) X.A (pyNext (.ref it)) (λr s1=>∃ u,r=some u/\
   wpAny (model P w) X.A (letOwnedTupleGo tg (.ref it) u) (λ_ s2=>∃ x H',Inv X pins σ H' s2/\RelV x u/\J.yld i H x H'/\tn (i+1) s2.heap/\∀ b∈fp,H' b=none) E s1) E s
 done:∀(X:Cx),X.prog=P->X.w=w->X.K=K->X.calm=true->∀(i:Nat) (pins:List (Addr×Obj)) (s:Shared) (σ:St) (H:Hp) (E:Value->Shared->Prop),Inv X pins σ H s->(∀ b∈fp,jJ X pins H b)->tn i s.heap->J.stop i H->
  wpAny (model P w) X.A (pyNext (.ref it)) (λr s1=>r=none/\Inv X pins σ H s1) E s
 self:∀(A:Around) (i:Nat) (s:Shared) (Q:Value->Shared->Prop) (E:Value->Shared->Prop),tn i s.heap->Q (.ref it) s->wpAny (model P w) A (pyIter (.ref it)) Q E s
abbrev TI:=St->Hp->(It->Hp->Prop)->Prop
def PIE (X:Cx) (pins:List (Addr×Obj)) (σ:St) (tg:Expr) (R:It->Hp->Prop) (itv:Value) (s2:Shared):Prop:=
 ∃(it:Addr) (fp:List Addr) (tn:Nat->Heap->Prop) (J:It) (H':Hp),itv=.ref it/\Inv X pins σ H' s2/\Turn X.prog X.w X.K tg J fp it tn/\tn 0 s2.heap/\(∀ b∈fp,jJ X pins H' b)/\R J H'
def PI (X:Cx) (tg iter:Expr) (wi:TI):Prop:=
 ∀(
  pins:List (Addr×Obj)) (s:Shared) (σ:St) (H:Hp) (R:It->Hp->Prop),Inv X pins σ H s->wi σ H R->
  wpAny (model X.prog X.w) X.A (eval iter X.env) (λv s1=>wpAny (model X.prog X.w) X.A (pyIter v) (PIE X pins σ tg R) X.xe s1) X.xe s
theorem BZ {M:Model} {A:Around} {E:Value->Shared->Prop} {s:Shared} {tg:Expr} {it:Addr} {u:Value} {o:Obj} {n:String} {vs:Array Value} {Q:Unit->Shared->Prop} (ho:s.heap.get? it=some o) (hc:o.cls=.type n) (hd:o.data=.fields vs)
  (hn:["enumerate","zip","dict_itemiterator","dict_reverseitemiterator","odict_iterator","itertools.zip_longest","itertools.pairwise"].contains n=false) (hQ:Q () s):wpAny M A (letOwnedTupleGo tg (.ref it) u) Q E s:=by
 unfold letOwnedTupleGo
 cases tg <;> first
  | exact wpAny_pure hQ
  | (cases u <;> first
    | exact wpAny_pure hQ
    | (
     refine wpAny_bind (wpAny_load ho ?_);rw [hc,hd];show wpAny M A (if (["enumerate","zip","dict_itemiterator","dict_reverseitemiterator","odict_iterator","itertools.zip_longest","itertools.pairwise"].contains n && vs[0]? == some (rawInt _))=true then _ else _) Q E s;rw [if_neg (by intro h;rw [hn,Bool.false_and] at h;cases h)]
     exact wpAny_pure hQ))
def Itl (K:W.Frag) (a:Addr):It:=
 ⟨λi H=>∃ xs x,SqL K H a xs/\xs[i]?=some x,λi H x H'=>H'=H/\∀ xs,SqL K H a xs->xs[i]?=some x,λi H=>∃ xs,SqL K H a xs/\xs.length<=i⟩
def Itt (K:W.Frag) (a:Addr):It:=
 ⟨λi H=>∃ xs x,SqT K H a xs/\xs[i]?=some x,λi H x H'=>H'=H/\∀ xs,SqT K H a xs->xs[i]?=some x,λi H=>∃ xs,SqT K H a xs/\xs.length<=i⟩
def Itr (lo:Int) (n:Nat):It:=⟨λi _=>i < n,λi H x H'=>H'=H/\x=.int (lo+i),λi _=>n<=i⟩
theorem CD {P:Program} {w:World} {K:W.Frag} {tg:Expr} (a it:Addr):Turn P w K tg (Itl K a) [it] it (λi h=>h.IsListIter it a i) where
 mem:=by simp
 obj:=λi h st b hb=>by
  have e:b=it:=by simpa using hb
  subst e;obtain ⟨o,e,c,d⟩:=st;exact ⟨o,e,λv z=>by rw [d] at z;cases z⟩
 keep:=λi h h' st k=>st.at λo e=>k it (by simp) o e
 item:=by
  intro X hP hw hK hc i pins s σ H E I hf st hg;subst hP hw hK;obtain ⟨xs,x,hq,hx⟩:=hg;obtain ⟨its,rv,p,hz⟩:=I.list hq;obtain ⟨u,hu,ru⟩:=rv.get hx;obtain ⟨f0,f1,f2,f3,f4,f5⟩:=hf it (by simp);refine wpAny_pyNext_list_item st p.isList (x:=u) (by simpa using hu) λh' st' sb=>?_;have I1:Inv X pins σ H {s with heap:=h' }:=I.turned (t':=s.toks) (λb o hb e=>(sb.2 b hb).trans e) f0 f1 f3 f4 f5
  obtain ⟨o,e,c,d⟩:=id st';exact ⟨u,rfl,BZ (s:={s with heap:=h' }) e c d (by decide) ⟨x,H,I1,ru,⟨rfl,λys hy=>by rw [I.list_inj hy hq];exact hx⟩,st',λb hb=>(hf b hb).1⟩⟩
 done:=by
  intro X hP hw hK hc i pins s σ H E I hf st hg;subst hP hw hK;obtain ⟨xs,hq,hx⟩:=hg;obtain ⟨its,rv,p,hz⟩:=I.list hq;obtain ⟨f0,f1,f2,f3,f4,f5⟩:=hf it (by simp);have hl:=rv.length;exact wpAny_pyNext_list_end (I.ok.hd hc) st p.isList (by simp;omega) λh' eb=>⟨rfl,I.turned (t':=s.toks) (λb o hb e=>eb b o hb e) f0 f1 f3 f4 f5⟩
 self:=λ_ _ _ _ _ st h=>wpAny_pyIter_listiter st h
theorem zg {P:Program} {w:World} {K:W.Frag} {tg:Expr} (a it:Addr):Turn P w K tg (Itt K a) [it] it (λi h=>h.IsTupleIter it a i) where
 mem:=by simp
 obj:=λi h st b hb=>by
  have e:b=it:=by simpa using hb
  subst e;obtain ⟨o,e,c,d⟩:=st;exact ⟨o,e,λv z=>by rw [d] at z;cases z⟩
 keep:=λi h h' st k=>st.at λo e=>k it (by simp) o e
 item:=by
  intro X hP hw hK hc i pins s σ H E I hf st hg;subst hP hw hK;obtain ⟨xs,x,hq,hx⟩:=hg;obtain ⟨its,rv,p,hz⟩:=I.tuple hq;obtain ⟨u,hu,ru⟩:=rv.get hx;obtain ⟨f0,f1,f2,f3,f4,f5⟩:=hf it (by simp);refine wpAny_pyNext_tuple_item st (show s.heap.IsTuple a its.toArray from p) (x:=u) (by simpa using hu) λh' st' sb=>?_;have I1:Inv X pins σ H {s with heap:=h' }:=I.turned (t':=s.toks) (λb o hb e=>(sb.2 b hb).trans e) f0 f1 f3 f4 f5
  obtain ⟨o,e,c,d⟩:=id st';exact ⟨u,rfl,BZ (s:={s with heap:=h' }) e c d (by decide) ⟨x,H,I1,ru,⟨rfl,λys hy=>by rw [I.tuple_inj hy hq];exact hx⟩,st',λb hb=>(hf b hb).1⟩⟩
 done:=by
  intro X hP hw hK hc i pins s σ H E I hf st hg;subst hP hw hK;obtain ⟨xs,hq,hx⟩:=hg;obtain ⟨its,rv,p,hz⟩:=I.tuple hq;obtain ⟨f0,f1,f2,f3,f4,f5⟩:=hf it (by simp);have hl:=rv.length;exact wpAny_pyNext_tuple_end (I.ok.hd hc) st (show s.heap.IsTuple a its.toArray from p) (by simp;omega) λh' eb=>⟨rfl,I.turned (t':=s.toks) (λb o hb e=>eb b o hb e) f0 f1 f3 f4 f5⟩
 self:=λ_ _ _ _ _ st h=>wpAny_pyIter_tupleiter st h
theorem zh {P:Program} {w:World} {K:W.Frag} {tg:Expr} (it:Addr) (lo:Int) (n:Nat):Turn P w K tg (Itr lo n) [it] it (λi h=>IsRangeIter h it (lo+(i:Nat)*1) ((n:Int) - (i:Nat)) 1) where
 mem:=by simp
 obj:=λi h st b hb=>by
  have e:b=it:=by simpa using hb
  subst e
  exact ⟨_,st,λv z=>by
   have z':Data.fields _=Data.cell v:=z;cases z'⟩
 keep:=λi h h' st k=>k it (by simp) _ st
 item:=by
  intro X hP hw hK hc i pins s σ H E I hf st hg;subst hP hw hK;obtain ⟨f0,f1,f2,f3,f4,f5⟩:=hf it (by simp);have W:=Walks.range (prog:=X.prog) (w:=X.w) (I.ok.hd hc) it lo 1 n;refine W.item i s _ _ hg st λv h' tk hv st' kk=>?_;obtain ⟨t,rfl⟩:=hv;have I1:Inv X pins σ H {s with heap:=h',toks:=tk}:=I.turned (λb o hb e=>kk b o (by simpa using hb) e) f0 f1 f3 f4 f5
  refine ⟨_,rfl,BZ (s:={s with heap:=h',toks:=tk}) (n:="range_iterator") st' rfl rfl (by decide) ⟨.int (lo+i),H,I1,⟨t,?_⟩,⟨rfl,rfl⟩,st',λb hb=>(hf b hb).1⟩⟩
  rw [Int.mul_one]
 done:=by
  intro X hP hw hK hc i pins s σ H E I hf st hg;subst hP hw hK;obtain ⟨f0,f1,f2,f3,f4,f5⟩:=hf it (by simp);exact wpAny_pyNext_range_end (I.ok.hd hc) st (by have:n<=i:=hg;omega) λh' eb=>⟨rfl,I.turned (t':=s.toks) (λb o hb e=>eb b o hb e) f0 f1 f3 f4 f5⟩
 self:=λ_ _ _ _ _ st h=>wpAny_pyIter_rangeiter st h
section
variable {X:Cx} {tg:Expr}
def iList (K:W.Frag) (tl:TE):TI:=λσ H R=>tl σ H λx H1=>∃ a,x=.ref a/\(∃ xs,SqL K H1 a xs)/\R (Itl K a) H1
def iTup (K:W.Frag) (tl:TE):TI:=λσ H R=>tl σ H λx H1=>∃ a,x=.ref a/\(∃ xs,SqT K H1 a xs)/\R (Itt K a) H1
theorem fg {l:Expr} {tl:TE} (hl:PE X l tl):PI X tg l (iList X.K tl):=by
 intro pins s σ H R I h;refine thn (hl pins s σ H _ I h) λv s1 zz=>?_;obtain ⟨x,H1,I1,r1,q1⟩:=zz;obtain ⟨a,e,⟨xs,hq⟩,q⟩:=q1;subst e;cases r1
 obtain ⟨its,rv,p,hz⟩:=I1.list hq;refine wpAny_pyIter_list p.isList ?_;refine ⟨s1.heap.objs.size,[s1.heap.objs.size],_,_,H1,rfl,I1.kept (t':=s1.toks) λb o e=>Heap.get?_push_of_some _ e,CD a _,⟨_,Heap.get?_push_size _ rfl,rfl,rfl⟩,λb hb=>?_,q⟩;have e:b=s1.heap.objs.size:=by simpa using hb
 subst e;exact I1.fpOk (Nat.le_refl _) (I1.hok.fresh (Nat.le_refl _))
theorem iI {l:Expr} {tl:TE} (hl:PE X l tl):PI X tg l (iTup X.K tl):=by
 intro pins s σ H R I h;refine thn (hl pins s σ H _ I h) λv s1 zz=>?_;obtain ⟨x,H1,I1,r1,q1⟩:=zz;obtain ⟨a,e,⟨xs,hq⟩,q⟩:=q1;subst e;cases r1
 obtain ⟨its,rv,p,hz⟩:=I1.tuple hq;refine wpAny_pyIter_tuple (show s1.heap.IsTuple a its.toArray from p) ?_;refine ⟨s1.heap.objs.size,[s1.heap.objs.size],_,_,H1,rfl,I1.kept (t':=s1.toks) λb o e=>Heap.get?_push_of_some _ e,zg a _,⟨_,Heap.get?_push_size _ rfl,rfl,rfl⟩,λb hb=>?_,q⟩;have e:b=s1.heap.objs.size:=by simpa using hb
 subst e;exact I1.fpOk (Nat.le_refl _) (I1.hok.fresh (Nat.le_refl _))
theorem Ff {pins:List (Addr×Obj)} {σ:St} {H:Hp} {s:Shared} {R:It->Hp->Prop} {E:Value->Shared->Prop} {lo hi:Int} {t u v:Tok} {tk:Nat} (I:Inv X pins σ H s) (h1:-(2 ^ 62)<=lo) (h2:lo < 2 ^ 62) (h3:-(2 ^ 62)<=hi) (h4:hi < 2 ^ 62)
  (q:R (Itr lo (hi - lo).toNat) H):wpAny (model X.prog X.w) X.A (pyIter (.ref s.heap.objs.size)) (PIE X pins σ tg R) E {s with heap:=s.heap.push {cls:=.type "range",data:=.fields #[.int lo t,.int hi u,.int 1 v] },toks:=tk}:=by
 refine wpAny_pyIter_range (IsRange.new ..) (small_one h1 h2 h3 h4) ?_;have I1:Inv X pins σ H {s with heap:=s.heap.push {cls:=.type "range",data:=.fields #[.int lo t,.int hi u,.int 1 v] },toks:=tk}:=I.kept λb o e=>Heap.get?_push_of_some _ e
 refine ⟨(s.heap.push {cls:=.type "range",data:=.fields #[.int lo t,.int hi u,.int 1 v] }).objs.size,[(s.heap.push {cls:=.type "range",data:=.fields #[.int lo t,.int hi u,.int 1 v] }).objs.size],_,_,H,rfl,
  I1.kept (t':=tk) λb o e=>Heap.get?_push_of_some _ e,zh _ lo (hi - lo).toNat,?_,λb hb=>?_,q⟩
 ·have e1:lo+((0:Nat):Int)*1=lo:=by simp
  have e2:(((hi - lo).toNat:Nat):Int) - ((0:Nat):Int)=Builtin.Range.rangeSize lo hi 1:=by rw [rangeSize_one];split <;> omega
  show IsRangeIter _ _ (lo+((0:Nat):Int)*1) ((((hi - lo).toNat:Nat):Int) - ((0:Nat):Int)) 1;rw [e1,e2];exact Heap.get?_push_size _ rfl
 ·have e:b=(s.heap.push {cls:=.type "range",data:=.fields #[.int lo t,.int hi u,.int 1 v] }).objs.size:=by simpa using hb
  subst e;exact I1.fpOk (Nat.le_refl _) (I1.hok.fresh (Nat.le_refl _))
def iRng1 (ta:TA):TI:=λσ H R=>ta σ H λvs H1=>∃ j:Int,vs=[.int j]/\-(2 ^ 62)<=j/\j < 2 ^ 62/\R (Itr 0 j.toNat) H1
theorem gL {a:Expr} {ta:TA} {p pos:Pos} (hg:Gl X "range") (hm:X.mg "range"=none) (ha:PA X [a] ta) (hs:starEach [a] X.env=[(false,eval a X.env)]:=by rfl):PI X tg (.Call (.Name "range" p) [a] [] pos) (iRng1 ta):=by
 intro pins s σ H R I h;refine Call_ (oZ I hg hm boot_range (PyProof.Rows.callWith_type1 (thn (ha pos pins s σ H _ I h) λus s1 zz=>?_) hs rfl));obtain ⟨vs,H1,I1,r1,q1⟩:=zz;obtain ⟨j,e,q1,q2,q⟩:=q1;subst e;cases r1 with
 | cons r rr =>
  cases rr
  obtain ⟨t,rfl⟩:=r;exact call_range_1 (Ff I1 (by omega) (by omega) q1 q2 (by simpa using q))
def tFor (wi:TI) (g:TG) (tb:TS):TS:=λD σ H=>wi σ H λJ H1=>∃ W:Nat->Nat->St->Hp->Prop,(∃ m,W 0 m σ H1)/\∀ i m σ H,W i m σ H->
 (J.stop i H/\D.nx σ H)\/(J.go i H/\∃ N:St->Hp->Prop,(∀ σ' H',N σ' H'->∃ m',m' < m/\W (i+1) m' σ' H')/\∀ x H',J.yld i H x H'->g x σ H' λσ2 H2=>tb {D with nx:=N,ct:=N,bk:=D.nx} σ2 H2)
def rW (fp:List Addr) (h:Heap):List (Addr×Obj):=fp.filterMap λb=>(h.get? b).map λo=>(b,o)
theorem fG {fp:List Addr} {h:Heap} {b:Addr} {o:Obj} (hb:b∈fp) (e:h.get? b=some o):(b,o)∈rW fp h:=List.mem_filterMap.mpr ⟨b,hb,by rw [e];rfl⟩
theorem Dr {fp:List Addr} {h:Heap} {p:Addr×Obj} (hp:p∈rW fp h):p.1∈fp/\h.get? p.1=some p.2:=by
 obtain ⟨b,hb,e⟩:=List.mem_filterMap.mp hp;cases q:h.get? b with
 | none=>rw [q] at e;cases e
 | some o =>
  rw [q] at e;have e':(b,o)=p:=Option.some.inj e;subst e';exact ⟨hb,q⟩
theorem Inv.pinned {pins:List (Addr×Obj)} {σ:St} {H:Hp} {s:Shared} {fp:List Addr} (I:Inv X pins σ H s) (hf:∀ b∈fp,jJ X pins H b) (ho:∀ b∈fp,∃ o,s.heap.get? b=some o/\∀ v,o.data≠.cell v):Inv X (pins++rW fp s.heap) σ H s:=
 I.pins_of λp hp=>(List.mem_append.mp hp).elim (λz=>I.pin p (List.mem_append_right _ z)) λz=>by
  obtain ⟨hb,e⟩:=Dr z;obtain ⟨f0,f1,f2,_⟩:=hf p.1 hb;obtain ⟨o,e',d⟩:=ho p.1 hb;rw [e] at e';cases e'
  exact ⟨e,f0,f1,f2,d⟩
theorem Inv.unpinned {pins pl:List (Addr×Obj)} {σ:St} {H:Hp} {s:Shared} (I:Inv X (pins++pl) σ H s):Inv X pins σ H s:=I.pins_of λp hp=>I.pin p (List.mem_append_right _ (List.mem_append_left _ hp))
theorem cK {iter:Expr} {body:List Stmt} {wi:TI} {g:TG} {tb:TS} {pos:Pos} (hp:PassesOwn (model X.prog X.w) X.A X.env X.xe) (hc:X.calm=true) (hi:PI X tg iter wi) (hg:PG X tg g) (hb:PSs X body tb)
  (hs:∀ x,foldedSetIterable iter X.env x=pure x:=by intro _;rfl):PS X (.For tg iter body [] pos) (tFor wi g tb):=by
 intro pins s σ H D I h;refine wpAny_For (thn (hi pins s σ H _ I h) λv s1 h1=>thn h1 λitv s2 h2=>?_) hs;obtain ⟨it,fp,tn,J,H2,e,I2,T,st2,f2,W,⟨m0,w0⟩,turn⟩:=h2;subst e;have stat:∀{H':Hp},(∀ b∈fp,H' b=none)->∀ b∈fp,jJ X pins H' b:=λhn b hb=>⟨hn b hb,(f2 b hb).2⟩;refine codeAny_forLoop_any (λn s'=>∃ i σ' H',Inv X pins σ' H' s'/\tn i s'.heap/\(∀ b∈fp,H' b=none)/\W i n σ' H') ?_ m0 ⟨0,σ,H2,I2,st2,λb hb=>(f2 b hb).1,w0⟩;rintro n s3 ⟨i,σ3,H3,I3,st3,fr3,w3⟩
 rcases turn i n σ3 H3 w3 with ⟨stop,qn⟩ | ⟨go,N,hN,step⟩
 ·refine wpAny_passesOwn hp (thn (T.done X rfl rfl rfl hc i pins s3 σ3 H3 X.xe I3 (stat fr3) st3 stop) λr s4 zz=>?_);obtain ⟨hr,I4⟩:=zz;subst hr;exact wpAny_execs_nil ⟨σ3,H3,I4,qn⟩
 ·refine wpAny_passesOwn hp (thn (T.item X rfl rfl rfl hc i pins s3 σ3 H3 X.xe I3 (stat fr3) st3 go) λr s4 zz=>?_);obtain ⟨u,hr,h4⟩:=zz;subst hr;refine wpAny_passesOwn hp (thn h4 λ_ s5 zz=>?_);obtain ⟨x,H5,I5,r5,y5,st5,fr5⟩:=zz;have I5':=I5.pinned (stat fr5) (T.obj _ _ st5);refine wpAny_passesOwn hp (thn (hg _ s5 σ3 H5 x u _ I5' r5 (step x H5 y5)) λ_ s6 zz=>?_);obtain ⟨σ6,H6,I6,q6⟩:=zz;refine wpAny_passesOwn hp (thn (hb _ s6 σ6 H6 _ I6 q6) λf s7 q7=>?_)
  have again:∀{σ7:St} {H7:Hp},Inv X (pins++rW fp s5.heap) σ7 H7 s7->N σ7 H7->∃ m,m < n/\∃ i σ' H',Inv X pins σ' H' s7/\tn i s7.heap/\(∀ b∈fp,H' b=none)/\W i m σ' H':=λ{σ7 H7} I7 n7=>by
   obtain ⟨m',hm,w7⟩:=hN σ7 H7 n7;refine ⟨m',hm,i+1,σ7,H7,I7.unpinned,T.keep _ _ _ st5 λb hb o e=>(I7.pin (b,o) (List.mem_append_right _ (List.mem_append_right _ (fG hb e)))).1,λb hb=>?_,w7⟩;obtain ⟨o,e,d⟩:=T.obj _ _ st5 b hb;exact (I7.pin (b,o) (List.mem_append_right _ (List.mem_append_right _ (fG hb e)))).2.1
  cases f with
  | next=>obtain ⟨σ7,H7,I7,n7⟩:=q7;exact again I7 n7
  | cont=>obtain ⟨σ7,H7,I7,n7⟩:=q7;exact again I7 n7
  | brk=>obtain ⟨σ7,H7,I7,q7⟩:=q7;exact ⟨σ7,H7,I7.unpinned,q7⟩
  | ret v=>obtain ⟨x7,σ7,H7,I7,r7,q7⟩:=q7;exact ⟨x7,σ7,H7,I7.unpinned,r7,q7⟩
end
theorem gh {K:W.Frag} {a:Addr} {xs:List V} {g:TG} {tb:TS} {D:Ends} {σ:St} {H:Hp} (Pv:Nat->St->Hp->Prop) (h0:Pv 0 σ H) (hl:∀ i σ H,i<=xs.length->Pv i σ H->SqL K H a xs)
  (hs:∀ i x σ H,xs[i]?=some x->Pv i σ H->g x σ H λσ2 H2=>tb {D with nx:=Pv (i+1),ct:=Pv (i+1),bk:=D.nx} σ2 H2) (hd:∀ σ H,Pv xs.length σ H->D.nx σ H) :
  ∃ W:Nat->Nat->St->Hp->Prop,(∃ m,W 0 m σ H)/\∀ i m σ H,W i m σ H->
   ((Itl K a).stop i H/\D.nx σ H)\/((Itl K a).go i H/\∃ N:St->Hp->Prop,(∀ σ' H',N σ' H'->∃ m',m' < m/\W (i+1) m' σ' H')/\∀ x H',(Itl K a).yld i H x H'->g x σ H' λσ2 H2=>tb {D with nx:=N,ct:=N,bk:=D.nx} σ2 H2):=by
 refine ⟨λi m σ H=>m=xs.length - i/\i<=xs.length/\Pv i σ H,⟨xs.length,by simp,Nat.zero_le _,h0⟩,?_⟩;rintro i m σ H ⟨rfl,hi,p⟩
 have q:=hl i σ H hi p
 by_cases hlt:i < xs.length
 ·refine .inr ⟨⟨xs,xs[i],q,by simp [hlt]⟩,Pv (i+1),λσ' H' p'=>⟨xs.length - (i+1),by omega,rfl,hlt,p'⟩,λx H' y=>?_⟩;obtain ⟨e,y⟩:=y;subst e;exact hs i x σ _ (y xs q) p
 ·have e:i=xs.length:=by omega
  subst e;exact .inl ⟨⟨xs,q,Nat.le_refl _⟩,hd σ H p⟩
theorem wt {K:W.Frag} {a:Addr} {xs:List V} {g:TG} {tb:TS} {D:Ends} {σ:St} {H:Hp} (Pv:Nat->St->Hp->Prop) (h0:Pv 0 σ H) (hl:∀ i σ H,i<=xs.length->Pv i σ H->SqT K H a xs)
  (hs:∀ i x σ H,xs[i]?=some x->Pv i σ H->g x σ H λσ2 H2=>tb {D with nx:=Pv (i+1),ct:=Pv (i+1),bk:=D.nx} σ2 H2) (hd:∀ σ H,Pv xs.length σ H->D.nx σ H) :
  ∃ W:Nat->Nat->St->Hp->Prop,(∃ m,W 0 m σ H)/\∀ i m σ H,W i m σ H->
   ((Itt K a).stop i H/\D.nx σ H)\/((Itt K a).go i H/\∃ N:St->Hp->Prop,(∀ σ' H',N σ' H'->∃ m',m' < m/\W (i+1) m' σ' H')/\∀ x H',(Itt K a).yld i H x H'->g x σ H' λσ2 H2=>tb {D with nx:=N,ct:=N,bk:=D.nx} σ2 H2):=by
 refine ⟨λi m σ H=>m=xs.length - i/\i<=xs.length/\Pv i σ H,⟨xs.length,by simp,Nat.zero_le _,h0⟩,?_⟩;rintro i m σ H ⟨rfl,hi,p⟩
 have q:=hl i σ H hi p
 by_cases hlt:i < xs.length
 ·refine .inr ⟨⟨xs,xs[i],q,by simp [hlt]⟩,Pv (i+1),λσ' H' p'=>⟨xs.length - (i+1),by omega,rfl,hlt,p'⟩,λx H' y=>?_⟩;obtain ⟨e,y⟩:=y;subst e;exact hs i x σ _ (y xs q) p
 ·have e:i=xs.length:=by omega
  subst e;exact .inl ⟨⟨xs,q,Nat.le_refl _⟩,hd σ H p⟩
theorem jb {lo:Int} {n:Nat} {g:TG} {tb:TS} {D:Ends} {σ:St} {H:Hp} (Pv:Nat->St->Hp->Prop) (h0:Pv 0 σ H)
  (hs:∀ i σ H,i < n->Pv i σ H->g (.int (lo+i)) σ H λσ2 H2=>tb {D with nx:=Pv (i+1),ct:=Pv (i+1),bk:=D.nx} σ2 H2) (hd:∀ σ H,Pv n σ H->D.nx σ H) :
  ∃ W:Nat->Nat->St->Hp->Prop,(∃ m,W 0 m σ H)/\∀ i m σ H,W i m σ H->
   ((Itr lo n).stop i H/\D.nx σ H)\/((Itr lo n).go i H/\∃ N:St->Hp->Prop,(∀ σ' H',N σ' H'->∃ m',m' < m/\W (i+1) m' σ' H')/\∀ x H',(Itr lo n).yld i H x H'->g x σ H' λσ2 H2=>tb {D with nx:=N,ct:=N,bk:=D.nx} σ2 H2):=by
 refine ⟨λi m σ H=>m=n - i/\i<=n/\Pv i σ H,⟨n,by simp,Nat.zero_le _,h0⟩,?_⟩;rintro i m σ H ⟨rfl,hi,p⟩
 by_cases hlt:i < n
 ·refine .inr ⟨hlt,Pv (i+1),λσ' H' p'=>⟨n - (i+1),by omega,rfl,hlt,p'⟩,λx H' y=>?_⟩;obtain ⟨e,y⟩:=y;subst e y;exact hs i σ _ hlt p
 ·have e:i=n:=by omega
  subst e;exact .inl ⟨Nat.le_refl _,hd σ H p⟩
abbrev R2:=V->V->Hp->VK->Prop
def OpR (X:Cx) (f:Value->Value->Sem Value) (r:R2):Prop:=
 ∀(
  pins:List (Addr×Obj)) (s:Shared) (σ:St) (H:Hp) (x y:V) (v u:Value) (Q:VK),Inv X pins σ H s->RelV x v->RelV y u->r x y H Q->
  wpAny (model X.prog X.w) X.A (f v u) (EP X pins σ Q) X.xe s
def UnR (X:Cx) (f:Value->Sem Value) (r:V->Hp->VK->Prop):Prop:=
 ∀(
  pins:List (Addr×Obj)) (s:Shared) (σ:St) (H:Hp) (x:V) (v:Value) (Q:VK),Inv X pins σ H s->RelV x v->r x H Q->
  wpAny (model X.prog X.w) X.A (f v) (EP X pins σ Q) X.xe s
def jI (X:Cx) (f:Value) (r:List V->Hp->VK->Prop):Prop:=
 ∀(
  pins:List (Addr×Obj)) (s:Shared) (σ:St) (H:Hp) (xs:List V) (us:List Value) (Q:VK),Inv X pins σ H s->Vals xs us->r xs H Q->
  wpAny (model X.prog X.w) X.A (call f us) (EP X pins σ Q) X.xe s
def TruR (X:Cx) (r:V->Hp->(Bool->Hp->Prop)->Prop):Prop:=
 ∀(
  pins:List (Addr×Obj)) (s:Shared) (σ:St) (H:Hp) (x:V) (v:Value) (Q:Bool->Hp->Prop),Inv X pins σ H s->RelV x v->r x H Q->
  wpAny (model X.prog X.w) X.A (truthy v) (TP X pins σ Q) X.xe s
def tOp (r:R2) (ta tb:TE):TE:=λσ H Q=>ta σ H λx H1=>tb σ H1 λy H2=>r x y H2 Q
def tUn (r:V->Hp->VK->Prop) (ta:TE):TE:=λσ H Q=>ta σ H λx H1=>r x H1 Q
inductive XrI (C:Int->Int->Prop) (g:Int->Int->V) (x:V) (y:V) (H:Hp) (Q:VK):Prop where
 | mk (i:Int) (j:Int) (z_0:x=.int i) (z_1:y=.int j) (z_2:C i j) (z_3:Q (g i j) H):XrI C g x y H Q
def rI (C:Int->Int->Prop) (g:Int->Int->V):R2:=λx y H Q=>XrI C g x y H Q
inductive XrI0 (g:Int->Int->V) (x:V) (y:V) (H:Hp) (Q:VK):Prop where
 | mk (i:Int) (j:Int) (z_0:x=.int i) (z_1:y=.int j) (z_2:Q (g i j) H):XrI0 g x y H Q
def rI0 (g:Int->Int->V):R2:=λx y H Q=>XrI0 g x y H Q
def rU (g:Int->V):V->Hp->VK->Prop:=λx H Q=>∃ i,x=.int i/\Q (g i) H
section
variable {X:Cx} {a b c:Expr} {ta tb tc:TE} {pos:Pos}
theorem binT (ha:PE X a ta) (hb:PE X b tb) {pins:List (Addr×Obj)} {s:Shared} {σ:St} {H:Hp} {R:V->V->Hp->Prop} (I:Inv X pins σ H s)
  (h:ta σ H λx H1=>tb σ H1 λy H2=>R x y H2) {Q:Value->Shared->Prop} {f:Value->Value->Sem Value}
  (hf:∀ v u s2 x y H2,Inv X pins σ H2 s2->RelV x v->RelV y u->R x y H2->wpAny (model X.prog X.w) X.A (f v u) Q X.xe s2) :
  wpAny (model X.prog X.w) X.A (eval a X.env) (λv s₁=>wpAny (model X.prog X.w) X.A (eval b X.env) (λu s₂=>wpAny (model X.prog X.w) X.A (f v u) Q X.xe s₂) X.xe s₁) X.xe s:=by
 refine thn (ha pins s σ H _ I h) λv s1 zz=>?_;obtain ⟨x,H1,I1,r1,q1⟩:=zz;refine thn (hb pins s1 σ H1 _ I1 q1) λu s2 zz=>?_;obtain ⟨y,H2,I2,r2,q2⟩:=zz;exact hf v u s2 x y H2 I2 r1 r2 q2
theorem aK {op:Operator} {r:R2} (ho:OpR X (binaryOp op) r) (ha:PE X a ta) (hb:PE X b tb):PE X (.BinOp a op b pos) (tOp r ta tb):=by
 intro pins s σ H Q I h;exact wpAny_BinOp (binT ha hb I h λv u s2 x y H2 I2 rx ry q=>ho pins s2 σ H2 x y v u Q I2 rx ry q)
theorem fi {op:UnaryOp} {r:V->Hp->VK->Prop} (ho:UnR X (unaryOp op) r) (ha:PE X a ta):PE X (.UnaryOp op a pos) (tUn r ta):=by
 intro pins s σ H Q I h;refine UnaryOp_ (thn (ha pins s σ H _ I h) λv s1 zz=>?_);obtain ⟨x,H1,I1,r1,q1⟩:=zz;exact ho pins s1 σ H1 x v Q I1 r1 q1
theorem opI {f:Value->Value->Sem Value} {C:Int->Int->Prop} {g:Int->Int->Int}
  (rule:∀(i j:Int) (t u:Tok) (s:Shared) (Q:Value->Shared->Prop) (E:Value->Shared->Prop),C i j->Q (.int (g i j) s.toks) {s with toks:=s.toks+1}->wpAny (model X.prog X.w) X.A (f (.int i t) (.int j u)) Q E s) :
  OpR X f (rI C λi j=>.int (g i j)):=by
 intro pins s σ H x y v u Q I rx ry h;obtain ⟨i,j,rfl,rfl,hc,q⟩:=h;obtain ⟨t,rfl⟩:=rx;obtain ⟨t',rfl⟩:=ry;exact rule i j t t' s _ _ hc ⟨.int (g i j),H,I.tok _,⟨_,rfl⟩,q⟩
theorem opI0 {f:Value->Value->Sem Value} {g:Int->Int->Int}
  (rule:∀(i j:Int) (t u:Tok) (s:Shared) (Q:Value->Shared->Prop) (E:Value->Shared->Prop),Q (.int (g i j) s.toks) {s with toks:=s.toks+1}->wpAny (model X.prog X.w) X.A (f (.int i t) (.int j u)) Q E s) :
  OpR X f (rI0 λi j=>.int (g i j)):=by
 intro pins s σ H x y v u Q I rx ry h;obtain ⟨i,j,rfl,rfl,q⟩:=h;obtain ⟨t,rfl⟩:=rx;obtain ⟨t',rfl⟩:=ry;exact rule i j t t' s _ _ ⟨.int (g i j),H,I.tok _,⟨_,rfl⟩,q⟩
theorem opB0 {f:Value->Value->Sem Value} {g:Int->Int->Bool}
  (rule:∀(i j:Int) (t u:Tok) (s:Shared) (Q:Value->Shared->Prop) (E:Value->Shared->Prop),Q (.bool (g i j)) s->wpAny (model X.prog X.w) X.A (f (.int i t) (.int j u)) Q E s) :
  OpR X f (rI0 λi j=>.bl (g i j)):=by
 intro pins s σ H x y v u Q I rx ry h;obtain ⟨i,j,rfl,rfl,q⟩:=h;obtain ⟨t,rfl⟩:=rx;obtain ⟨t',rfl⟩:=ry;exact rule i j t t' s _ _ ⟨.bl (g i j),H,I,rfl,q⟩
def CDiv (i j:Int):Prop:=0 < j/\j < 1073741824
def CPow (i j:Int):Prop:=0<=j/\j<=1000000/\i.natAbs < 2 ^ 64
theorem bJ:OpR X (binaryOp .Add) (rI0 λi j=>.int (i+j)):=opI0 λ_ _ _ _ _ _ _ q=>add_int q
theorem du:OpR X (binaryOp .Sub) (rI0 λi j=>.int (i - j)):=opI0 λ_ _ _ _ _ _ _ q=>sub_int q
theorem qF:OpR X (binaryOp .FloorDiv) (rI CDiv λi j=>.int (i / j)):=opI λi j _ _ _ _ _ hc q=>by
 have h1:(0:Int) < j:=hc.1;have h2:j < 1073741824:=hc.2;exact floordiv_int (by omega) (by rw [Int.fdiv_eq_ediv_of_nonneg i (by omega)];exact q) (.inl (PyProof.noPylong_small (by omega)))
theorem gu:OpR X (binaryOp .Mod) (rI (λ_ j=>0 < j) λi j=>.int (i % j)):=opI λi j _ _ _ _ _ hc q=>by
 have h1:(0:Int) < j:=hc;exact mod_int' (by omega) (by rw [Int.fmod_eq_emod_of_nonneg i (by omega)];exact q)
theorem vL:OpR X (binaryOp .Mod) (rI (λ_ j=>j≠0) λi j=>.int (i.fmod j)):=opI λ_ _ _ _ _ _ _ hc q=>mod_int' hc q
theorem op_pow:OpR X (binaryOp .Pow) (rI CPow λi j=>.int (i ^ j.toNat)):=opI λ_ _ _ _ _ _ _ hc q=>pow_int_small hc.1 hc.2.1 hc.2.2 q
theorem unI {f:Value->Sem Value} {g:Int->Int}
  (rule:∀(i:Int) (t:Tok) (s:Shared) (Q:Value->Shared->Prop) (E:Value->Shared->Prop),Q (.int (g i) s.toks) {s with toks:=s.toks+1}->wpAny (model X.prog X.w) X.A (f (.int i t)) Q E s) :
  UnR X f (rU λi=>.int (g i)):=by
 intro pins s σ H x v Q I rx h;obtain ⟨i,rfl,q⟩:=h;obtain ⟨t,rfl⟩:=rx;exact rule i t s _ _ ⟨.int (g i),H,I.tok _,⟨_,rfl⟩,q⟩
theorem cS:UnR X (unaryOp .USub) (rU λi=>.int (-i)):=unI λ_ _ _ _ _ q=>neg_int q
end
def scal:V->V->Bool
 | .non,.non=>true | .non,.int _=>true | .int _,.non=>true | .non,.bl _=>true | .bl _,.non=>true | .non,.str _=>true | .str _,.non=>true
 | .int _,.int _=>true | .bl _,.bl _=>true | .str _,.str _=>true | .byt _,.byt _=>true
 | .int _,.str _=>true | .str _,.int _=>true | .bl _,.str _=>true | .str _,.bl _=>true
 | _,_=>false
def rEq:R2:=λx y H Q=>scal x y=true/\Q (.bl (decide (x=y))) H
def rNe:R2:=λx y H Q=>scal x y=true/\Q (.bl (!decide (x=y))) H
theorem Cj {i j:Int}:decide (V.int i=V.int j)=(i == j):=by
 rw [Bool.eq_iff_iff];simp
theorem He {i j:Bool}:decide (V.bl i=V.bl j)=(i == j):=by
 rw [Bool.eq_iff_iff];simp
theorem Ci {i j:Str}:decide (V.str i=V.str j)=(i == j):=by
 rw [Bool.eq_iff_iff];simp
theorem Ck {i j:Array UInt8}:decide (V.byt i=V.byt j)=(i.toList == j.toList):=by
 rw [Bool.eq_iff_iff];cases i
 cases j
 simp
section
variable {X:Cx} {a b c:Expr} {ta tb tc:TE} {pos:Pos}
theorem bG {pins:List (Addr×Obj)} {σ:St} {H:Hp} {s:Shared} {Q:VK} {k k':Bool} (I:Inv X pins σ H s) (q:Q (.bl k) H) (e:k=k'):EP X pins σ Q (.bool k') s:=by
 subst e;exact ⟨.bl k,H,I,rfl,q⟩
theorem bQ:OpR X (compareOp .Eq) rEq:=by
 intro pins s σ H x y v u Q I rx ry h;obtain ⟨hs,q⟩:=h;cases x with
 | non =>
  cases rx
  cases y with
  | non=>cases ry;exact PySem.EqNone.eq_none_none (bG I q (by simp))
  | bl j=>cases ry;exact PySem.EqNone.eq_none_bool (bG I q (by simp))
  | int j=>obtain ⟨t',rfl⟩:=ry;exact PySem.EqNone.eq_none_int (bG I q (by simp))
  | str j=>obtain ⟨t',rfl⟩:=ry;exact PySem.EqNone.eq_none_str (bG I q (by simp))
  | _=>exact absurd (show false=true from hs) Bool.false_ne_true
 | bl i =>
  cases rx
  cases y with
  | non=>cases ry;exact PySem.EqNone.eq_bool_none (bG I q (by simp))
  | bl j=>cases ry;exact eq_bool (bG I q He)
  | str j=>obtain ⟨t',rfl⟩:=ry;exact PySem.EqMixed.eq_bool_str (bG I q (by simp))
  | _=>exact absurd (show false=true from hs) Bool.false_ne_true
 | int i =>
  obtain ⟨t,rfl⟩:=rx;cases y with
  | non=>cases ry;exact PySem.EqNone.eq_int_none (bG I q (by simp))
  | int j=>obtain ⟨t',rfl⟩:=ry;exact eq_int (bG I q Cj)
  | str j=>obtain ⟨t',rfl⟩:=ry;exact PySem.EqMixed.eq_int_str (bG I q (by simp))
  | _=>exact absurd (show false=true from hs) Bool.false_ne_true
 | str i =>
  obtain ⟨t,rfl⟩:=rx;cases y with
  | non=>cases ry;exact PySem.EqNone.eq_str_none (bG I q (by simp))
  | bl j=>cases ry;exact PySem.EqMixed.eq_str_bool (bG I q (by simp))
  | int j=>obtain ⟨t',rfl⟩:=ry;exact PySem.EqMixed.eq_str_int (bG I q (by simp))
  | str j=>obtain ⟨t',rfl⟩:=ry;exact eq_str (bG I q Ci)
  | _=>exact absurd (show false=true from hs) Bool.false_ne_true
 | byt i =>
  obtain ⟨t,rfl⟩:=rx;cases y with
  | byt j=>obtain ⟨t',rfl⟩:=ry;exact PySem.W.eq_bytes (bG I q Ck)
  | _=>exact absurd (show false=true from hs) Bool.false_ne_true
 | _=>cases y <;> exact absurd (show false=true from hs) Bool.false_ne_true
theorem BE:OpR X (compareOp .NotEq) rNe:=by
 intro pins s σ H x y v u Q I rx ry h;obtain ⟨hs,q⟩:=h;cases x with
 | non =>
  cases rx
  cases y with
  | non=>cases ry;exact PySem.EqNone.ne_none_none (bG I q (by simp))
  | bl j=>cases ry;exact PySem.EqNone.ne_none_bool (bG I q (by simp))
  | int j=>obtain ⟨t',rfl⟩:=ry;exact PySem.EqNone.ne_none_int (bG I q (by simp))
  | str j=>obtain ⟨t',rfl⟩:=ry;exact PySem.EqNone.ne_none_str (bG I q (by simp))
  | _=>exact absurd (show false=true from hs) Bool.false_ne_true
 | bl i =>
  cases rx
  cases y with
  | non=>cases ry;exact PySem.EqNone.ne_bool_none (bG I q (by simp))
  | bl j=>cases ry;exact ne_bool (bG I q (congrArg not He))
  | str j=>obtain ⟨t',rfl⟩:=ry;exact PySem.EqMixed.ne_bool_str (bG I q (by simp))
  | _=>exact absurd (show false=true from hs) Bool.false_ne_true
 | int i =>
  obtain ⟨t,rfl⟩:=rx;cases y with
  | non=>cases ry;exact PySem.EqNone.ne_int_none (bG I q (by simp))
  | int j=>obtain ⟨t',rfl⟩:=ry;exact ne_int (bG I q (congrArg not Cj))
  | str j=>obtain ⟨t',rfl⟩:=ry;exact PySem.EqMixed.ne_int_str (bG I q (by simp))
  | _=>exact absurd (show false=true from hs) Bool.false_ne_true
 | str i =>
  obtain ⟨t,rfl⟩:=rx;cases y with
  | non=>cases ry;exact PySem.EqNone.ne_str_none (bG I q (by simp))
  | bl j=>cases ry;exact PySem.EqMixed.ne_str_bool (bG I q (by simp))
  | int j=>obtain ⟨t',rfl⟩:=ry;exact PySem.EqMixed.ne_str_int (bG I q (by simp))
  | str j=>obtain ⟨t',rfl⟩:=ry;exact ne_str (bG I q (congrArg not Ci))
  | _=>exact absurd (show false=true from hs) Bool.false_ne_true
 | byt i =>
  obtain ⟨t,rfl⟩:=rx;cases y with
  | byt j=>obtain ⟨t',rfl⟩:=ry;exact PySem.W.ne_bytes (bG I q (congrArg not Ck))
  | _=>exact absurd (show false=true from hs) Bool.false_ne_true
 | _=>cases y <;> exact absurd (show false=true from hs) Bool.false_ne_true
theorem jE:OpR X (compareOp .Lt) (rI0 λi j=>.bl (decide (i < j))):=opB0 λ_ _ _ _ _ _ _ q=>lt_int q
theorem BF:OpR X (compareOp .LtE) (rI0 λi j=>.bl (decide (i<=j))):=opB0 λ_ _ _ _ _ _ _ q=>le_int q
theorem hU:OpR X (compareOp .Gt) (rI0 λi j=>.bl (decide (j < i))):=opB0 λ_ _ _ _ _ _ _ q=>gt_int q
theorem FH:OpR X (compareOp .GtE) (rI0 λi j=>.bl (decide (j<=i))):=opB0 λ_ _ _ _ _ _ _ q=>ge_int q
theorem BD:OpR X (compareOp .IsNot) (λx y H Q=>y=.non/\Q (.bl (!decide (x=.non))) H):=by
 intro pins s σ H x y v u Q I rx ry h;obtain ⟨rfl,q⟩:=h;cases ry
 refine isnot_none_gen (bG I q ?_)
 cases x <;> first
  | (cases rx;rfl)
  | (obtain ⟨t,rfl⟩:=rx;rfl)
theorem aH (b:Expr) {op:CmpOp} (h:op≠.In:=by decide) (h2:op≠.NotIn:=by decide):behindInMarks op b=false:=by
 have e1:(op == CmpOp.In)=false:=by cases op <;> first | rfl | exact absurd rfl h
 have e2:(op == CmpOp.NotIn)=false:=by cases op <;> first | rfl | exact absurd rfl h2
 cases b <;> simp [behindInMarks,e1,e2]
theorem jt {op:CmpOp} {r:R2} (ho:OpR X (compareOp op) r) (ha:PE X a ta) (hb:PE X b tb) (hm:behindInMarks op b=false):PE X (.Compare a [op] [b] pos) (tOp r ta tb):=by
 intro pins s σ H Q I h;exact wpAny_Compare1 (binT ha hb I h λv u s2 x y H2 I2 rx ry q=>ho pins s2 σ H2 x y v u Q I2 rx ry q) hm
def tTest (t:TE):TT:=λσ H Q=>t σ H λx H'=>XBl x λk=>Q k H'
theorem aC {op:CmpOp} {r:R2} (ho:OpR X (compareOp op) r) (ha:PE X a ta) (hb:PE X b tb) (hm:behindInMarks op b=false):PT X (.Compare a [op] [b] pos) (tTest (tOp r ta tb)):=by
 intro pins s σ H Q I h
 refine wpAny_isTrue_Compare1 (thn (ha pins s σ H _ I h) λv s1 ⟨x,H1,I1,r1,q1⟩=>thn (hb pins s1 σ H1 _ I1 q1) λu s2 ⟨y,H2,I2,r2,q2⟩ =>
  thn (ho pins s2 σ H2 x y v u _ I2 r1 r2 q2) λc s3 ⟨z,H3,I3,r3,k,e,q3⟩=>?_) hm
 subst e;cases r3
 exact wpAny_truthy_bool ⟨H3,I3,q3⟩
def tChain (r r':R2) (ta tb tc:TE):TE:=λσ H Q=>ta σ H λx H1=>tb σ H1 λy H2=>r x y H2 λz H3=>∃ k,z=.bl k/\
 (if k=true then tc σ H3 λw' H4=>r' y w' H4 Q else Q (.bl false) H3)
theorem xN {op op':CmpOp} {r r':R2} (ho:OpR X (compareOp op) r) (ho':OpR X (compareOp op') r') (ha:PE X a ta) (hb:PE X b tb) (hc:PE X c tc)
  (hm:lastMarks [op,op'] [b,c]=false:=by with_unfolding_all rfl):PE X (.Compare a [op,op'] [b,c] pos) (tChain r r' ta tb tc):=by
 intro pins s σ H Q I h
 refine Compare_chain (thn (ha pins s σ H _ I h) λv s1 ⟨x,H1,I1,r1,q1⟩=>chain_link (thn (hb pins s1 σ H1 _ I1 q1) λu s2 ⟨y,H2,I2,r2,q2⟩ =>
  thn (ho pins s2 σ H2 x y v u _ I2 r1 r2 q2) λd s3 ⟨z,H3,I3,r3,k,e,q3⟩=>?_)) hm
 subst e;cases r3
 refine wpAny_truthy_bool ?_;cases k with
 | false=>exact ite_ff ⟨.bl false,H3,I3,rfl,q3⟩
 | true=>exact ite_tt (chain_last (thn (hc pins s3 σ H3 _ I3 q3) λw' s4 ⟨z',H4,I4,r4,q4⟩=>ho' pins s4 σ H4 y z' u w' Q I4 r2 r4 q4))
def TruV (K:W.Frag) (x:V) (H:Hp) (k:Bool):Prop:=
 match x with
 | .non=>k=false
 | .bl b=>k=b
 | .int i=>k=(i != 0)
 | .str y=>y.length<=sizeLine/\k=((y.length:Int) != 0)
 | .byt y=>y.size<=sizeLine/\k=((y.size:Int) != 0)
 | .ref p=>(∃ xs,SqL K H p xs/\k = !xs.isEmpty)\/(∃ xs,SqT K H p xs/\k = !xs.isEmpty)\/∃ kvs,H p=some (.dK kvs)/\k = !kvs.isEmpty
 | _=>False
theorem Ak {κ:Type} {kvs:List (κ×V)} {vs:List (κ×Value)} (r:KV kvs vs):(!vs.isEmpty) = !kvs.isEmpty:=by
 cases r <;> rfl
theorem sQ {xs:List V} {its:List Value} (r:Vals xs its):(!its.toArray.isEmpty) = !xs.isEmpty:=by
 cases r <;> simp
theorem sI:(sizeLine:Nat) < 2 ^ 63:=by rw [sizeLine_eq];decide
theorem tru_ok:TruR X (λx H Q=>∃ k,TruV X.K x H k/\Q k H):=by
 intro pins s σ H x v Q I rx h;obtain ⟨k,e,q⟩:=h;have hl:=sI;have hs:sizeLine=16777216:=sizeLine_eq;cases x with
 | non =>
  cases rx
  have e':k=false:=e;subst e';exact truthy_none ⟨H,I,q⟩
 | bl b =>
  cases rx
  have e':k=b:=e;subst e';exact wpAny_truthy_bool ⟨H,I,q⟩
 | int i =>
  obtain ⟨t,rfl⟩:=rx;have e':k=(i != 0):=e;subst e';exact PySem.P.truthy_int ⟨H,I,q⟩
 | str y =>
  obtain ⟨t,rfl⟩:=rx;obtain ⟨hy,e'⟩:y.length<=sizeLine/\k=((y.length:Int) != 0):=e;subst e';exact PySem.P.truthy_str (by omega) ⟨H,I.tok _,q⟩
 | byt y =>
  obtain ⟨t,rfl⟩:=rx;obtain ⟨hy,e'⟩:y.size<=sizeLine/\k=((y.size:Int) != 0):=e;subst e';exact PySem.W.truthy_bytes (by omega) ⟨H,I.tok _,q⟩
 | ref p =>
  cases rx
  have e':(∃ xs,SqL X.K H p xs/\k = !xs.isEmpty)\/(∃ xs,SqT X.K H p xs/\k = !xs.isEmpty)\/∃ kvs,H p=some (.dK kvs)/\k = !kvs.isEmpty:=e;rcases e' with ⟨xs,hx,e'⟩ | ⟨xs,hx,e'⟩ | ⟨kvs,hx,e'⟩
  ·subst e';obtain ⟨its,r,pl,hz⟩:=I.list hx;have hlen:=r.length;exact wpAny_truthy_list pl.isList (by simp only [List.size_toArray];omega) ⟨H,I.tok _,by rw [sQ r];exact q⟩
  ·subst e';obtain ⟨its,r,pl,hz⟩:=I.tuple hx;have hlen:=r.length;exact truthy_tuple pl (by simp only [List.size_toArray];omega) ⟨H,I.tok _,by rw [sQ r];exact q⟩
  ·subst e';obtain ⟨hz,hS,vs,r,m⟩:kvs.length<=sizeLine/\(p == sysModules)=false/\∃ vs,KV kvs vs/\s.heap.DictOf (cH X.prog X.w) p vs:=I.hok p _ hx;have hlen:kvs.length=vs.length:=Paired.length r;exact wpAny_truthy_dict hS m (by omega) ⟨H,I.tok _,by rw [Ak r];exact q⟩
 | _=>exact (show False from e).elim
theorem Fl (ha:PE X a ta) (he:∀ whole,isTrue a X.env whole=(do let v <- whole;standAt a.pos;holding [v] (truthy v))) :
  PT X a (λσ H Q=>ta σ H λx H'=>∃ k,TruV X.K x H' k/\Q k H'):=by
 intro pins s σ H Q I h;refine isTrue_plain (thn (ha pins s σ H _ I h) λv s1 zz=>?_) (he _);obtain ⟨x,H1,I1,r1,q1⟩:=zz;exact tru_ok pins s1 σ H1 x v Q I1 r1 q1
theorem vals1 {x:V} {us:List Value} (r:Vals [x] us):∃ u,us=[u]/\RelV x u:=by
 cases r with
 | cons r1 r2=>cases r2;exact ⟨_,rfl,r1⟩
theorem vals2 {x y:V} {us:List Value} (r:Vals [x,y] us):∃ u w',us=[u,w']/\RelV x u/\RelV y w':=by
 cases r with
 | cons r1 r2 =>
  cases r2 with
  | cons r3 r4=>cases r4;exact ⟨_,_,rfl,r1,r3⟩
theorem je:jI X (.builtin "abs") (λxs H Q=>∃ i,xs=[.int i]/\Q (.int (if i < 0 then -i else i)) H):=by
 intro pins s σ H xs us Q I r h;obtain ⟨i,rfl,q⟩:=h;obtain ⟨u,rfl,t,rfl⟩:=vals1 r;exact call_abs_int λu tk=>⟨.int (if i < 0 then -i else i),H,I.tok _,⟨_,rfl⟩,q⟩
theorem lJ (hc:X.calm=true):jI X (.builtin "max") (λxs H Q=>∃ i j,xs=[.int i,.int j]/\Q (.int (if j > i then j else i)) H):=by
 intro pins s σ H xs us Q I r h;obtain ⟨i,j,rfl,q⟩:=h;obtain ⟨u,w',rfl,⟨t,rfl⟩,⟨t',rfl⟩⟩:=vals2 r;refine max_two_ints (I.ok.hd hc) λh' tk k=>⟨_,H,I.kept k,?_,q⟩
 by_cases hj:j > i
 ·rw [if_pos hj,if_pos hj];exact ⟨_,rfl⟩
 ·rw [if_neg hj,if_neg hj];exact ⟨_,rfl⟩
theorem gN (hc:X.calm=true):jI X (.builtin "min") (λxs H Q=>∃ i j,xs=[.int i,.int j]/\Q (.int (if j < i then j else i)) H):=by
 intro pins s σ H xs us Q I r h;obtain ⟨i,j,rfl,q⟩:=h;obtain ⟨u,w',rfl,⟨t,rfl⟩,⟨t',rfl⟩⟩:=vals2 r;refine min_two_ints (I.ok.hd hc) λh' tk k=>⟨_,H,I.kept k,?_,q⟩
 by_cases hj:j < i
 ·rw [if_pos hj,if_pos hj];exact ⟨_,rfl⟩
 ·rw [if_neg hj,if_neg hj];exact ⟨_,rfl⟩
def LenV (K:W.Frag) (x:V) (H:Hp) (n:Nat):Prop:=
 match x with
 | .str y=>y.length<=sizeLine/\n=y.length
 | .byt y=>y.size<=sizeLine/\n=y.size
 | .ref p=>(∃ xs,SqL K H p xs/\n=xs.length)\/∃ xs,SqT K H p xs/\n=xs.length
 | _=>False
theorem aS:jI X (.builtin "len") (λxs H Q=>∃ x n,xs=[x]/\LenV X.K x H n/\Q (.int n) H):=by
 intro pins s σ H xs us Q I r h;obtain ⟨x,n,rfl,e,q⟩:=h;obtain ⟨u,rfl,rx⟩:=vals1 r;have hl:=sI;have hs:sizeLine=16777216:=sizeLine_eq;cases x with
 | str y =>
  obtain ⟨t,rfl⟩:=rx;obtain ⟨hy,e'⟩:y.length<=sizeLine/\n=y.length:=e;subst e';exact len_str (by omega) ⟨.int _,H,I.tok _,⟨_,rfl⟩,q⟩
 | byt y =>
  obtain ⟨t,rfl⟩:=rx;obtain ⟨hy,e'⟩:y.size<=sizeLine/\n=y.size:=e;subst e';exact PySem.W.len_bytes (by omega) ⟨.int _,H,I.tok _,⟨_,rfl⟩,q⟩
 | ref p =>
  cases rx
  have e':(∃ xs,SqL X.K H p xs/\n=xs.length)\/∃ xs,SqT X.K H p xs/\n=xs.length:=e;rcases e' with ⟨xs,hx,e'⟩ | ⟨xs,hx,e'⟩
  ·subst e';obtain ⟨its,r',pl,hz⟩:=I.list hx;have hlen:=r'.length;exact Calls.call_len_list pl.isList (by simp only [List.size_toArray];omega) ⟨.int xs.length,H,I.tok _,⟨_,by simp only [List.size_toArray];rw [hlen]⟩,q⟩
  ·subst e';obtain ⟨its,r',pl,hz⟩:=I.tuple hx;have hlen:=r'.length;exact len_tuple pl (by simp only [List.size_toArray];omega) ⟨.int xs.length,H,I.tok _,⟨_,by simp only [List.size_toArray];rw [hlen]⟩,q⟩
 | _=>exact (show False from e).elim
end
structure AU (h:Heap) (x dx C:Addr) (mA:Str->Option Value):Prop where
 obj:h.get? x=some (PySem.W.instObj C dx)
 ns:h.Ns1 dx mA
 ne:dx≠x
theorem oY {h:Heap} {dx:Addr} {mA:Str->Option Value} (n:h.Ns1 dx mA):∃ od,h.get? dx=some od/\∀ name,PySem.W.lookIn name od=some (mA name):=by
 obtain ⟨o,es,ep,ho,hd,hk,_,hm⟩:=n;refine ⟨o,ho,λname=>?_⟩;have e:=hm name;unfold nsFind findBy at e;rw [<- Array.find?_toList] at e;unfold PySem.W.lookIn;rw [hd];dsimp only;split
 ·rename_i y q;rw [q] at e;exact congrArg some e
 ·rename_i q;rw [q] at e
  have a:es.toList.any (·.refKey)=false:=by
   rw [List.any_eq_false];intro y hy;obtain ⟨z,t,hkey⟩:=hk y (Array.mem_toList_iff.mp hy);simp [DictEntry.refKey,hkey]
  have a':¬es.toList.any (·.refKey)=true:=by rw [a];exact Bool.false_ne_true
  rw [if_neg a'];exact congrArg some e
theorem AU.look {h:Heap} {x dx C:Addr} {mA:Str->Option Value} (I:AU h x dx C mA):∃ od,PySem.W.InstAt h x (PySem.W.instObj C dx) C (some od)/\∀ name,PySem.W.lookIn name od=some (mA name):=
 let ⟨od,ho,hl⟩:=oY I.ns
 ⟨od,⟨I.obj,rfl,rfl,ho⟩,hl⟩
section
variable {prog:Program} {w:World} {A:Around} {E:Value->Shared->Prop} {s:Shared} {K:W.Frag} {x dx C f:Addr} {mA:Str->Option Value} {name:Str} {v:Value}
theorem get_map {expr:Bool} {Q:Value->Shared->Prop} (X:K.In s.heap) (I:AU s.heap x dx C mA) (hg:PySem.W.plainGet K C name=true) (hh:PySem.W.hasDictIn K C=true)
  (ha:PySem.W.findIn K (.ref C) name=some none) (hv:mA name=some v) (hv':PySem.W.handedIn v=true) (h:Q v {s with toks:=s.toks+1}) :
  wpAny (model prog w) A (getAttr (.ref x) name expr) Q E s:=by
 obtain ⟨od,J,hl⟩:=I.look;exact PySem.W.get_value X J (PySem.W.plainGet_of hg).1 (PySem.W.findObj_own hh ha rfl (by rw [hl,hv])) hv' h
theorem GQ {pl:Sem Bool} {Q:Value×List Value->Shared->Prop} (X:K.In s.heap) (I:AU s.heap x dx C mA) (hg:PySem.W.plainGet K C name=true)
  (hf:PySem.W.findIn K (.ref C) name=some (some (.ref f))) (ht:PySem.W.isFn K (.ref f)=true) (hv:mA name=none) (h:Q (.ref f,[.ref x]) s) :
  wpAny (model prog w) A (getMethod (.ref x) name pl) Q E s:=by
 obtain ⟨od,J,hl⟩:=I.look;exact PySem.W.method_fn X J (PySem.W.plainGet_of hg).1 (PySem.W.plainGet_of hg).2 hf (beq_iff_eq.mp ht) (by show (PySem.W.lookIn name od).map (·.isSome)=some false;rw [hl,hv];rfl) h
theorem set_map {ns:List Str} {Q:Unit->Shared->Prop} (X:K.In s.heap) (I:AU s.heap x dx C mA)
  (hs:PySem.W.findIn K (.ref C) "__setattr__"=some (some (.builtin "object.__setattr__"))) (hp:PySem.W.plainOver K C=true) (ht:PySem.W.takerIn K C name=some none) (hh:PySem.W.hasDictIn K C=true)
  (hw:PySem.Within mA ns) (hsz:ns.length<=sizeLine)
  (h:∀ h',AU h' x dx C (λy=>if y=name then some v else mA y)->Heap.SameBut dx s.heap h'->Q () {s with heap:=h',toks:=s.toks+2}) :
  wpAny (model prog w) A (setAttr (.ref x) name v) Q E s:=by
 obtain ⟨od,J,hl⟩:=I.look;refine PySem.W.set_plain X J hs (PySem.W.osa_open (s:={s with toks:=s.toks+1}) (r:=none) X J hp ht λb=>?_)
 obtain ⟨cd,hc,hd'⟩:=PySem.W.any_some hh;have hx:s.heap.get? x=some ⟨.ref C,some dx,.plain,#[]⟩:=I.obj;refine wpAny_bind (wpAny_pure (wpAny_bind (wpAny_bind (wpAny_loadPart hx (wpAny_bind (PySem.W.Looks.here (s:={s with toks:=s.toks+1}) (PySem.W.looks_clsIn X hc) ?_))))))
 rw [hd'];refine wpAny_pure (a:=some dx) (wpAny_bind (wpAny_pure (wpAny_bind ?_)));refine wpAny_nsSet1 (s:={s with toks:=s.toks+1}) I.ns λh' hn2 hs2=>?_
 obtain ⟨oD,esD,epD,hoD,hdD,hcD⟩:=hn2.count (PySem.Within.cons name v hw);refine wpAny_bind (wpAny_lookBehind hoD (by rw [hdD];exact pastItsLine_dict (Nat.le_trans hcD (by rw [List.length_cons];omega))) ?_);exact wpAny_pure (h _ ⟨(hs2.2 _ (Ne.symm I.ne)).trans I.obj,hn2,I.ne⟩ hs2)
theorem Gx {R:Result->Shared->Prop} {vs:List Value} {kw:List (Str×Value)} (X:K.In s.heap) (hm:PySem.W.makesIn K C=true)
  (hi:PySem.W.findIn K (.ref C) "__init__"=some (some (.ref f))) (hf:PySem.W.typeIn K (.ref f)=some (.type "function"))
  (h:codeAny (model prog w) (A.under (.builtin "type.__call__" ⟨.ref C::vs,kw⟩)) (.call (.ref f) ⟨.ref (s.heap.objs.size+1)::vs,kw⟩) (PySem.W.InitBack (s.heap.objs.size+1) R)
   {s with heap:=(s.heap.push PySem.W.emptyDict).push (PySem.W.instObj C s.heap.objs.size) }) :
  codeAny (model prog w) A (.call (.ref C) ⟨vs,kw⟩) R s:=by
 obtain ⟨hh,g,d,t,os⟩:=s;exact PySem.W.make_core (PySem.W.makes_of X hm) (PySem.W.looks_findIn X hi) (λself=>PySem.W.bind_fn X self hf) (.inl rfl) h
theorem Dw {R:Result->Shared->Prop} (X:K.In s.heap) (hm:PySem.W.makesIn K C=true)
  (hi:PySem.W.findIn K (.ref C) "__init__"=some (some (.builtin "object.__init__")))
  (hb:∀ self,PySem.W.Looks (model prog w) s.heap (bindSpecial (.builtin "object.__init__") self) (.builtin "object.__init__",[self]))
  (h:codeAny (model prog w) (A.under (.builtin "type.__call__" ⟨[.ref C],[]⟩)) (.call (.builtin "object.__init__") ⟨[.ref (s.heap.objs.size+1)],[]⟩) (PySem.W.InitBack (s.heap.objs.size+1) R)
   {s with heap:=(s.heap.push PySem.W.emptyDict).push (PySem.W.instObj C s.heap.objs.size) }) :
  codeAny (model prog w) A (.call (.ref C) ⟨[],[]⟩) R s:=by
 obtain ⟨hh,g,d,t,os⟩:=s;exact PySem.W.make_core (PySem.W.makes_of X hm) (PySem.W.looks_findIn X hi) hb (.inr ⟨rfl,rfl⟩) h
end
def gZ (f:Str) (v:V):List (Str×V)->List (Str×V)
 | []=>[(f,v)]
 | (g,x)::r=>if g=f then (g,v)::r else (g,x)::gZ f v r
theorem kr (f g:Str) (v:V):∀ fs:List (Str×V),(gZ f v fs).lookup g=if g=f then some v else fs.lookup g
 | []=>by
  show List.lookup g [(f,v)]=_
  by_cases h:g=f
  ·have hb:(g == f)=true:=beq_iff_eq.mpr h;simp only [List.lookup,hb,if_pos h]
  ·have hb:(g == f)=false:=beq_eq_false_iff_ne.mpr h;simp only [List.lookup,hb,if_neg h]
 | (k,x)::r=>by
  have ih:=kr f g v r;rw [show gZ f v ((k,x)::r)=(if k=f then (k,v)::r else (k,x)::gZ f v r) from rfl]
  by_cases hk:k=f
  ·rw [if_pos hk]
   by_cases h:g=k
   ·have hb:(g == k)=true:=beq_iff_eq.mpr h;simp only [List.lookup,hb,if_pos (h.trans hk)]
   ·have hb:(g == k)=false:=beq_eq_false_iff_ne.mpr h;simp only [List.lookup,hb,if_neg (λe:g=f=>h (e.trans hk.symm))]
  ·rw [if_neg hk]
   by_cases h:g=k
   ·have hb:(g == k)=true:=beq_iff_eq.mpr h;simp only [List.lookup,hb,if_neg (λe:g=f=>hk (h.symm.trans e))]
   ·have hb:(g == k)=false:=beq_eq_false_iff_ne.mpr h;simp only [List.lookup,hb];exact ih
theorem iZ (f:Str) (v:V):∀ fs:List (Str×V),f∈(gZ f v fs).map (·.1)/\∀ g,g∈fs.map (·.1)->g∈(gZ f v fs).map (·.1)
 | []=>⟨by simp [gZ],λg h=>by simp at h⟩
 | (k,x)::r=>by
  obtain ⟨i1,i2⟩:=iZ f v r;rw [show gZ f v ((k,x)::r)=(if k=f then (k,v)::r else (k,x)::gZ f v r) from rfl]
  by_cases hk:k=f
  ·rw [if_pos hk];subst hk;exact ⟨by simp,λg h=>by simpa using h⟩
  ·rw [if_neg hk];refine ⟨?_,λg h=>?_⟩
   ·rw [List.map_cons];exact List.mem_cons_of_mem _ i1
   ·rw [List.map_cons] at h ⊢;rcases List.mem_cons.mp h with e | e
    ·exact List.mem_cons.mpr (.inl e)
    ·exact List.mem_cons_of_mem _ (i2 g e)
theorem ky (f:Str) (v:V):∀ fs:List (Str×V),(gZ f v fs).length<=fs.length+1
 | []=>by simp [gZ]
 | (k,x)::r=>by
  have ih:=ky f v r;rw [show gZ f v ((k,x)::r)=(if k=f then (k,v)::r else (k,x)::gZ f v r) from rfl]
  by_cases hk:k=f
  ·rw [if_pos hk,List.length_cons,List.length_cons];omega
  ·rw [if_neg hk,List.length_cons,List.length_cons];omega
theorem jg.some_of {v:V} {o:Option Value} (r:jg (some v) o):∃ u,o=some u/\RelV v u:=by
 cases o with
 | none=>exact (show False from r).elim
 | some u=>exact ⟨u,rfl,r⟩
theorem jg.none_of {o:Option Value} (r:jg none o):o=none:=by
 cases o with
 | none=>rfl
 | some u=>exact (show False from r).elim
theorem vb {v:V} {u:Value} (r:RelV v u):PySem.W.handedIn u=true:=by
 cases v with
 | non=>cases (show u=Value.none from r);rfl
 | bl b=>cases (show u=Value.bool b from r);rfl
 | int i=>obtain ⟨t,e⟩:=(show ∃ t,u=Value.int i t from r);cases e;rfl
 | str x=>obtain ⟨t,e⟩:=(show ∃ t,u=Value.str x t from r);cases e;rfl
 | byt b=>obtain ⟨t,e⟩:=(show ∃ t,u=Value.bytes b t from r);cases e;rfl
 | flt b=>obtain ⟨t,e⟩:=(show ∃ t,u=Value.float b t from r);cases e;rfl
 | ref a=>cases (show u=Value.ref a from r);rfl
 | ty n=>cases (show u=Value.type n from r);rfl
section
variable {P:Program} {w:World} {H H':Hp} {h h':Heap} {a C dx:Addr} {fs fs':List (Str×V)}
theorem qL (hok:HOk P w H h) (e:H a=some (.ins C dx fs)):∃ mA,AU h a dx C mA/\(∀ f,jg (fs.lookup f) (mA f))/\PySem.Within mA (fs.map (·.1))/\fs.length<=1000/\H dx=some (.own a):=by
 obtain ⟨d,z,ne,ob,mA,n,r,q⟩:=(show bC P w H h a (.ins C dx fs) from hok a _ e);exact ⟨mA,⟨ob,n,ne⟩,r,q,z,d⟩
end
structure Cls (K:W.Frag) (C:Addr):Prop where
 pg:PySem.W.plainGet K C Str.empty=true
 hd:PySem.W.hasDictIn K C=true
 po:PySem.W.plainOver K C=true
 sa:PySem.W.findIn K (.ref C) "__setattr__"=some (some (.builtin "object.__setattr__"))
theorem Cls.get {K:W.Frag} {C:Addr} (c:Cls K C) (f:Str):PySem.W.plainGet K C f=true:=c.pg
def bL (K:W.Frag) (C:Addr) (f:Str):Prop:=PySem.W.findIn K (.ref C) f=some none
theorem bL.taker {K:W.Frag} {C:Addr} {f:Str} (n:bL K C f):PySem.W.takerIn K C f=some none:=by
 unfold PySem.W.takerIn;rw [show PySem.W.findIn K (.ref C) f=some none from n];rfl
structure Meth (K:W.Frag) (C:Addr) (m:Str) (f:Addr):Prop where
 at_:PySem.W.findIn K (.ref C) m=some (some (.ref f))
 fn:PySem.W.isFn K (.ref f)=true
 kp:PySem.W.keepIn K (.ref f)=true
section
variable {X:Cx} {pins:List (Addr×Obj)} {σ:St} {H:Hp} {s:Shared} {a C dx:Addr} {fs:List (Str×V)} {f:Str} {v:V} {A:Around} {E:Value->Shared->Prop}
theorem An {b:Bool} {Q:Value->Shared->Prop} (I:Inv X pins σ H s) (e:H a=some (.ins C dx fs)) (c:Cls X.K C) (n:bL X.K C f) (l:fs.lookup f=some v)
  (h:∀ u s',Inv X pins σ H s'->RelV v u->Q u s'):wpAny (model X.prog X.w) A (getAttr (.ref a) f b) Q E s:=by
 obtain ⟨mA,O,r,_,_,_⟩:=qL I.hok e;obtain ⟨u,hu,ru⟩:=jg.some_of (v:=v) (o:=mA f) (by rw [<- l];exact r f);exact get_map I.kIn O (c.get f) c.hd n hu (vb ru) (h u _ (I.tok _) ru)
theorem Am {m:Str} {g:Addr} {pl:Sem Bool} {Q:Value×List Value->Shared->Prop} (I:Inv X pins σ H s) (e:H a=some (.ins C dx fs)) (c:Cls X.K C) (k:Meth X.K C m g) (l:fs.lookup m=none)
  (h:Q (.ref g,[.ref a]) s):wpAny (model X.prog X.w) A (getMethod (.ref a) m pl) Q E s:=by
 obtain ⟨mA,O,r,_,_,_⟩:=qL I.hok e;have hn:mA m=none:=jg.none_of (by rw [<- l];exact r m);exact GQ I.kIn O (c.get m) k.at_ k.fn hn h
theorem zw {y:V} {u:Value} {Q:Unit->Shared->Prop} (I:Inv X pins σ H s) (e:H a=some (.ins C dx fs)) (c:Cls X.K C) (n:bL X.K C f) (hl:fs.length < 1000) (ry:RelV y u)
  (h:∀ s',Inv X pins σ (upd H a (.ins C dx (gZ f y fs))) s'->Q () s'):wpAny (model X.prog X.w) A (setAttr (.ref a) f u) Q E s:=by
 obtain ⟨mA,O,r,wi,_,ho⟩:=qL I.hok e;have hz:(fs.map (·.1)).length<=sizeLine:=by rw [List.length_map,sizeLine_eq];omega
 refine set_map I.kIn O c.sa c.po n.taker c.hd wi hz λh' O' sb=>h _ ?_;have hd:∃ o,h'.get? dx=some o:=let ⟨o,_,_,e',_⟩:=O'.ns;⟨o,e'⟩;refine I.write (x:=a) (e:=dx) (by rw [e];exact True.intro) (.inr ho) (λb q hb z=>(sb.2 b hb).trans z) hd ?_;refine ⟨by rw [aq O.ne];exact ho,?_,O.ne,O'.obj,_,O'.ns,λg=>?_,λg hg=>?_⟩
 ·have:=ky f y fs;omega
 ·show jg ((gZ f y fs).lookup g) (if g=f then some u else mA g);rw [kr]
  by_cases q:g=f
  ·rw [if_pos q,if_pos q];exact ry
  ·rw [if_neg q,if_neg q];exact r g
 ·by_cases q:g=f
  ·rw [q];exact (iZ f y fs).1
  ·refine (iZ f y fs).2 g (wi g λz=>hg ?_);show (if g=f then some u else mA g)=none;rw [if_neg q];exact z
theorem Inv.made (I:Inv X pins σ H s):Inv X pins σ (upd (upd H s.heap.objs.size (.own (s.heap.objs.size+1))) (s.heap.objs.size+1) (.ins C s.heap.objs.size []))
  {s with heap:=(s.heap.push PySem.W.emptyDict).push (PySem.W.instObj C s.heap.objs.size) }:=by
 have e1:(s.heap.push PySem.W.emptyDict).get? s.heap.objs.size=some PySem.W.emptyDict:=Heap.get?_push_size s.heap rfl
 have e2:((s.heap.push PySem.W.emptyDict).push (PySem.W.instObj C s.heap.objs.size)).get? (s.heap.objs.size+1)=some (PySem.W.instObj C s.heap.objs.size):=by
  have:=Heap.get?_push_size (s.heap.push PySem.W.emptyDict) (o:=PySem.W.instObj C s.heap.objs.size) rfl
  rwa [Heap.size_push] at this
 have e3:(s.heap.push PySem.W.emptyDict).Ns s.heap.objs.size (λ_=>none):=⟨PySem.W.emptyDict,#[],_,e1,rfl,(λe he=>absurd he (by simp)),λ_=>rfl⟩;have I1:=I.laid (a:=s.heap.objs.size) (o:=.own (s.heap.objs.size+1)) (h':=s.heap.push PySem.W.emptyDict) (t':=s.toks) (λb u q=>Heap.get?_push_of_some _ q) (Nat.le_refl _) ⟨_,e1⟩;refine I1.laid (a:=s.heap.objs.size+1) (o:=.ins C s.heap.objs.size []) (t':=s.toks) (λb u q=>Heap.get?_push_of_some _ q) (Nat.le_of_eq (Heap.size_push _ _)) ?_;have ne:s.heap.objs.size≠s.heap.objs.size+1:=Nat.ne_of_lt (Nat.lt_succ_self _);refine ⟨by rw [aq ne,ae],Nat.zero_le _,ne,e2,λ_=>none,(Heap.Ns1.of_empty e3).at λo q=>Heap.get?_push_of_some _ q,λ_=>True.intro,λy hy=>absurd rfl hy⟩
theorem Cq {prog:Program} {w:World} {env:Env} {e:Expr} {f:Str} {pos:Pos} {s:Shared} {Q:Value->Shared->Prop} (hb:attributeBase e f env (eval e env)=eval e env)
  (h:wpAny (model prog w) A (eval e env) (λo s₁=>wpAny (model prog w) A (getAttr o f true) Q E s₁) E s):wpAny (model prog w) A (eval (.Attribute e f pos) env) Q E s:=
 Attribute_any_ h (by rw [arm_eval_Attribute,hb])
end
def tFld (K:W.Frag) (ta:TE) (f:Str):TE:=λσ H Q=>ta σ H λx H1=>∃ a C dx fs v,x=.ref a/\H1 a=some (.ins C dx fs)/\Cls K C/\bL K C f/\fs.lookup f=some v/\Q v H1
def sFld (K:W.Frag) (ta tv:TE) (f:Str):TS:=λD σ H=>tv σ H λy H1=>ta σ H1 λx H2=>∃ a C dx fs,x=.ref a/\H2 a=some (.ins C dx fs)/\Cls K C/\bL K C f/\fs.length < 1000/\
 D.nx σ (upd H2 a (.ins C dx (gZ f y fs)))
section
variable {X:Cx} {o e value:Expr} {f:Str} {pos pos' tpos:Pos} {ta tv:TE}
theorem ki (he:PE X e ta) (hb:attributeBase e f X.env (eval e X.env)=eval e X.env):PE X (.Attribute e f pos) (tFld X.K ta f):=by
 intro pins s σ H Q I h;refine Cq hb (thn (he pins s σ H _ I h) λu s1 zz=>?_);obtain ⟨x,H1,I1,rx,a,C,dx,fs,v,ex,ea,c,n,l,q⟩:=zz;subst ex;obtain rfl:u=Value.ref a:=rx;exact An I1 ea c n l λu' s2 I2 ru=>⟨v,H1,I2,ru,q⟩
theorem vH (ha:PE X o ta) (hv:PE X value tv) (hs:swapsWith value (some (.Attribute o f pos')) pos.line X.env=pure false):PS X (.Assign [.Attribute o f pos'] value pos) (sFld X.K ta tv f):=by
 intro pins s σ H D I h;refine plainObj_wpAny_Assign_Attribute (thn (hv pins s σ H _ I h) λu s1 zz=>?_) hs;obtain ⟨y,H1,I1,ry,q⟩:=zz;refine thn (ha pins s1 σ H1 _ I1 q) λov s2 zz=>?_;obtain ⟨x,H2,I2,rx,a,C,dx,fs,ex,ea,c,n,l,q2⟩:=zz;subst ex;obtain rfl:ov=Value.ref a:=rx;exact zw I2 ea c n l ry λs3 I3=>⟨σ,_,I3,q2⟩
end
section
variable {X:Cx} {pins:List (Addr×Obj)} {σ:St} {H:Hp} {s:Shared} {A:Around} {E:Value->Shared->Prop} {Q:Value->Shared->Prop} {c:Value} {b:Bool}
inductive gI (K:W.Frag) (H:Hp):V->Value->Prop where
 | non:gI K H .non (.type "NoneType")
 | bl (x:Bool):gI K H (.bl x) (.type "bool")
 | int (i:Int):gI K H (.int i) (.type "int")
 | str (x:Str):gI K H (.str x) (.type "str")
 | flt (x:UInt64):gI K H (.flt x) (.type "float")
 | lst {a:Addr} {xs:List V} (e:H a=some (.lst xs)):gI K H (.ref a) (.type "list")
 | frz {a:Addr} {o:Obj} {xs:List V} (e:H a=some (.frz o (.lst xs))):gI K H (.ref a) (.type "list")
 | tup {a:Addr} {xs:List V} (e:H a=some (.tup xs)):gI K H (.ref a) (.type "tuple")
 | dK {a:Addr} {kvs:List (Key×V)} (e:H a=some (.dK kvs)):gI K H (.ref a) (.type "dict")
 | dT {a:Addr} {kvs:List (List Key×V)} (e:H a=some (.dT kvs)):gI K H (.ref a) (.type "dict")
 | ins {a C dx:Addr} {fs:List (Str×V)} (e:H a=some (.ins C dx fs)) (cl:Cls K C) (ha:PySem.W.findIn K (.ref C) "__class__"=some (some (.builtin "object.__class__")))
   (hn:PySem.W.specialIn K (.builtin "object.__class__") "__get__"=some (some (.builtin "getset_descriptor.__get__"))) (htk:PySem.W.takesIn K (.builtin "object.__class__")=some true)
   (hm:PySem.W.mroIn K C (.type "object")=some true):gI K H (.ref a) (.ref C)
theorem DB {x:V} {u t:Value} (I:Inv X pins σ H s) (rx:RelV x u) (ty:gI X.K H x t) (e:PySem.W.kitOne X.K t c=some b) (h:∀ tk,Q (.bool b) {s with toks:=tk}) :
  wpAny (model X.prog X.w) A (call (.builtin "isinstance") [u,c]) Q E s:=by
 cases ty with
 | non=>cases (show u=Value.none from rx);exact PySem.W.kia_one PySem.W.kitx_none I.kIn True.intro e (λz=>nomatch z) h
 | bl y=>cases (show u=Value.bool y from rx);exact PySem.W.kia_one PySem.W.kitx_bool I.kIn True.intro e (λz=>nomatch z) h
 | int i=>obtain ⟨t,q⟩:=(show ∃ t,u=Value.int i t from rx);cases q;exact PySem.W.kia_one PySem.W.kitx_int I.kIn True.intro e (λz=>nomatch z) h
 | str y=>obtain ⟨t,q⟩:=(show ∃ t,u=Value.str y t from rx);cases q;exact PySem.W.kia_one PySem.W.kitx_str I.kIn True.intro e (λz=>nomatch z) h
 | flt y=>obtain ⟨t,q⟩:=(show ∃ t,u=Value.float y t from rx);cases q;exact PySem.W.kia_one PySem.W.kitx_float I.kIn True.intro e (λz=>nomatch z) h
 | @lst a xs ea =>
  cases (show u=Value.ref a from rx)
  obtain ⟨_,_,n,_,h1⟩:=(show bC X.prog X.w H s.heap a (.lst xs) from I.hok a _ ea);exact PySem.W.kia_one PySem.W.kitx_list I.kIn ⟨_,h1,rfl⟩ e (λz=>nomatch z) h
 | @frz a ob xs ea =>
  cases (show u=Value.ref a from rx)
  obtain ⟨_,_,_,n,_,h1⟩:=(show bC X.prog X.w H s.heap a (.frz ob (.lst xs)) from I.hok a _ ea);exact PySem.W.kia_one PySem.W.kitx_list I.kIn ⟨_,h1,rfl⟩ e (λz=>nomatch z) h
 | @tup a xs ea =>
  cases (show u=Value.ref a from rx)
  obtain ⟨_,_,_,p⟩:=(show bC X.prog X.w H s.heap a (.tup xs) from I.hok a _ ea);obtain ⟨o,h1,h2,_⟩:=p;exact PySem.W.kia_one PySem.W.kitx_tuple I.kIn ⟨o,h1,h2⟩ e (λz=>nomatch z) h
 | @dK a kvs ea =>
  cases (show u=Value.ref a from rx)
  obtain ⟨_,_,vs,_,p⟩:=(show bC X.prog X.w H s.heap a (.dK kvs) from I.hok a _ ea);obtain ⟨o,es,ep,h1,h2,_⟩:=p;exact PySem.W.kia_one PySem.W.kitx_dict I.kIn ⟨o,h1,h2.1⟩ e (λz=>nomatch z) h
 | @dT a kvs ea =>
  cases (show u=Value.ref a from rx)
  obtain ⟨_,_,xs,_,o,es,ep,h1,h2,_⟩:=(show bC X.prog X.w H s.heap a (.dT kvs) from I.hok a _ ea);exact PySem.W.kia_one PySem.W.kitx_dict I.kIn ⟨o,h1,h2.1⟩ e (λz=>nomatch z) h
 | @ins a C dx fs ea cl ha hn htk hm =>
  cases (show u=Value.ref a from rx)
  obtain ⟨mA,O,_⟩:=qL I.hok ea;obtain ⟨od,J,_⟩:=O.look;exact PySem.W.kia_one (PySem.W.kitx_own (cl.get _) cl.hd ha hn htk hm) I.kIn J e (λz=>nomatch z) h
end
structure dF (k:Nat) (A:Around):Prop where
 hd:A.handled=none
 dp:A.depth+3*k+5 < recursionLimit
 un:A.units+16*k+200 < cLine
theorem dF.mono {j k:Nat} {A:Around} (r:dF k A) (h:j<=k):dF j A:=⟨r.hd,by have:=r.dp;omega,by have:=r.un;omega⟩
theorem dF.deeper {k:Nat} {A:Around} (r:dF (k+1) A) (env:Env):dF k (A.deeper env):=
 ⟨r.hd,by have:=r.dp;show A.depth+1+3*k+5 < _;omega,by have:=r.un;show A.units+3+16*k+200 < _;omega⟩
theorem Af {A:Around} {C:Addr} {us:List Value} {kw:List (Str×Value)}:(A.under (.builtin "type.__call__" ⟨.ref C::us,kw⟩)).depth=A.depth+1:=by
 first | rfl | simp [Around.under,Code.weight,Code.isCreation,Code.isGuard,Code.isCaller,Code.frames,Code.isFrame,guardIds]
theorem Ae {A:Around} {C:Addr} {us:List Value} {kw:List (Str×Value)}:(A.under (.builtin "type.__call__" ⟨.ref C::us,kw⟩)).units=A.units+1:=by
 first | rfl | simp [Around.under,Code.cUnits,Code.frames,Code.isFrame]
theorem dF.make {k:Nat} {A:Around} (r:dF (k+1) A) (C:Addr) (us:List Value) (kw:List (Str×Value)):dF k (A.under (.builtin "type.__call__" ⟨.ref C::us,kw⟩)):=
 ⟨r.hd,by have:=r.dp;rw [Af];omega,by have:=r.un;rw [Ae];omega⟩
theorem dF.depth {k:Nat} {A:Around} (r:dF k A):A.depth < recursionLimit:=by have:=r.dp;omega
theorem dF.units {k:Nat} {A:Around} (r:dF k A):A.units+64 < cLine:=by have:=r.un;omega
def tNil:TA:=λ_ H Q=>Q [] H
def Bd (ta:TE) (tr:TA):TA:=λσ H Q=>ta σ H λx H1=>tr σ H1 λxs H2=>Q (x::xs) H2
section
variable {X:Cx} {e:Expr} {es:List Expr} {te:TE} {t:TA} {pos:Pos}
theorem af:PA X [] tNil:=λ_ _ _ _ H Q I h=>Calls.spliced_nil ⟨[],H,I,.nil,h⟩
theorem aa (ha:PE X e te) (hr:PA X es t) (hs:starEach (e::es) X.env=(false,eval e X.env)::starEach es X.env:=by rfl):PA X (e::es) (Bd te t):=by
 intro pos pins s σ H Q I h;rw [hs];show wpAny _ _ (spliced ((false,eval e X.env)::backTo pos (starEach es X.env))) _ _ s;refine Calls.spliced_cons (thn (ha pins s σ H _ I h) λu s1 zz=>?_);obtain ⟨x,H1,I1,r1,q1⟩:=zz;refine thn (hr pos pins s1 σ H1 _ I1 q1) λus s2 zz=>?_;obtain ⟨xs,H2,I2,r2,q2⟩:=zz;exact ⟨x::xs,H2,I2,.cons r1 r2,q2⟩
def tTup (t:TA):TE:=λσ H Q=>t σ H λxs H1=>xs.length<=sizeLine/\∀ p,H1 p=none->Q (.ref p) (upd H1 p (.tup xs))
def tLst (t:TA):TE:=λσ H Q=>t σ H λxs H1=>xs.length<=sizeLine/\∀ p,H1 p=none->Q (.ref p) (upd H1 p (.lst xs))
theorem bE {x1} (h:PA X es t):PE X (.Tuple es x1 pos) (tTup t):=by
 intro pins s σ H Q I hq;refine wpAny_Tuple_spliced (thn (h pos pins s σ H _ I hq) λus s1 zz=>?_);obtain ⟨xs,H1,I1,r,z,q⟩:=zz;refine ⟨by rw [<- r.length];exact z,?_⟩;have hf:H1 s1.heap.objs.size=none:=I1.hok.fresh (Nat.le_refl _);refine ⟨.ref s1.heap.objs.size,upd H1 s1.heap.objs.size (.tup xs),I1.laid (t':=s1.toks) (λb u e=>Heap.get?_push_of_some _ e) (Nat.le_refl _) ?_,rfl,q _ hf⟩;exact ⟨z,us,r,⟨_,Heap.get?_push_size _ rfl,rfl,_,rfl⟩⟩
theorem bF (h:PA X es t):PE X (.List es pos) (tLst t):=by
 intro pins s σ H Q I hq;refine wpAny_List_spliced (thn (h pos pins s σ H _ I hq) λus s1 zz=>?_);obtain ⟨xs,H1,I1,r,z,q⟩:=zz;refine ⟨by rw [<- r.length];exact z,?_⟩;have hf:H1 s1.heap.objs.size=none:=I1.hok.fresh (Nat.le_refl _);refine ⟨.ref s1.heap.objs.size,upd H1 s1.heap.objs.size (.lst xs),I1.laid (t':=s1.toks) (λb u e=>Heap.get?_push_of_some _ e) (Nat.le_refl _) ?_,rfl,q _ hf⟩;exact ⟨z,us,0,r,Heap.get?_push_size _ rfl⟩
end
abbrev Sp:=List V->Hp->VK->XK->Prop
abbrev CXT:=List Env->Hp->Shared->XK->Value->Shared->Prop
structure AV (P:Program) (w:World) (K:W.Frag) (mg:Str->Option Value) (base:Heap) (A:Around) (outer:List Env) (s:Shared) (H:Hp):Prop where
 frames:A.frames=some outer
 mod:Mod K mg base
 bs:∀ b o,base.get? b=some o->s.heap.get? b=some o/\H b=none
 bsz:base.objs.size<=s.heap.objs.size
 funs:s.heap.FunFrames base outer
 frf:∀ b∈frs outer,H b=none
 hok:HOk P w H s.heap
 bare:AllBare s.gens
def CE (outer:List Env) (P:Program) (w:World) (H:Hp) (s:Shared) (Q:VK) (u:Value) (s':Shared):Prop:=
 ∃ v H',s'.os=s.os/\AllBare s'.gens/\Un (frs outer) [] H H' s.heap s'.heap/\HOk P w H' s'.heap/\RelV v u/\Q v H'
def CR (CX:CXT) (outer:List Env) (P:Program) (w:World) (H:Hp) (s:Shared) (Q:VK) (E:XK) (r:Result) (s':Shared):Prop:=
 match r with
 | .ok (.ret u)=>CE outer P w H s Q u s'
 | .ok _=>False
 | .error e=>CX outer H s E e s'
structure lS (P:Program) (w:World) (K:W.Frag) (mg:Str->Option Value) (base:Heap) (CX:CXT) (k:Nat) (f:Addr) (fd:FuncData) (ps:List Str) (sp:Sp):Prop where
 len:∀ vs H Q E,sp vs H Q E->vs.length=ps.length
 run:∀(A:Around) (outer:List Env) (s:Shared) (H:Hp) (args:Args) (us:List Value) (vs:List V) (Q:VK) (E:XK),dF k A->AV P w K mg base A outer s H->BindsTo s fd args (ps.zip us)->Vals vs us->sp vs H Q E->
  codeAny (model P w) A (.call (.ref f) args) (CR CX outer P w H s Q E) s
theorem AV.make {P:Program} {w:World} {K:W.Frag} {mg:Str->Option Value} {base:Heap} {A:Around} {outer:List Env} {s:Shared} {H:Hp} (e:AV P w K mg base A outer s H) (C:Addr) (us:List Value) (kw:List (Str×Value)) :
  AV P w K mg base (A.under (.builtin "type.__call__" ⟨.ref C::us,kw⟩)) outer s H:=⟨by first | exact e.frames | (simpa [Around.under,Code.envs,Code.isFrame,pushEnvs] using e.frames),e.mod,e.bs,e.bsz,e.funs,e.frf,e.hok,e.bare⟩
section
variable {X:Cx} {pins:List (Addr×Obj)} {σ:St} {H:Hp} {s s':Shared}
theorem Inv.env0 (I:Inv X pins σ H s):AV X.prog X.w X.K X.mg X.base X.A X.stack s H:=
 ⟨I.ok.frames,I.ok.mod,I.bs,Nat.le_trans I.ok.bsz I.sz,I.stack,I.stkFree,I.hok,I.bare⟩
theorem Inv.after {Q:VK} {u:Value} (I:Inv X pins σ H s) (h:CE X.stack X.prog X.w H s Q u s'):EP X pins σ Q u s':=by
 obtain ⟨v,H',os,bare,un,hok,r,q⟩:=h;obtain ⟨hh,g,d,t,os'⟩:=s';obtain rfl:os'=s.os:=os;exact ⟨v,H',I.call (h':=hh) (g':=g) (d':=d) (t':=t) (ch:=[]) un hok bare (λb z=>absurd z (by simp)),r,q⟩
end
def Es (sp:Sp) (dvs:List V) (E:XK) (t:TA):TE:=λσ H Q=>t σ H λvs H1=>sp (vs++dvs) H1 Q E
def tMake (C:Addr) (sp:Sp) (dvs:List V) (E:XK) (t:TA):TE:=λσ H Q=>t σ H λvs H1=>∀ x dx,H1 x=none->H1 dx=none->dx≠x->
 sp (.ref x::(vs++dvs)) (upd (upd H1 dx (.own x)) x (.ins C dx [])) (λv H2=>v=.non/\Q (.ref x) H2) E
def Binds (K:W.Frag) (fd:FuncData) (ps:List Str) (ds:List Value):Prop:=
 ∀(s:Shared) (us:List Value),K.In s.heap->(us++ds).length=ps.length->BindsTo s fd ⟨us,[]⟩ (ps.zip (us++ds))
theorem Binds.all {K:W.Frag} {fd:FuncData} {ps:List Str} (h:∀ us:List Value,us.length=ps.length->bindArgs fd ⟨us,[]⟩=pure (ps.zip us)):Binds K fd ps []:=λs us _ hl=>by
 rw [List.append_nil] at hl ⊢;exact .of_eq (h us hl)
def Passes (CX:CXT) (X:Cx) (E:XK):Prop:=∀(pins:List (Addr×Obj)) (σ:St) (H:Hp) (s:Shared) (e:Value) (s':Shared),Inv X pins σ H s->CX X.stack H s E e s'->X.xe e s'
section
variable {X:Cx} {CX:CXT} {k:Nat} {f C:Addr} {fd:FuncData} {ps:List Str} {sp:Sp} {dvs:List V} {ds:List Value} {E:XK} {x m:Str} {p pos apos:Pos} {e o:Expr} {es:List Expr} {ta:TE} {t:TA}
theorem EX {pins:List (Addr×Obj)} {σ:St} {H:Hp} {s:Shared} {Q:VK} {us:List Value} {vs:List V} (F:lS X.prog X.w X.K X.mg X.base CX k f fd ps sp) (hr:dF k X.A) (hb:Binds X.K fd ps ds) (hd:Vals dvs ds) (hx:Passes CX X E)
  (I:Inv X pins σ H s) (r:Vals vs us) (h:sp (vs++dvs) H Q E):wpAny (model X.prog X.w) X.A (call (.ref f) us) (EP X pins σ Q) X.xe s:=by
 have r2:Vals (vs++dvs) (us++ds):=r.append hd;have hl:(us++ds).length=ps.length:=by rw [<- r2.length];exact F.len _ _ _ _ h
 refine wpAny_call (codeAny_mono (F.run X.A X.stack s H ⟨us,[]⟩ (us++ds) (vs++dvs) Q E hr I.env0 (hb s us I.kIn hl) r2 h) λr s' hq=>?_);cases r with
 | error e=>exact hx pins σ H s e s' I hq
 | ok fl =>
  cases fl with
  | ret u=>exact I.after hq
  | next=>exact False.elim hq
  | brk=>exact False.elim hq
  | cont=>exact False.elim hq
theorem BC (F:lS X.prog X.w X.K X.mg X.base CX k f fd ps sp) (hr:dF k X.A) (hg:Gl X x) (hm:X.mg x=some (.ref f)) (hk:PySem.W.keepIn X.K (.ref f)=true) (hb:Binds X.K fd ps ds) (hd:Vals dvs ds) (hx:Passes CX X E)
  (ha:PA X (e::es) t) (hdb:(x == ("__debug__":Str))=false:=by decide) (he:starEach (e::es) X.env=(false,eval e X.env)::starEach es X.env:=by rfl) (hpl:(backTo pos (starEach es X.env)).any (·.1)=false:=by rfl) :
  PE X (.Call (.Name x p) (e::es) [] pos) (Es sp dvs E t):=by
 intro pins s σ H Q I h;refine wpAny_Call_Name_kw (iz I hg hm ?_ hdb);refine PySem.W.callWith_K (h₀:=X.base) I.ok.mod.kin hk (thn (ha pos pins s σ H _ I h) λus s1 zz=>?_) he hpl;obtain ⟨vs,H1,I1,r,q⟩:=zz;refine ⟨I1.kIn,?_⟩;exact EX F hr hb hd hx I1 r q
structure Mk (K:W.Frag) (C f:Addr):Prop where
 makes:PySem.W.makesIn K C=true
 init:PySem.W.findIn K (.ref C) "__init__"=some (some (.ref f))
 fn:PySem.W.isFn K (.ref f)=true
 kp:PySem.W.keepIn K (.ref C)=true
theorem EW {pins:List (Addr×Obj)} {σ:St} {H:Hp} {s:Shared} {Q:VK} {us:List Value} {vs:List V} (M:Mk X.K C f) (F:lS X.prog X.w X.K X.mg X.base CX k f fd ps sp) (hr:dF (k+1) X.A) (hb:Binds X.K fd ps ds) (hd:Vals dvs ds)
  (hx:Passes CX X E) (I:Inv X pins σ H s) (r:Vals vs us)
  (h:∀ x dx,H x=none->H dx=none->dx≠x->sp (.ref x::(vs++dvs)) (upd (upd H dx (.own x)) x (.ins C dx [])) (λv H2=>v=.non/\Q (.ref x) H2) E) :
  wpAny (model X.prog X.w) X.A (call (.ref C) us) (EP X pins σ Q) X.xe s:=by
 have hq:=h (s.heap.objs.size+1) s.heap.objs.size (I.hok.fresh (Nat.le_succ _)) (I.hok.fresh (Nat.le_refl _)) (Nat.ne_of_lt (Nat.lt_succ_self _));have I2:=Inv.made (C:=C) I;have r2:Vals (V.ref (s.heap.objs.size+1)::(vs++dvs)) (Value.ref (s.heap.objs.size+1)::(us++ds)):=.cons rfl (r.append hd)
 have hl:(Value.ref (s.heap.objs.size+1)::us++ds).length=ps.length:=by
  have e:=r2.length;rw [F.len _ _ _ _ hq] at e;exact e.symm
 refine wpAny_call (Gx (f:=f) I.kIn M.makes M.init (beq_iff_eq.mp M.fn) (codeAny_mono (F.run _ X.stack _ _ ⟨Value.ref (s.heap.objs.size+1)::us,[]⟩ (Value.ref (s.heap.objs.size+1)::(us++ds)) _ _ E (hr.make C us [])
  (I2.env0.make C us []) (hb _ (Value.ref (s.heap.objs.size+1)::us) I2.kIn hl) r2 hq) λr s' hq'=>?_))
 cases r with
 | error e=>exact hx pins σ _ _ e s' I2 hq'
 | ok fl =>
  cases fl with
  | ret u =>
   obtain ⟨v,H',I3,rv,ev,q3⟩:=I2.after hq';subst ev;exact ⟨rv,⟨V.ref (s.heap.objs.size+1),H',I3,rfl,q3⟩⟩
  | next=>exact False.elim hq'
  | brk=>exact False.elim hq'
  | cont=>exact False.elim hq'
theorem pe_make (M:Mk X.K C f) (F:lS X.prog X.w X.K X.mg X.base CX k f fd ps sp) (hr:dF (k+1) X.A) (hg:Gl X x) (hm:X.mg x=some (.ref C)) (hb:Binds X.K fd ps ds) (hd:Vals dvs ds) (hx:Passes CX X E)
  (ha:PA X (e::es) t) (hdb:(x == ("__debug__":Str))=false:=by decide) (he:starEach (e::es) X.env=(false,eval e X.env)::starEach es X.env:=by rfl) (hpl:(backTo pos (starEach es X.env)).any (·.1)=false:=by rfl) :
  PE X (.Call (.Name x p) (e::es) [] pos) (tMake C sp dvs E t):=by
 intro pins s σ H Q I h;refine wpAny_Call_Name_kw (iz I hg hm ?_ hdb);refine PySem.W.callWith_K (h₀:=X.base) I.ok.mod.kin M.kp (thn (ha pos pins s σ H _ I h) λus s1 zz=>?_) he hpl;obtain ⟨vs,H1,I1,r,q⟩:=zz;refine ⟨I1.kIn,?_⟩;exact EW M F hr hb hd hx I1 r q
end
section
variable {X:Cx} {CX:CXT} {k:Nat} {f C:Addr} {fd:FuncData} {ps ks:List Str} {sp:Sp} {E:XK} {x m:Str} {p pos apos kpos:Pos} {e o:Expr} {es:List Expr} {kws:List Keyword} {te ta:TE} {t tk:TA} {nm:Option Str}
variable {g:List Value->List Value->List Value} {gV:List V->List V->List V}
end
structure aA (N P:List Str) (sc:Scope):Prop where
 kind:sc.kind=.function
 co:sc.isCoroutine=false
 gen:sc.isGenerator=false
 nd:N.Nodup
 pre:N.take P.length=P
 par:∀ x∈P,sc.names.lookup x=some .local\/sc.names.lookup x=some .cell
 nofree:∀ y∈sc.names,y.2≠.free
theorem fsc {N P:List Str} {sc:Scope} (k:sc.kind=.function) (h:(sc.isCoroutine=false)/\(sc.isGenerator=false)/\(N.Nodup)/\(N.take P.length=P)/\(∀ x∈P,sc.names.lookup x=some .local\/sc.names.lookup x=some .cell)/\(∀ y∈sc.names,y.2≠.free):=by decide+kernel):aA N P sc:=⟨k,h.1,h.2.1,h.2.2.1,h.2.2.2.1,h.2.2.2.2.1,h.2.2.2.2.2⟩
theorem vg {kindOf:Str->Option NameKind} {x:Str}:∀{binds:List (Str×Value)} {m:Str->Option Value},(∀ v,(x,v) ∉ binds)->bindL kindOf binds m x=m x
 | [],_,_=>rfl
 | (n,v)::r,m,h=>by
  unfold bindL;rw [vg λw hw=>h w (List.mem_cons_of_mem _ hw)];split
  ·have:x≠n:=by rintro rfl;exact h v List.mem_cons_self
   simp [this]
  ·rfl
theorem vi {kindOf:Str->Option NameKind} {x:Str}:∀{binds:List (Str×Value)} {m:Str->Option Value},(∀ v,(x,v) ∉ binds)->bindC kindOf binds m x=m x
 | [],_,_=>rfl
 | (n,v)::r,m,h=>by
  unfold bindC;rw [vi λw hw=>h w (List.mem_cons_of_mem _ hw)];split
  ·rfl
  ·have:x≠n:=by rintro rfl;exact h v List.mem_cons_self
   simp [this]
theorem vh {kindOf:Str->Option NameKind} {x:Str} {v:Value}:∀{P:List Str} {vs:List Value} {i:Nat} {m:Str->Option Value},P.Nodup->P[i]?=some x->vs[i]?=some v->kindOf x=some .local->
  bindL kindOf (P.zip vs) m x=some v
 | [],_,_,_,_,h,_,_=>by simp at h
 | _::_,[],_,_,_,_,h,_=>by simp at h
 | p::P,w::vs,0,m,nd,h1,h2,hk=>by
  simp at h1 h2;subst h1;subst h2;show bindL kindOf ((p,w)::P.zip vs) m p=_;unfold bindL;rw [vg λv hv=>(List.nodup_cons.mp nd).1 (List.of_mem_zip hv).1,if_pos hk];simp
 | p::P,w::vs,i+1,m,nd,h1,h2,hk=>by
  show bindL kindOf ((p,w)::P.zip vs) m x=_;unfold bindL;exact vh (i:=i) (List.nodup_cons.mp nd).2 (by simpa using h1) (by simpa using h2) hk
theorem vj {kindOf:Str->Option NameKind} {x:Str} {v:Value}:∀{P:List Str} {vs:List Value} {i:Nat} {m:Str->Option Value},P.Nodup->P[i]?=some x->vs[i]?=some v->kindOf x≠some .local->
  bindC kindOf (P.zip vs) m x=some v
 | [],_,_,_,_,h,_,_=>by simp at h
 | _::_,[],_,_,_,_,h,_=>by simp at h
 | p::P,w::vs,0,m,nd,h1,h2,hk=>by
  simp at h1 h2;subst h1;subst h2;show bindC kindOf ((p,w)::P.zip vs) m p=_;unfold bindC;rw [vi λv hv=>(List.nodup_cons.mp nd).1 (List.of_mem_zip hv).1,if_neg hk];simp
 | p::P,w::vs,i+1,m,nd,h1,h2,hk=>by
  show bindC kindOf ((p,w)::P.zip vs) m x=_;unfold bindC;exact vj (i:=i) (List.nodup_cons.mp nd).2 (by simpa using h1) (by simpa using h2) hk
def start (N:List Str) (vs:List V):St:=vs.map some++List.replicate (N.length - vs.length) none
noncomputable def cR (CX:CXT) (P:Program) (w:World) (K:W.Frag) (mg:Str->Option Value) (base:Heap) (N:List Str) (qual:Str) (scope:Scope) (f:Addr) (cd:Value) (A:Around) (outer:List Env) (s:Shared) (H:Hp) (E:XK):Cx where
 prog:=P
 w:=w
 K:=K
 mg:=mg
 base:=base
 A:=A.deeper (envOfC qual scope s.heap.objs.size f cd)
 N:=N
 s₀:=s
 H₀:=H
 env:=envOfC qual scope s.heap.objs.size f cd
 outer:=outer
 stack:=envOfC qual scope s.heap.objs.size f cd::outer
 ex:=[]
 calm:=true
 fn:=λ_=>true
 pn:=[]
 xe:=λe s'=>wpAny (model P w) (A.deeper (envOfC qual scope s.heap.objs.size f cd)) (leaving (envOfC qual scope s.heap.objs.size f cd) e) (λ_ s''=>CX outer H s E e s'') (λe' s''=>CX outer H s E e' s'') s'
theorem yI {sc:Scope} {n:Nat} {x:Str} (h:sc.names.lookup x=some .cell):∃ c,(cellsFrom n sc.names []).lookup x=some c:=by
 have q:=PySem.W.cellsFrom_some sc.names n [] (.inl h);exact Option.isSome_iff_exists.mp q
theorem DC {CX:CXT} {P:Program} {w:World} {K:W.Frag} {mg:Str->Option Value} {base:Heap} {N ps:List Str} {qual:Str} {scope:Scope} {f:Addr} {cd:Value} {A:Around} {outer:List Env} {s s1:Shared} {H:Hp} {E:XK} {us:List Value} {vs:List V}
  (S:aA N ps scope) (hd:A.handled=none) (e0:AV P w K mg base A outer s H) (hl:vs.length=ps.length) (r:Vals vs us)
  (x:InCallC s s.heap.objs.size (bindL (envOfC qual scope s.heap.objs.size f cd).kindOf (ps.zip us) λ_=>none) (cellsFrom (s.heap.objs.size+1) scope.names []) (bindC (envOfC qual scope s.heap.objs.size f cd).kindOf (ps.zip us) λ_=>none) s1) :
  Inv (cR CX P w K mg base N qual scope f cd A outer s H E) [] (start N vs) H s1:=by
 have hpl:ps.length<=N.length:=by have:=congrArg List.length S.pre;rw [List.length_take] at this;omega
 obtain ⟨h1,tk,rfl,hk⟩:=x.done;have noA:∀ b:Addr,b ∉ (cR CX P w K mg base N qual scope f cd A outer s H E).ex:=λb z=>absurd (show b∈([]:List Addr) from z) (by simp)
 refine ⟨⟨e0.mod,S.kind,rfl,rfl,Nat.le_refl _,λy z c h1 h2=>?_,λy hy=>?_,λy c _ h=>?_,λ_=>hd,Around.frames_deeper e0.frames,.inr ⟨rfl,rfl⟩,λb z=>absurd z (noA b),e0.bs,e0.bsz,λb _ _=>noA b,λb z=>absurd z (noA b),e0.funs,e0.frf⟩,
  rfl,e0.bare,Un.kept hk,⟨_,x.toInCall.ns,λi y v h1 h2 h3=>?_⟩,λy c h=>⟨_,x.cell y c h⟩,e0.hok.fresh (Nat.le_refl _),λy c h=>?_,λp hp=>absurd (show p∈([]:List (Addr×Obj)) from hp) (by simp),e0.hok.kept hk,?_⟩
 ·exact name_of_addr x.apart (PySem.mem_of_lookup h1) (PySem.mem_of_lookup h2)
 ·have hy:scope.names.lookup y=some .cell\/scope.names.lookup y=some .free:=hy;rcases hy with hy | hy
  ·exact yI hy
  ·exact absurd rfl (S.nofree _ (PySem.mem_of_lookup hy))
 ·exact Nat.le_of_lt (x.above y c (PySem.mem_of_lookup h))
 ·have hi:i < vs.length:=by
   unfold start at h2
   by_cases hi:i < vs.length
   ·exact hi
   ·rw [List.getElem?_append_right (by simpa using hi)] at h2;rw [List.getElem?_replicate] at h2;split at h2 <;> cases h2
  have ha:vs[i]?=some v:=by
   unfold start at h2;rw [List.getElem?_append_left (by simpa using hi),List.getElem?_map] at h2;cases e:vs[i]? with
   | none=>rw [e] at h2;cases h2
   | some a=>rw [e] at h2;cases h2;rfl
  obtain ⟨u,hu,rv⟩:=r.get ha
  have hp:ps[i]?=some y:=by
   rw [<- S.pre,List.getElem?_take_of_lt (by omega)];exact h1
  have ndP:ps.Nodup:=by rw [<- S.pre];exact S.nd.sublist (List.take_sublist _ _)
  refine ⟨u,rv,?_⟩;rcases S.par y (List.mem_of_getElem? hp) with k | k
  ·exact .inl ⟨k,vh ndP hp hu k⟩
  ·obtain ⟨c,e⟩:=yI (n:=s.heap.objs.size+1) k;refine .inr ⟨.inl k,c,e,?_⟩;have q:=x.cell y c e;rw [vj ndP hp hu (by show scope.names.lookup y≠_;rw [k];decide)] at q;exact q
 ·exact e0.hok.fresh (Nat.le_of_lt (x.above y c (PySem.mem_of_lookup h)))
 ·unfold start;show _=N.length;rw [List.length_append,List.length_map,List.length_replicate];omega
theorem fn_of {CX:CXT} {P:Program} {w:World} {K:W.Frag} {mg:Str->Option Value} {base:Heap} {k:Nat} {f:Addr} {name qual:Str} {params:Arguments} {body:List Stmt} {scope:Scope} {dV kV doc pm cdv ct oc:Value} {an od:Option Addr}
  {osl:Array (Option Value)} {N ps:List Str} {sp:Sp} (lk:K.lookup f=some ⟨oc,od,.func (PySem.W.fnOf name qual params body scope dV kV doc pm an cdv ct),osl⟩) (hcd:PySem.W.codeIn K cdv qual=true) (S:aA N ps scope)
  (len:∀ vs H Q E,sp vs H Q E->vs.length=ps.length)
  (hbody:∀(A:Around) (outer:List Env) (s:Shared) (H:Hp) (vs:List V) (Q:VK) (E:XK),dF k (A.deeper (envOfC qual scope s.heap.objs.size f cdv))->sp vs H Q E->
   ∃ t,PSs (cR CX P w K mg base N qual scope f cdv A outer s H E) body t/\t {nx:=λ_ H'=>Q .non H',rt:=Q} (start N vs) H) :
  lS P w K mg base CX (k+1) f (PySem.W.fnOf name qual params body scope dV kV doc pm an cdv ct) ps sp:=by
 refine ⟨len,λA outer s H args us vs Q E hr e0 hb r hsp=>?_⟩;have hl:=len _ _ _ _ hsp;have KX:K.In s.heap:=e0.mod.kin.keeps λb o e=>(e0.bs b o e).1;have lim:s.heap.NoLimit:=e0.mod.nolimit.keeps λb o e=>(e0.bs b o e).1
 have hkind:∀ y∈ps.zip us,scope.names.lookup y.1=some .local\/(scope.names.lookup y.1=some .cell/\((cellsFrom (s.heap.objs.size+1) scope.names []).lookup y.1).isSome=true):=λ⟨n,v⟩ hy=>by
  rcases S.par n (List.of_mem_zip hy).1 with q | q
  ·exact .inl q
  ·exact .inr ⟨q,PySem.W.cellsFrom_some _ _ _ (.inl q)⟩
 refine codeAny_call_function hr.depth (KX _ _ lk) rfl S.co S.gen rfl (PySem.W.codeRec_of KX hcd) (hb _ _ _ _ ?_);refine wpAny_newFunctionEnv_cells S.kind hkind λenv he s1 x=>?_;subst he;refine ⟨lim.keeps x.toInCall.keep,codeAny_func ?_⟩;obtain ⟨t,ht,hq⟩:=hbody A outer s H vs Q E (hr.deeper _) hsp;have I:Inv (cR CX P w K mg base N qual scope f cdv A outer s H E) [] (start N vs) H s1:=DC S hr.hd e0 hl r x;refine wpAny_mono (ht [] s1 (start N vs) H _ I hq) (λfl s' hs=>?_) λe s' hs=>hs
 have fin:∀{σ':St} {H':Hp} {v:V} {u:Value},Inv (cR CX P w K mg base N qual scope f cdv A outer s H E) [] σ' H' s'->RelV v u->Q v H'->CE outer P w H s Q u s':=
  λ{σ' H' v u} J rv q=>⟨v,H',J.os,J.bare,J.base,J.hok,rv,q⟩
 cases fl with
 | ret u =>
  obtain ⟨v,σ',H',J,rv,q⟩:=hs;exact fin J rv q
 | next =>
  obtain ⟨σ',H',J,q⟩:=hs;exact fin (v:=V.non) (u:=Value.none) J rfl q
 | brk =>
  obtain ⟨_,_,_,q⟩:=hs;exact False.elim q
 | cont =>
  obtain ⟨_,_,_,q⟩:=hs;exact False.elim q
section
variable {X:Cx} {x:Str} {p pos:Pos} {e:Expr} {es:List Expr} {t:TA} {id T:String} {r:List V->Hp->VK->Prop}
def tCB (r:List V->Hp->VK->Prop) (t:TA):TE:=λσ H Q=>t σ H λvs H1=>r vs H1 Q
theorem aB (hc:jI X (.builtin id) r) (hg:Gl X x) (hm:X.mg x=none) (hv:bootBuiltins x=some (.builtin id)) (ha:PA X (e::es) t) (hn:x≠"__name__":=by decide) (hdb:(x == ("__debug__":Str))=false:=by decide)
  (he:starEach (e::es) X.env=(false,eval e X.env)::starEach es X.env:=by rfl) (hpl:(backTo pos (starEach es X.env)).any (·.1)=false:=by rfl):PE X (.Call (.Name x p) (e::es) [] pos) (tCB r t):=by
 intro pins s σ H Q I h;refine wpAny_Call_Name_kw (oZ I hg hm hv ?_ hn hdb);refine PyProof.Rows.callWith_builtin1 (thn (ha pos pins s σ H _ I h) λus s1 zz=>?_) he hpl;obtain ⟨vs,H1,I1,r1,q1⟩:=zz;exact hc pins s1 σ H1 vs us Q I1 r1 q1
theorem iU (hc:jI X (.type T) r) (hg:Gl X x) (hm:X.mg x=none) (hv:bootBuiltins x=some (.type T)) (ha:PA X (e::es) t) (hn:x≠"__name__":=by decide) (hdb:(x == ("__debug__":Str))=false:=by decide)
  (he:starEach (e::es) X.env=(false,eval e X.env)::starEach es X.env:=by rfl) (hpl:(backTo pos (starEach es X.env)).any (·.1)=false:=by rfl):PE X (.Call (.Name x p) (e::es) [] pos) (tCB r t):=by
 intro pins s σ H Q I h;refine wpAny_Call_Name_kw (oZ I hg hm hv ?_ hn hdb);refine PyProof.Rows.callWith_type1 (thn (ha pos pins s σ H _ I h) λus s1 zz=>?_) he hpl;obtain ⟨vs,H1,I1,r1,q1⟩:=zz;exact hc pins s1 σ H1 vs us Q I1 r1 q1
end
end L2
namespace HT
open PySem PyProof.Rows
section
open PySem.SeqAt
open PySem.AutoSeq1 (wpAny_loadPart')
open PySem.MeetsSeq PySem.MeetsSeq2 PySem.MeetsSeq3
end
section
variable {prog:Program} {w:World} {A:Around} {E:Value->Shared->Prop} {s:Shared}
theorem cat_tup {t b:Addr} {vs ws:List Value} {Q:Value->Shared->Prop} (ht:IsTup s.heap t vs.toArray) (hb:IsTup s.heap b ws.toArray) (hv:vs≠[])
  (h1:ws=[]->Q (.ref t) s) (h2:ws≠[]->Q (.ref s.heap.objs.size) {s with heap:=s.heap.push {cls:=.type "tuple",data:=.seq (vs++ws).toArray} })
  (hsz:vs.length+ws.length<=sizeLine):wpAny (model prog w) A (binaryOp .Add (.ref t) (.ref b)) Q E s:=by
 obtain ⟨⟨cls,dd,data,sl⟩,ho,hc,n,hd⟩:=id ht;obtain ⟨⟨cls2,dd2,data2,sl2⟩,ho2,hc2,n2,hd2⟩:=id hb;simp only at hc hd hc2 hd2;subst hc hd hc2 hd2;have e:vs.toArray++ws.toArray=(vs++ws).toArray:=by simp
 by_cases hw:ws=[]
 ·exact concat_meets ⟨_,ho,rfl⟩ ⟨_,ho2,rfl⟩ noFill_tuple_add seq_tuple_add PySem.F.slot_tuple_add PySem.F.entry_tuple_add (PySem.F.args_tuple_add_2 _ _)
   (tuple_addW1 t b vs.toArray ws.toArray n n2 dd dd2 sl sl2 (by simpa using hv) (by simp [hw])) ⟨ho,ho2,h1 hw⟩
 ·refine concat_meets ⟨_,ho,rfl⟩ ⟨_,ho2,rfl⟩ noFill_tuple_add seq_tuple_add PySem.F.slot_tuple_add PySem.F.entry_tuple_add (PySem.F.args_tuple_add_2 _ _)
   (tuple_addW2 t b vs.toArray ws.toArray n n2 dd dd2 sl sl2 (by simpa using hv) (by simpa using hw) (by rw [List.size_toArray,List.size_toArray];exact hsz)) ⟨ho,ho2,?_⟩
  rw [e];exact h2 hw
def sIx (n d:Nat):Option Int->Nat
 | none=>d
 | some v=>if v < 0 then (v+(n:Int)).toNat else min v.toNat n
theorem ES (n d:Nat):sIx n d none=d:=rfl
theorem vB (n d k:Nat):sIx n d (some (k:Int))=min k n:=by
 show (if (k:Int) < 0 then ((k:Int)+(n:Int)).toNat else min (k:Int).toNat n)=min k n;rw [if_neg (by omega),Int.toNat_natCast]
theorem sIx_le (n d:Nat) (hd:d<=n) (o:Option Int):sIx n d o<=n:=by
 cases o with
 | none=>exact hd
 | some v =>
  show (if v < 0 then (v+(n:Int)).toNat else min v.toNat n)<=n
  by_cases hv:v < 0
  ·rw [if_pos hv];omega
  ·rw [if_neg hv];exact Nat.min_le_right _ _
theorem Co (v:Int) (n d:Nat):(if v < 0 then max (v+(n:Int)) 0 else min v (n:Int))=((sIx n d (some v):Nat):Int):=by
 show (if v < 0 then max (v+(n:Int)) 0 else min v (n:Int))=(((if v < 0 then (v+(n:Int)).toNat else min v.toNat n):Nat):Int)
 by_cases hv:v < 0
 ·simp only [if_pos hv];omega
 ·simp only [if_neg hv];omega
theorem AH (lo hi:Option Int) (n:Nat):Builtin.Slice.sliceAdjust lo hi 1 (n:Int)=(((sIx n 0 lo:Nat):Int),((sIx n n hi:Nat):Int)):=by
 have h1:¬ ((1:Int) < 0):=by omega
 unfold Builtin.Slice.sliceAdjust;simp only [h1,if_false];refine Prod.ext ?_ ?_
 ·cases lo with
  | none=>rfl
  | some v=>exact Co v n 0
 ·cases hi with
  | none=>rfl
  | some v=>exact Co v n n
theorem zD (i j:Nat):Builtin.Slice.slicePlaces (i:Int) (j:Int) 1=j - i:=by
 unfold Builtin.Slice.slicePlaces;have h1:(1:Int) > 0:=by omega
 simp only [h1,if_true,Int.ediv_one];split <;> omega
theorem rz {v:Value} {o:Option Int} {Q:Option Int->Shared->Prop} (p:IsPart v o) (h:Q o s):wpAny (model prog w) A (Builtin.Slice.slicePartIndex v) Q E s:=by
 cases p with
 | none=>exact slicePart_none h
 | int i t=>exact slicePart_int h
theorem iN {sl:Addr} {vl vu:Value} {lo hi:Option Int} {n:Nat} {Q:Int×Int×Nat->Shared->Prop} (hs:s.heap.IsSliceOf sl vl vu .none) (pl:IsPart vl lo) (pu:IsPart vu hi)
  (h:Q (((sIx n 0 lo:Nat):Int),1,sIx n n hi - sIx n 0 lo) s):wpAny (model prog w) A (Builtin.Slice.sliceApplied (.ref sl) (pure (n:Int))) Q E s:=by
 obtain ⟨os,hos,hcs,hds⟩:=id hs;unfold Builtin.Slice.sliceApplied Builtin.Slice.sliceFields;refine wpAny_bind (wpAny_bind (wpAny_field hos hds (x:=vl) rfl (wpAny_bind (wpAny_field hos hds (x:=vu) rfl (wpAny_bind (wpAny_field hos hds (x:=.none) rfl (wpAny_pure ?_)))))));refine wpAny_bind (slicePart_none ?_);show wpAny _ _ (if ((1:Int) == 0)=true then _ else _) _ _ s;rw [if_neg (by decide)];refine wpAny_bind (rz pl (wpAny_bind (rz pu (wpAny_bind (wpAny_pure ?_)))));show wpAny _ _ (match Builtin.Slice.sliceAdjust lo hi 1 (n:Int) with | (lo,hi)=>pure (lo,(1:Int),Builtin.Slice.slicePlaces lo hi 1)) _ _ s
 rw [AH lo hi n];show wpAny _ _ (pure (((sIx n 0 lo:Nat):Int),(1:Int),Builtin.Slice.slicePlaces ((sIx n 0 lo:Nat):Int) ((sIx n n hi:Nat):Int) 1)) _ _ s;rw [zD];exact wpAny_pure h
theorem Fp (xs:Array Value) (i k:Nat):((List.range k).filterMap λ(m:Nat)=>xs[((i:Int)+(m:Int)*1).toNat]?).toArray=((xs.toList.drop i).take k).toArray:=by
 have e:(λ(m:Nat)=>xs[((i:Int)+(m:Int)*1).toNat]?)=λm=>xs[i+m]?:=by
  funext m;have:((i:Int)+(m:Int)*1).toNat=i+m:=by omega
  rw [this]
 rw [e];have:=pick_run xs i k;rw [List.filterMap_map] at this;have e2:((λx=>xs[x]?) ∘ λx=>i+x)=λm=>xs[i+m]?:=rfl;rw [e2] at this;rw [this]
theorem nQ {t sl:Addr} {items:Array Value} {vl vu:Value} {lo hi:Option Int} {Q:Value->Shared->Prop} (ht:IsTup s.heap t items) (hs:s.heap.IsSliceOf sl vl vu .none) (pl:IsPart vl lo) (pu:IsPart vu hi)
  (hw:¬ (sIx items.size 0 lo=0/\sIx items.size items.size hi=items.size))
  (h:Q (.ref s.heap.objs.size) {s with heap:=s.heap.push {cls:=.type "tuple",data:=.seq ((items.toList.drop (sIx items.size 0 lo)).take (sIx items.size items.size hi - sIx items.size 0 lo)).toArray} })
  (hsz:items.size<=sizeLine):wpAny (model prog w) A (getItem (.ref t) (.ref sl)) Q E s:=by
 have htake:sizeOk (.seq ((items.toList.drop (sIx items.size 0 lo)).take (sIx items.size items.size hi - sIx items.size 0 lo)).toArray):=by
  show ((items.toList.drop (sIx items.size 0 lo)).take (sIx items.size items.size hi - sIx items.size 0 lo)).toArray.size<=sizeLine;rw [List.size_toArray,List.length_take,List.length_drop,Array.length_toList];omega
 have hj:sIx items.size items.size hi<=items.size:=sIx_le _ _ (Nat.le_refl _) hi;obtain ⟨os,hos,hcs,hds⟩:=id hs;have hTs:s.TypeIs (.ref sl) "slice":=⟨os,hos,hcs⟩;unfold getItem
 try with_reducible refine wpAny_holding ?_
 first | refine wpAny_bind (wpAny_pure ?_) | skip
 refine wpAny_bind (wpAny_sequenceKey ht.typeIs (by decide) ?_)
 refine wpAny_bind (wpAny_callSpecial?_slot (name:=Str.ofString "__getitem__") ht.typeIs PyProof.Rows.slot_tuple_getitem
  (wpAny_call_entry PyProof.Rows.slot_tuple_getitem ht.typeIs entry_tuple_getitem ?_ (args_tuple_getitem _ _)))
 show wpAny _ _ (Builtin.Tuple.tupleItemsOf (.ref t) >>= _) _ _ s;refine wpAny_bind (tupleItemsOf_ ht ?_);refine wpAny_bind (wpAny_typeOf hTs ?_);rw [if_pos (by decide)];refine wpAny_bind (iN hs pl pu ?_)
 have hno:¬ ((((sIx items.size 0 lo:Nat):Int) == 0 && (1:Int) == 1 && (sIx items.size items.size hi - sIx items.size 0 lo) == items.size)=true):=by
  intro q;rw [Bool.and_eq_true,Bool.and_eq_true] at q;have q1:((sIx items.size 0 lo:Nat):Int)=0:=eq_of_beq q.1.1;have q2:sIx items.size items.size hi - sIx items.size 0 lo=items.size:=eq_of_beq q.2;exact hw ⟨by omega,by omega⟩
 show wpAny _ _ (if (((sIx items.size 0 lo:Nat):Int) == 0 && (1:Int) == 1 && (sIx items.size items.size hi - sIx items.size 0 lo) == items.size)=true then _ else _) _ _ s;rw [if_neg hno,Fp]
 first
  | exact wpAny_bind (m:=Builtin.Tuple.tupleExact _) (wpAny_newObj_type (wpAny_pure ⟨_,rfl,wpAny_pure h⟩) htake)
  | exact wpAny_bind (m:=Builtin.Tuple.tupleExact _) (wpAny_newObj_type (wpAny_bind (wpAny_pure (wpAny_pure ⟨_,rfl,wpAny_pure h⟩))) htake)
  | exact wpAny_bind (wpAny_bind (m:=Builtin.Tuple.tupleExact _) (wpAny_newObj_type (wpAny_pure (wpAny_pure ⟨_,rfl,wpAny_pure h⟩)) htake))
  | exact wpAny_bind (wpAny_bind (m:=Builtin.Tuple.tupleExact _) (wpAny_newObj_type (wpAny_pure ⟨_,rfl,wpAny_pure h⟩) htake))
end
end HT
namespace L2
open PySem PySem.Spec PyProof.Rows
abbrev TO:=St->Hp->(Option Int->Hp->Prop)->Prop
def PO (X:Cx) (e:Option Expr) (t:TO):Prop:=
 ∀(
  pins:List (Addr×Obj)) (s:Shared) (σ:St) (H:Hp) (Q:Option Int->Hp->Prop),Inv X pins σ H s->t σ H Q->
  wpAny (model X.prog X.w) X.A (evalPart e X.env) (λu s'=>∃ o H',Inv X pins σ H' s'/\IsPart u o/\Q o H') X.xe s
def kO:TO:=λ_ H Q=>Q none H
def tPart (t:TE):TO:=λσ H Q=>t σ H λx H1=>∃ i,x=.int i/\Q (some i) H1
theorem intsAre_of {ns:List Int}:∀{us:List Value},Vals (ns.map V.int) us->IntsAre us ns:=by
 induction ns with
 | nil=>intro us r;rw [List.map_nil] at r;cases r;exact .nil
 | cons n ns ih =>
  intro us r;rw [List.map_cons] at r;cases r with
  | cons r1 r2 =>
   obtain ⟨t,e⟩:=r1;subst e;exact .cons n t (ih r2)
section
variable {X:Cx} {e:Expr} {te:TE} {lo hi:Option Expr} {tl th:TO} {pos p2:Pos}
theorem eE:PO X none kO:=by
 intro pins s σ H Q I h;rw [evalPart_none];exact wpAny_pure ⟨none,H,I,.none,h⟩
theorem eC (h:PE X e te):PO X (some e) (tPart te):=by
 intro pins s σ H Q I hw;rw [evalPart_some];refine thn (h pins s σ H _ I hw) λu s1 zz=>?_;obtain ⟨x,H1,I1,r1,q1⟩:=zz;obtain ⟨i,rfl,q⟩:=q1;obtain ⟨t,rfl⟩:=r1;exact ⟨some i,H1,I1,.int i t,q⟩
def SlR (X:Cx) (r:V->Option Int->Option Int->Hp->VK->Prop):Prop:=
 ∀(
  pins:List (Addr×Obj)) (s:Shared) (σ:St) (H:Hp) (x:V) (v vl vu:Value) (lo hi:Option Int) (sl:Addr) (Q:VK),Inv X pins σ H s->RelV x v->s.heap.IsSliceOf sl vl vu .none->IsPart vl lo->IsPart vu hi->r x lo hi H Q->
  ∃ T id,typeLookup (.type T) "__getitem__"=pure (some (.builtin id))/\s.TypeIs v T/\wpAny (model X.prog X.w) X.A (getItem v (.ref sl)) (EP X pins σ Q) X.xe s
def tSl (r:V->Option Int->Option Int->Hp->VK->Prop) (te:TE) (tl th:TO):TE:=λσ H Q=>te σ H λx H1=>tl σ H1 λl H2=>th σ H2 λu H3=>r x l u H3 Q
theorem dh {r:V->Option Int->Option Int->Hp->VK->Prop} (hr:SlR X r) (he:PE X e te) (hl:PO X lo tl) (hu:PO X hi th):PE X (.Subscript e (.Slice lo hi none p2) pos) (tSl r te tl th):=by
 intro pins s σ H Q I h;refine Subscript_ (thn (he pins s σ H _ I h) λv s1 zz=>?_);obtain ⟨x,H1,I1,r1,q1⟩:=zz;refine wpAny_Slice (thn (hl pins s1 σ H1 _ I1 q1) λvl s2 zz=>?_);obtain ⟨l,H2,I2,pl,q2⟩:=zz;refine thn (hu pins s2 σ H2 _ I2 q2) λvu s3 zz=>?_;obtain ⟨u,H3,I3,pu,q3⟩:=zz;rw [evalPart_none];refine wpAny_pure ?_;have I4:Inv X pins σ H3 {s3 with heap:=s3.heap.push {cls:=.type "slice",data:=.fields #[vl,vu,.none] } }:=I3.kept (t':=s3.toks) λb ob q=>Heap.get?_push_of_some _ q
 obtain ⟨T,id,hT,ht,hg⟩:=hr pins {s3 with heap:=s3.heap.push {cls:=.type "slice",data:=.fields #[vl,vu,.none] } } σ H3 x v vl vu l u s3.heap.objs.size Q I4 r1 (Heap.IsSliceOf.new ..) pl pu q3
 show wpAny (model X.prog X.w) X.A (subscriptTail e (.Slice lo hi none p2) v (.ref s3.heap.objs.size)) (EP X pins σ Q) X.xe {s3 with heap:=s3.heap.push {cls:=.type "slice",data:=.fields #[vl,vu,.none] } }
 exact tail_any (ops:=[.ref s3.heap.objs.size,v]) ht hT hg (by with_unfolding_all rfl)
def jd (xs:List V) (lo hi:Option Int):List V:=(xs.drop (HT.sIx xs.length 0 lo)).take (HT.sIx xs.length xs.length hi - HT.sIx xs.length 0 lo)
theorem qa (xs:List V) (lo hi:Option Int):(jd xs lo hi).length<=xs.length:=by
 unfold jd;rw [List.length_take,List.length_drop];omega
def rSlT (K:W.Frag):V->Option Int->Option Int->Hp->VK->Prop:=λx lo hi H Q=>∃ a xs,x=.ref a/\SqT K H a xs/\
 ¬ (HT.sIx xs.length 0 lo=0/\HT.sIx xs.length xs.length hi=xs.length)/\∀ p,H p=none->Q (.ref p) (upd H p (.tup (jd xs lo hi)))
theorem mn:SlR X (rSlT X.K):=by
 intro pins s σ H x v vl vu lo hi sl Q I rx hs pl pu h;obtain ⟨a,xs,rfl,hx,hw,q⟩:=h;cases rx
 obtain ⟨its,r,ht,hz⟩:=I.tuple hx;have hlen:its.toArray.size=xs.length:=by rw [List.size_toArray];exact r.length.symm
 refine ⟨"tuple",_,PyProof.Rows.slot_tuple_getitem.lookup,ht.typeIs,?_⟩;refine HT.nQ ht hs pl pu (by rw [hlen];exact hw) ?_ (by rw [hlen];exact hz);rw [hlen];refine ⟨.ref s.heap.objs.size,_,I.laid (t':=s.toks) (o:=.tup (jd xs lo hi)) (λb ob q=>Heap.get?_push_of_some _ q) (Nat.le_refl _) ?_,rfl,q _ (I.hok.fresh (Nat.le_refl _))⟩;exact ⟨Nat.le_trans (qa xs lo hi) hz,_,(r.drop (HT.sIx xs.length 0 lo)).take (HT.sIx xs.length xs.length hi - HT.sIx xs.length 0 lo),IsTup.new _ _⟩
def rCatT (K:W.Frag):R2:=λx y H Q=>∃ a b xs ys,x=.ref a/\y=.ref b/\SqT K H a xs/\SqT K H b ys/\xs≠[]/\xs.length+ys.length<=sizeLine/\
 (ys=[]->Q (.ref a) H)/\(ys≠[]->∀ p,H p=none->Q (.ref p) (upd H p (.tup (xs++ys))))
theorem Vals.nil_iff {xs:List V} {us:List Value} (r:Vals xs us):us=[]↔xs=[]:=by
 cases r with
 | nil=>simp
 | cons _ _=>simp
theorem lj:OpR X (binaryOp .Add) (rCatT X.K):=by
 intro pins s σ H x y v u Q I rx ry h;obtain ⟨a,b,xs,ys,rfl,rfl,ha,hb,hx,hz,q1,q2⟩:=h;cases rx
 cases ry
 obtain ⟨its,r1,p1,_⟩:=I.tuple ha;obtain ⟨its2,r2,p2,_⟩:=I.tuple hb;refine HT.cat_tup p1 p2 (λz=>hx (r1.nil_iff.mp z)) (λz=>⟨.ref a,H,I,rfl,q1 (r2.nil_iff.mp z)⟩) (λz=>?_) (by rw [<- r1.length,<- r2.length];exact hz);refine ⟨.ref s.heap.objs.size,_,I.laid (t':=s.toks) (o:=.tup (xs++ys)) (λb ob q=>Heap.get?_push_of_some _ q) (Nat.le_refl _) ?_,rfl,q2 (λw=>z (r2.nil_iff.mpr w)) _ (I.hok.fresh (Nat.le_refl _))⟩;exact ⟨by rw [List.length_append];exact hz,_,r1.append r2,IsTup.new _ _⟩
end
def ixN (n:Nat) (i:Int):Option Nat:=if 0<=i then (if i < n then some i.toNat else none) else if -(n:Int)<=i then some (i+n).toNat else none
def atI {α:Type} (xs:List α) (i:Int):Option α:=(ixN xs.length i).bind λj=>xs[j]?
theorem BX {n:Nat} {i:Int} {j:Nat} (h:ixN n i=some j):seqIndex? i n=some j/\j < n/\-(n:Int)<=i/\i < n:=by
 unfold ixN at h
 by_cases h0:0<=i
 ·rw [if_pos h0] at h
  by_cases h1:i < n
  ·rw [if_pos h1] at h;have e:i.toNat=j:=Option.some.inj h;exact ⟨by rw [seqIndex_of h0 h1,e],by omega,by omega,h1⟩
  ·rw [if_neg h1] at h;cases h
 ·rw [if_neg h0] at h
  by_cases h1:-(n:Int)<=i
  ·rw [if_pos h1] at h;have e:(i+n).toNat=j:=Option.some.inj h;exact ⟨by rw [seqIndex_neg (by omega) h1,e],by omega,h1,by omega⟩
  ·rw [if_neg h1] at h;cases h
theorem Cs {α:Type} {xs:List α} {i:Int} {v:α} (h:atI xs i=some v):∃ j,seqIndex? i xs.length=some j/\xs[j]?=some v/\j < xs.length/\-(xs.length:Int)<=i/\i < xs.length:=by
 unfold atI at h;cases e:ixN xs.length i with
 | none=>rw [e] at h;cases h
 | some j =>
  rw [e] at h;obtain ⟨h1,h2,h3,h4⟩:=BX e;exact ⟨j,h1,h,h2,h3,h4⟩
theorem cZ {α:Type} {xs:List α} {j:Nat} {v:α} (h:xs[j]?=some v):atI xs (j:Int)=some v:=by
 have hj:j < xs.length:=(List.getElem?_eq_some_iff.mp h).1
 have e:ixN xs.length (j:Int)=some j:=by
  unfold ixN;rw [if_pos (by omega),if_pos (by omega)];simp
 unfold atI;rw [e];exact h
def PlainIx (b:Expr):Prop:=∀ o i,subscripted b false o i=operate [o,i] (getItem o i)
def IxR (X:Cx) (r:R2):Prop:=
 ∀(
  value slice:Expr) (pins:List (Addr×Obj)) (s:Shared) (σ:St) (H:Hp) (x y:V) (v u:Value) (Q:VK),Inv X pins σ H s->RelV x v->RelV y u->r x y H Q->
  subscripted slice false v u=operate [v,u] (getItem v u)->wpAny (model X.prog X.w) X.A (subscriptTail value slice v u) (EP X pins σ Q) X.xe s
def MtR (X:Cx) (id:String) (r:V->List V->Hp->VK->Prop):Prop:=
 ∀(
  pins:List (Addr×Obj)) (s:Shared) (σ:St) (H:Hp) (x:V) (xs:List V) (v:Value) (us:List Value) (Q:VK),Inv X pins σ H s->RelV x v->Vals xs us->r x xs H Q->
  wpAny (model X.prog X.w) X.A (call (.builtin id) (v::us)) (EP X pins σ Q) X.xe s
section
variable {X:Cx} {a b:Expr} {ta tb:TE} {pos:Pos}
theorem aF {r:R2} (hr:IxR X r) (ha:PE X a ta) (hb:PE X b tb) (hs:PlainIx b):PE X (.Subscript a b pos) (tOp r ta tb):=by
 intro pins s σ H Q I h;exact Subscript_ (binT ha hb I h λv u s2 x y H2 I2 rx ry q=>hr a b pins s2 σ H2 x y v u Q I2 rx ry q (hs _ _))
inductive XrIxL (K:W.Frag) (x:V) (y:V) (H:Hp) (Q:VK):Prop where
 | mk (p:Addr) (xs:List V) (i:Int) (v:V) (z_0:x=.ref p) (z_1:y=.int i) (z_2:SqL K H p xs) (z_3:atI xs i=some v) (z_4:Q v H):XrIxL K x y H Q
def rIxL (K:W.Frag):R2:=λx y H Q=>XrIxL K x y H Q
inductive XrIxT (K:W.Frag) (x:V) (y:V) (H:Hp) (Q:VK):Prop where
 | mk (p:Addr) (xs:List V) (i:Int) (v:V) (z_0:x=.ref p) (z_1:y=.int i) (z_2:SqT K H p xs) (z_3:atI xs i=some v) (z_4:Q v H):XrIxT K x y H Q
def rIxT (K:W.Frag):R2:=λx y H Q=>XrIxT K x y H Q
theorem bo:IxR X (rIxL X.K):=by
 intro value slice pins s σ H x y v u Q I rx ry h hs;obtain ⟨p,xs,i,z,rfl,rfl,hq,he,q⟩:=h;cases rx
 obtain ⟨t,rfl⟩:=ry;obtain ⟨its,r,pl,hz⟩:=I.list hq;obtain ⟨j,h1,h2,h3,h4,h5⟩:=Cs he;obtain ⟨w,ew,rw'⟩:=r.get h2;have hl:=r.length;have hn:=sI;have fin:EP X pins σ Q w s:=⟨z,H,I,rw',q⟩
 by_cases h0:0<=i
 ·have hj:i.toNat=j:=by
   rw [seqIndex_of h0 h5] at h1;exact Option.some.inj h1
  exact item_listR pl.isList h0 (by omega) (by rw [hj];simpa using ew) fin hs
 ·have hj:(i+(its.toArray.size:Int)).toNat=j:=by
   rw [seqIndex_neg (by omega) h4] at h1;rw [List.size_toArray,<- hl];exact Option.some.inj h1
  exact subscriptTail_builtinR (x:=w) pl.isList.typeIs slot_list_getitem.lookup
   (wpAny_getItem_list_neg (Q:=λr s'=>r=w/\EP X pins σ Q r s') pl.isList (by omega) (by rw [List.size_toArray] <;> omega) (by omega) (by rw [hj];simpa using ew) ⟨rfl,fin⟩) hs
theorem aG:IxR X (rIxT X.K):=by
 intro value slice pins s σ H x y v u Q I rx ry h hs;obtain ⟨p,xs,i,z,rfl,rfl,hq,he,q⟩:=h;cases rx
 obtain ⟨t,rfl⟩:=ry;obtain ⟨its,r,pl,hz⟩:=I.tuple hq;obtain ⟨j,h1,h2,h3,h4,h5⟩:=Cs he;obtain ⟨w,ew,rw'⟩:=r.get h2;have hl:=r.length;have hn:=sI;have fin:EP X pins σ Q w s:=⟨z,H,I,rw',q⟩
 exact subscriptTail_builtinR (x:=w) pl.typeIs slot_tuple_getitem.lookup
  (getItem_tuple (j:=j) (Q:=λr s'=>r=w/\EP X pins σ Q r s') pl (by omega) (by omega) (by rw [List.size_toArray,<- hl];exact h1) (by simpa using ew) ⟨rfl,fin⟩) hs
theorem Ad (its:List Value) (n j:Nat) (u:Value):Obj.mapSeq (·.setIfInBounds j u) {cls:=.type "list",data:=.seq its.toArray n}={cls:=.type "list",data:=.seq (its.set j u).toArray n}:=by
 simp [Obj.mapSeq]
theorem Inv.lst {pins:List (Addr×Obj)} {σ:St} {H:Hp} {s:Shared} {p:Addr} {xs:List V} (I:Inv X pins σ H s) (h:H p=some (.lst xs)) :
  ∃(its:List Value) (n:Nat),Vals xs its/\s.heap.get? p=some {cls:=.type "list",data:=.seq its.toArray n}/\xs.length<=sizeLine:=by
 obtain ⟨z,its,n,r,e⟩:=I.hok p _ h;exact ⟨its,n,r,e,z⟩
theorem Inv.lstUpd {pins:List (Addr×Obj)} {σ:St} {H:Hp} {s:Shared} {p:Addr} {xs ys:List V} {its its':List Value} {n n':Nat} {f:Obj->Obj} (I:Inv X pins σ H s) (h:H p=some (.lst xs))
  (ho:s.heap.get? p=some {cls:=.type "list",data:=.seq its.toArray n}) (hf:f {cls:=.type "list",data:=.seq its.toArray n}={cls:=.type "list",data:=.seq its'.toArray n' }) (r:Vals ys its') (hz:ys.length<=sizeLine) (t:Nat) :
  Inv X pins σ (upd H p (.lst ys)) {s with heap:=s.heap.update p f,toks:=t}:=by
 have e:(s.heap.update p f).get? p=some {cls:=.type "list",data:=.seq its'.toArray n' }:=by
  rw [Heap.get?_update_self f ho (by rw [hf] <;> rfl),hf]
 refine I.write (x:=p) (e:=p) (by rw [h];trivial) (.inl rfl) (λb u hb q=>(Heap.get?_update_other _ _ (Ne.symm hb)).trans q) ⟨_,e⟩ ?_;exact ⟨hz,its',n',r,e⟩
def rSetL:V->V->V->Hp->(Hp->Prop)->Prop:=λo i v H Q=>∃ p xs k j,o=.ref p/\i=.int k/\H p=some (.lst xs)/\ixN xs.length k=some j/\Q (upd H p (.lst (xs.set j v)))
theorem set_list:PSet X rSetL:=by
 intro pins s σ H o i v ov iv u Q I ro ri rv h;obtain ⟨p,xs,k,j,rfl,rfl,hp,hj,q⟩:=h;cases ro
 obtain ⟨t,rfl⟩:=ri;obtain ⟨its,n,r,ho,hz⟩:=I.lst hp;obtain ⟨h1,h2,h3,h4⟩:=BX hj;have hl:=r.length;have hn:=sI
 have I':Inv X pins σ (upd H p (.lst (xs.set j v))) {s with heap:=s.heap.update p (Obj.mapSeq (·.setIfInBounds j u)) }:=
  I.lstUpd hp ho (Ad its n j u) (r.set rv j) (by rw [List.length_set];exact hz) s.toks
 by_cases h0:0<=k
 ·have hk:k.toNat=j:=by
   rw [seqIndex_of h0 h4] at h1;exact Option.some.inj h1
  exact PySem.W.ki_setAt ho h0 (by omega) (by rw [List.size_toArray,<- hl];exact h4) (by rw [hk];exact ⟨_,I',q⟩)
 ·have hk:(k+(its.toArray.size:Int)).toNat=j:=by
   rw [seqIndex_neg (by omega) h3] at h1;rw [List.size_toArray,<- hl];exact Option.some.inj h1
  exact PySem.W.ki_setBack ho (by omega) (by rw [List.size_toArray,<- hl];exact h3) (by omega) (by rw [hk];exact ⟨_,I',q⟩)
theorem vz (lo hi:Option Int) (n:Nat):(sliceBounds lo hi none n).1=((HT.sIx n 0 lo:Nat):Int)/\(sliceBounds lo hi none n).2.1=((HT.sIx n n hi:Nat):Int)/\(sliceBounds lo hi none n).2.2=1:=by
 refine ⟨?_,?_,rfl⟩
 ·cases lo with
  | none=>simp [sliceBounds,HT.sIx]
  | some i =>
   simp only [sliceBounds,HT.sIx,Option.getD_none,show (1:Int) > 0 by decide,if_true]
   by_cases h:i < 0
   ·simp only [h,if_true] <;> omega
   ·simp only [h,if_false] <;> omega
 ·cases hi with
  | none=>simp [sliceBounds,HT.sIx]
  | some i =>
   simp only [sliceBounds,HT.sIx,Option.getD_none,show (1:Int) > 0 by decide,if_true]
   by_cases h:i < 0
   ·simp only [h,if_true] <;> omega
   ·simp only [h,if_false] <;> omega
theorem tQ (its:List Value) (lo hi:Option Int):slicePick its.toArray lo hi none=((its.drop (HT.sIx its.length 0 lo)).take (HT.sIx its.length its.length hi - HT.sIx its.length 0 lo)).toArray:=by
 obtain ⟨h1,h2,h3⟩:=vz lo hi its.toArray.size;unfold slicePick;rw [h1,h2,h3];simp only [sliceRange_one,pick_run,List.size_toArray] <;> rfl
def rSlL (K:W.Frag):V->Option Int->Option Int->Hp->VK->Prop:=λx lo hi H Q=>∃ a xs,x=.ref a/\SqL K H a xs/\∀ p,H p=none->Q (.ref p) (upd H p (.lst (jd xs lo hi)))
theorem sl_list:SlR X (rSlL X.K):=by
 intro pins s σ H x v vl vu lo hi sl Q I rx hs pl pu h;obtain ⟨a,xs,rfl,hx,q⟩:=h;cases rx
 obtain ⟨its,r,ht,hz⟩:=I.list hx;have hlen:=r.length;refine ⟨"list",_,slot_list_getitem.lookup,ht.isList.typeIs,?_⟩;refine wpAny_getItem_list_slice ht.isList hs pl pu .none (by simp) ?_ (by rw [List.size_toArray] <;> omega);rw [tQ,<- hlen];refine ⟨.ref s.heap.objs.size,_,I.laid (t':=s.toks) (o:=.lst (jd xs lo hi)) (λb ob q=>Heap.get?_push_of_some _ q) (Nat.le_refl _) ?_,rfl,q _ (I.hok.fresh (Nat.le_refl _))⟩;exact ⟨Nat.le_trans (qa xs lo hi) hz,_,0,(r.drop (HT.sIx xs.length 0 lo)).take (HT.sIx xs.length xs.length hi - HT.sIx xs.length 0 lo),Heap.get?_push_size _ rfl⟩
def nU:V->Bool
 | .non=>true
 | .bl _=>true
 | .int _=>true
 | .str _=>true
 | _=>false
def eqV:V->V->Bool
 | .non,.non=>true
 | .bl a,.bl b=>a == b
 | .bl a,.int b=>(if a then 1 else 0) == b
 | .int a,.bl b=>a == (if b then 1 else 0)
 | .int a,.int b=>a == b
 | .str a,.str b=>a == b
 | _,_=>false
theorem eqAt_V {A:Around} {s:Shared} {y x:V} {u v:Value} (ry:RelV y u) (rx:RelV x v) (fy:nU y=true) (fx:nU x=true):SeqAt.EqAt A s u v (eqV y x):=by
 cases y with
 | non =>
  cases ry
  cases x with
  | non=>cases rx;exact SeqAt.EqAt.same _
  | bl b=>cases rx;exact SeqAt.EqAt.none_bool b
  | int b=>obtain ⟨t,rfl⟩:=rx;exact SeqAt.EqAt.none_int b t
  | str b=>obtain ⟨t,rfl⟩:=rx;exact SeqAt.EqAt.none_str b t
  | _=>exact absurd (show false=true from fx) Bool.false_ne_true
 | bl a =>
  cases ry
  cases x with
  | non=>cases rx;exact SeqAt.EqAt.bool_none a
  | bl b=>cases rx;exact SeqAt.EqAt.bool_bool a b
  | int b=>obtain ⟨t,rfl⟩:=rx;exact SeqAt.EqAt.bool_int a b t
  | str b=>obtain ⟨t,rfl⟩:=rx;exact SeqAt.EqAt.bool_str a b t
  | _=>exact absurd (show false=true from fx) Bool.false_ne_true
 | int a =>
  obtain ⟨t',rfl⟩:=ry;cases x with
  | non=>cases rx;exact SeqAt.EqAt.int_none a t'
  | bl b=>cases rx;exact SeqAt.EqAt.int_bool a t' b
  | int b=>obtain ⟨t,rfl⟩:=rx;exact SeqAt.EqAt.int_int a t' b t
  | str b=>obtain ⟨t,rfl⟩:=rx;exact SeqAt.EqAt.int_str a t' b t
  | _=>exact absurd (show false=true from fx) Bool.false_ne_true
 | str a =>
  obtain ⟨t',rfl⟩:=ry;cases x with
  | non=>cases rx;exact SeqAt.EqAt.str_none a t'
  | bl b=>cases rx;exact SeqAt.EqAt.str_bool a t' b
  | int b=>obtain ⟨t,rfl⟩:=rx;exact SeqAt.EqAt.str_int a t' b t
  | str b=>obtain ⟨t,rfl⟩:=rx;exact SeqAt.EqAt.str_str a t' b t
  | _=>exact absurd (show false=true from fx) Bool.false_ne_true
 | _=>exact absurd (show false=true from fy) Bool.false_ne_true
def eqU (x:V) (u:Value):Bool:=match u with
 | .none=>eqV .non x
 | .bool b=>eqV (.bl b) x
 | .int i _=>eqV (.int i) x
 | .str z _=>eqV (.str z) x
 | _=>false
theorem GZ {x y:V} {u:Value} (r:RelV y u) (f:nU y=true):eqU x u=eqV y x:=by
 cases y with
 | non=>cases r;rfl
 | bl b=>cases r;rfl
 | int i=>obtain ⟨t,rfl⟩:=r;rfl
 | str z=>obtain ⟨t,rfl⟩:=r;rfl
 | _=>exact absurd (show false=true from f) Bool.false_ne_true
theorem og {x:V}:∀{xs:List V} {us:List Value},Vals xs us->xs.all nU=true->us.any (eqU x)=xs.any λy=>eqV y x
 | _,_,.nil,_=>rfl
 | y::xs,u::us,.cons r t,f=>by
  rw [List.all_cons,Bool.and_eq_true] at f;rw [List.any_cons,List.any_cons,GZ r f.1,og t f.2]
theorem ko {A:Around} {s:Shared} {x:V} {v:Value} (rx:RelV x v) (fx:nU x=true):∀{xs:List V} {us:List Value},Vals xs us->xs.all nU=true->∀ u∈us,SeqAt.EqAt A s u v (eqU x u)
 | _,_,.nil,_=>λu hu=>by cases hu
 | y::xs,u::us,.cons r t,f=>λu' hu=>by
  rw [List.all_cons,Bool.and_eq_true] at f;rcases List.mem_cons.mp hu with rfl | hu
  ·rw [GZ r f.1];exact eqAt_V r rx f.1 fx
  ·exact ko rx fx t f.2 u' hu
def inV (x:V) (xs:List V):Bool:=xs.any λy=>eqV y x
def rIn (K:W.Frag) (neg:Bool):R2:=λx y H Q=>∃ p xs,y=.ref p/\(SqL K H p xs\/SqT K H p xs)/\nU x=true/\xs.all nU=true/\Q (.bl (if neg then !inV x xs else inV x xs)) H
theorem CQ:OpR X (compareOp .In) (rIn X.K false):=by
 intro pins s σ H x y v u Q I rx ry h;obtain ⟨p,xs,rfl,hq,fx,fs,q⟩:=h;cases ry
 rcases hq with hq | hq
 ·obtain ⟨its,r,pl,hz⟩:=I.list hq;refine SeqAt.in_listAt (eqU x) pl.isList (λw hw=>ko rx fx r fs w (by simpa using hw)) ⟨.bl _,H,I,rfl,?_⟩;rw [show its.toArray.any (eqU x)=its.any (eqU x) by simp,og r fs];exact q
 ·obtain ⟨its,r,pl,hz⟩:=I.tuple hq;refine SeqAt.in_tupleAt (eqU x) pl (λw hw=>ko rx fx r fs w (by simpa using hw)) ⟨.bl _,H,I,rfl,?_⟩;rw [show its.toArray.any (eqU x)=its.any (eqU x) by simp,og r fs];exact q
theorem nL:OpR X (compareOp .NotIn) (rIn X.K true):=by
 intro pins s σ H x y v u Q I rx ry h;obtain ⟨p,xs,rfl,hq,fx,fs,q⟩:=h;cases ry
 rcases hq with hq | hq
 ·obtain ⟨its,r,pl,hz⟩:=I.list hq;refine SeqAt.notIn_listAt (eqU x) pl.isList (λw hw=>ko rx fx r fs w (by simpa using hw)) ⟨.bl _,H,I,rfl,?_⟩;rw [show its.toArray.any (eqU x)=its.any (eqU x) by simp,og r fs];exact q
 ·obtain ⟨its,r,pl,hz⟩:=I.tuple hq;refine SeqAt.notIn_tupleAt (eqU x) pl (λw hw=>ko rx fx r fs w (by simpa using hw)) ⟨.bl _,H,I,rfl,?_⟩;rw [show its.toArray.any (eqU x)=its.any (eqU x) by simp,og r fs];exact q
theorem eo:jI X (.type "tuple") (λxs H Q=>∃ p ys,xs=[.ref p]/\((SqL X.K H p ys/\∀ l,H l=none->Q (.ref l) (upd H l (.tup ys)))\/(SqT X.K H p ys/\Q (.ref p) H))):=by
 intro pins s σ H xs us Q I r h;obtain ⟨p,ys,rfl,h⟩:=h;obtain ⟨u,rfl,rx⟩:=vals1 r;cases rx
 rcases h with ⟨hq,q⟩ | ⟨hq,q⟩
 ·obtain ⟨its,r',pl,hz⟩:=I.list hq;have hlen:=r'.length;refine call_tuple_list pl.isList (λh' kp=>?_) (by simp only [List.size_toArray] <;> omega);have I1:Inv X pins σ H {s with heap:=h' }:=I.kept (t':=s.toks) kp
  have I2:Inv X pins σ (upd H h'.objs.size (.tup ys)) {s with heap:=h'.push {cls:=.type "tuple",data:=.seq its.toArray} }:=
   I1.laid (t':=s.toks) (λb o e=>Heap.get?_push_of_some _ e) (Nat.le_refl _) (show bC X.prog X.w _ _ _ (.tup ys) from ⟨hz,its,r',IsTup.new _ _⟩)
  exact ⟨.ref h'.objs.size,_,I2,rfl,q _ (I1.hok.fresh (Nat.le_refl _))⟩
 ·obtain ⟨its,r',pl,hz⟩:=I.tuple hq;exact call_tuple_same pl ⟨.ref p,H,I,rfl,q⟩
def tyV (K:W.Frag) (T:String) (x:V) (H:Hp):Prop:=match x with
 | .str _=>T="str"
 | .int _=>T="int"
 | .ref p=>(T="list"/\∃ xs,SqL K H p xs)\/(T="tuple"/\∃ o,K.lookup p=some o/\o.cls=.type "tuple"/\o.dict=none)\/
   (T="dict"/\((∃ kvs,H p=some (.dK kvs))\/∃ kvs,H p=some (.dT kvs)))\/(T="set"/\∃ S n,H p=some (.set S n))
 | _=>False
theorem Em {pins:List (Addr×Obj)} {σ:St} {H:Hp} {s:Shared} {T:String} {x:V} {v:Value} (I:Inv X pins σ H s) (r:RelV x v) (ty:tyV X.K T x H) :
  s.TypeIs v T/\∀ a,v=.ref a->∃ ob,s.heap.get? a=some ob/\ob.dict=none:=by
 cases x with
 | str z =>
  obtain ⟨t,rfl⟩:=r;cases (show T="str" from ty)
  exact ⟨typeIs_str s z t,λ_ e=>nomatch e⟩
 | int i =>
  obtain ⟨t,rfl⟩:=r;cases (show T="int" from ty)
  exact ⟨typeIs_int s i t,λ_ e=>nomatch e⟩
 | ref p =>
  cases r
  rcases ty with ⟨rfl,xs,hq⟩ | ⟨rfl,o,hk,hc,hd⟩ | ⟨rfl,hk⟩ | ⟨rfl,S,n,hk⟩
  ·obtain ⟨its,_,pl,_⟩:=I.list hq;refine ⟨pl.isList.typeIs,λa e=>?_⟩;cases e
   obtain ⟨o,n,e,c,hd,_⟩:=pl;exact ⟨o,e,hd⟩
  ·refine ⟨⟨o,I.kIn p o hk,hc⟩,λa e=>?_⟩;cases e
   exact ⟨o,I.kIn _ o hk,hd⟩
  ·have z:∃ o,s.heap.get? p=some o/\o.ExactDict:=by
    rcases hk with ⟨kvs,hk⟩ | ⟨kvs,hk⟩
    ·obtain ⟨_,_,_,_,o,_,_,e,ex,_⟩:=I.hok p _ hk;exact ⟨o,e,ex⟩
    ·obtain ⟨_,_,_,_,o,_,_,e,ex,_⟩:=I.hok p _ hk;exact ⟨o,e,ex⟩
   obtain ⟨o,e,ex⟩:=z;refine ⟨⟨o,e,ex.1⟩,λa e2=>?_⟩;cases e2
   exact ⟨o,e,ex.2.1⟩
  ·obtain ⟨o,_,_,_,e,ex,_⟩:=I.hok p _ hk;refine ⟨⟨o,e,ex.1⟩,λa e2=>?_⟩;cases e2
   exact ⟨o,e,ex.2.1⟩
 | _=>exact False.elim ty
def tBM0 (K:W.Frag) (T:String) (r:V->List V->Hp->VK->Prop) (to:TE):TE:=λσ H Q=>to σ H λx H1=>tyV K T x H1/\r x [] H1 Q
def tBM (K:W.Frag) (T:String) (r:V->List V->Hp->VK->Prop) (to:TE) (t:TA):TE:=λσ H Q=>to σ H λx H1=>tyV K T x H1/\t σ H1 λxs H2=>r x xs H2 Q
variable {o e:Expr} {es:List Expr} {to:TE} {t:TA} {name:Str} {apos cpos:Pos} {T id:String} {r:V->List V->Hp->VK->Prop}
theorem mH (pa:PlainAttrs T) (slot:Slot T name id) (hty:typeOf (.builtin id)=pure (.type "method_descriptor")) (hm:MtR X id r) (ho:PE X o to)
  (hbase:attributeBase o name X.env (eval o X.env)=eval o X.env:=by rfl) (hline:(apos.endLine == cpos.line)=true:=by rfl):PE X (.Call (.Attribute o name apos) [] [] cpos) (tBM0 X.K T r to):=by
 intro pins s σ H Q I h;refine wpAny_Call_method0_late hbase hline (thn (ho pins s σ H _ I h) λv s1 zz=>?_);obtain ⟨x,H1,I1,r1,ty,q1⟩:=zz;obtain ⟨h1,h2⟩:=Em I1 r1 ty;exact ⟨T,id,pa,slot,hty,h1,h2,Calls.callWith_builtin rfl (PySem.evalArgs_none (hm pins s1 σ H1 x [] v [] Q I1 r1 .nil q1))⟩
theorem eO (pa:PlainAttrs T) (slot:Slot T name id) (hty:typeOf (.builtin id)=pure (.type "method_descriptor")) (hm:MtR X id r) (ho:PE X o to) (ha:PA X (e::es) t)
  (hbase:attributeBase o name X.env (eval o X.env)=eval o X.env:=by rfl)
  (hfew:((backTo cpos (starEach (e::es) X.env)).all (λx=>!x.1) && (backToKw cpos (keywordEach [] X.env)).all (λx=>x.1.isSome)
   && decide ((e::es).length+([]:List Keyword).length+(if ([]:List Keyword).isEmpty then 0 else 1) < 30))=true:=by rfl)
  (hline:(apos.endLine == cpos.line)=true:=by rfl) (hs:starEach (e::es) X.env=(false,eval e X.env)::starEach es X.env:=by rfl) (hplain:(backTo cpos (starEach es X.env)).any (·.1)=false:=by rfl) :
  PE X (.Call (.Attribute o name apos) (e::es) [] cpos) (tBM X.K T r to t):=by
 intro pins s σ H Q I h;refine wpAny_Call_method_late hbase hfew hline rfl (thn (ho pins s σ H _ I h) λv s1 zz=>?_);obtain ⟨x,H1,I1,r1,ty,q1⟩:=zz;obtain ⟨h1,h2⟩:=Em I1 r1 ty;refine ⟨T,id,pa,slot,hty,h1,h2,?_⟩;have hA:=ha cpos pins s1 σ H1 _ I1 q1;rw [hs] at hA ⊢;refine Calls.callWith_builtin (by show (false || (backTo cpos (starEach es X.env)).any (·.1))=false;rw [hplain] <;> rfl) (Calls.evalArgs_plain ?_);refine thn hA λus s2 zz=>?_;obtain ⟨vs,H2,I2,r2,q2⟩:=zz;exact hm pins s2 σ H2 x vs v us Q I2 r1 r2 q2
end
def MtM (X:Cx) (id:String) (r:V->List V->Hp->VK->Prop):Prop:=
 ∀(
  pins:List (Addr×Obj)) (s:Shared) (σ:St) (H:Hp) (x:V) (xs:List V) (v:Value) (us:List Value) (Q:VK),Inv X pins σ H s->RelV x v->Vals xs us->r x xs H Q->
  wpAny (model X.prog X.w) X.A (call (.builtin id) (v::us)) (EP X pins σ Q) X.xe s
theorem Vals.one:∀{x:V} {us:List Value},Vals [x] us->∃ u,us=[u]/\RelV x u
 | _,_,.cons r .nil=>⟨_,rfl,r⟩
theorem Vals.zero:∀{us:List Value},Vals [] us->us=[]
 | _,.nil=>rfl
theorem Vals.dropLast {xs:List V} {us:List Value} (h:Vals xs us):Vals xs.dropLast us.dropLast:=by
 induction h with
 | nil=>exact .nil
 | cons r t ih =>
  cases t with
  | nil=>exact .nil
  | cons q t'=>exact .cons r ih
theorem Vals.reverse {xs:List V} {us:List Value} (h:Vals xs us):Vals xs.reverse us.reverse:=by
 induction h with
 | nil=>exact .nil
 | cons r t ih=>rw [List.reverse_cons,List.reverse_cons];exact Vals.append ih (.cons r .nil)
theorem Aq {α:Type} (l:List α):l.eraseIdx (l.length - 1)=l.dropLast:=by
 induction l with
 | nil=>rfl
 | cons a r ih =>
  cases r with
  | nil=>rfl
  | cons b r =>
   have e:(a::b::r).length - 1=((b::r).length - 1)+1:=by
    have h1:(a::b::r).length=r.length+2:=rfl;have h2:(b::r).length=r.length+1:=rfl;omega
   rw [e,List.eraseIdx_cons_succ,ih]
   all_goals rfl
section
variable {X:Cx} {pins:List (Addr×Obj)} {σ:St} {H:Hp} {s:Shared} {l b:Addr} {xs ys zs:List V}
theorem Inv.lset {its its':List Value} {n:Nat} {f:Array Value->Array Value} {t':Nat} (I:Inv X pins σ H s) (hH:H l=some (.lst xs))
  (e:s.heap.get? l=some {cls:=.type "list",data:=.seq its.toArray n}) (hf:f its.toArray=its'.toArray) (hv:Vals ys its') (hz:ys.length<=sizeLine) :
  Inv X pins σ (upd H l (.lst ys)) {s with heap:=s.heap.update l (Obj.mapSeq f),toks:=t' }:=by
 have q:=PySem.IsL.update e f;rw [hf] at q;refine I.write (x:=l) (e:=l) (by rw [hH];exact trivial) (.inl rfl) (λb' u hb hu=>(Heap.get?_update_other s.heap (Obj.mapSeq f) (Ne.symm hb)).trans hu) ⟨_,q⟩ ?_;exact ⟨hz,its',_,hv,q⟩
theorem Inv.lnew {its:List Value} {t':Nat} (I:Inv X pins σ H s) (hv:Vals ys its) (hz:ys.length<=sizeLine) :
  Inv X pins σ (upd H s.heap.objs.size (.lst ys)) {s with heap:=s.heap.push {cls:=.type "list",data:=.seq its.toArray},toks:=t' }:=
 I.laid (λ_ _ q=>Heap.get?_push_of_some _ q) (Nat.le_refl _) ⟨hz,its,0,hv,Heap.get?_push_size _ rfl⟩
theorem Inv.lstM (I:Inv X pins σ H s) (hH:H l=some (.lst xs)):xs.length<=sizeLine/\∃(its:List Value) (n:Nat),Vals xs its/\xs.length=its.length/\s.heap.get? l=some {cls:=.type "list",data:=.seq its.toArray n}:=by
 obtain ⟨z,its,n,r,e⟩:=I.hok l _ hH;exact ⟨z,its,n,r,r.length,e⟩
theorem Gb {n:Nat} (h:n<=sizeLine):Builtin.List.listTooLong n=false:=by
 unfold Builtin.List.listTooLong;exact decide_eq_false (by omega)
end
section
variable {X:Cx}
inductive yO (x:V) (vs:List V) (H:Hp) (Q:VK):Prop where
 | mk (l:Addr) (xs:List V) (y:V) (z_0:x=.ref l) (z_1:vs=[y]) (z_2:H l=some (.lst xs)) (z_3:xs.length < sizeLine) (z_4:Q .non (upd H l (.lst (xs++[y])))):yO  x vs H Q
def rAppend:V->List V->Hp->VK->Prop:=λx vs H Q=>yO  x vs H Q
theorem bw:MtM X "list.append" rAppend:=by
 intro pins s σ H x vs v us Q I rx rv h;obtain ⟨l,xs,y,rfl,rfl,hH,hz,q⟩:=h;cases rx
 obtain ⟨u,rfl,ru⟩:=rv.one;obtain ⟨z,its,n,r,hl,e⟩:=I.lstM hH;refine call_meets F.slot_list_append ⟨_,e,rfl⟩ F.entry_list_append (F.args_list_append_2 _ _) (PySem.list_append l its.toArray n u (by rw [List.size_toArray];omega)) ⟨e,?_⟩;refine ⟨.non,_,I.lset (its':=its++[u]) hH e (by simp) (r.append (.cons ru .nil)) ?_,rfl,q⟩;rw [List.length_append,List.length_singleton];omega
def rExtend:V->List V->Hp->VK->Prop:=λx vs H Q=>∃ l b xs zs,x=.ref l/\vs=[.ref b]/\H l=some (.lst xs)/\H b=some (.lst zs)/\xs.length+zs.length<=sizeLine/\Q .non (upd H l (.lst (xs++zs)))
theorem oV:MtM X "list.extend" rExtend:=by
 intro pins s σ H x vs v us Q I rx rv h;obtain ⟨l,b,xs,zs,rfl,rfl,hH,hB,hz,q⟩:=h;cases rx
 obtain ⟨u,rfl,ru⟩:=rv.one;cases ru
 obtain ⟨z,its,n,r,hl,e⟩:=I.lstM hH;obtain ⟨z2,its2,n2,r2,hl2,e2⟩:=I.lstM hB;have hsz:its.toArray.size+its2.toArray.size<=sizeLine:=by rw [List.size_toArray,List.size_toArray];omega
 have hlong:¬ (!its.toArray.isEmpty && Builtin.List.listTooLong (its.toArray.size+its2.toArray.size))=true:=by
  rw [Gb hsz,Bool.and_false];exact Bool.false_ne_true
 refine call_meets F.slot_list_extend ⟨_,e,rfl⟩ F.entry_list_extend (F.args_list_extend_2 _ _)
  (AutoSeq1.list_extend_list_list_0 l its.toArray n b its2.toArray n2 hlong (by rw [List.size_toArray];omega) (by omega)) ⟨e,e2,?_⟩
 refine ⟨.non,_,I.lset (its':=its++its2) hH e (by simp) (r.append r2) ?_,rfl,q⟩;rw [List.length_append];omega
def rPop:V->List V->Hp->VK->Prop:=λx vs H Q=>∃ l xs y,x=.ref l/\vs=[]/\H l=some (.lst xs)/\xs[xs.length - 1]?=some y/\Q y (upd H l (.lst xs.dropLast))
theorem sE:MtM X "list.pop" rPop:=by
 intro pins s σ H x vs v us Q I rx rv h;obtain ⟨l,xs,y,rfl,rfl,hH,hy,q⟩:=h;cases rx
 have hus:=rv.zero;subst hus;obtain ⟨z,its,n,r,hl,e⟩:=I.lstM hH;obtain ⟨u,hu,ru⟩:=r.get hy
 have hy':its.toArray[its.toArray.size - 1]?=some u:=by
  show its.toArray[its.length - 1]?=some u;rw [<- Array.getElem?_toList,<- hl];exact hu
 refine call_meets F.slot_list_pop ⟨_,e,rfl⟩ F.entry_list_pop (F.args_list_pop_1 _) (MeetsSeq.list_pop_last l its.toArray n u hy' (by rw [List.size_toArray];omega)) ⟨e,?_⟩;refine ⟨y,_,I.lset (its':=its.dropLast) hH e ?_ r.dropLast ?_,ru,q⟩
 ·show its.toArray.eraseIdxIfInBounds (its.toArray.size - 1)=its.dropLast.toArray;rw [List.size_toArray,List.eraseIdxIfInBounds_toArray,Aq]
 ·rw [List.length_dropLast];omega
def Fg:V->List V->Hp->VK->Prop:=λx vs H Q=>∃ l xs,x=.ref l/\vs=[]/\H l=some (.lst xs)/\Q .non (upd H l (.lst xs.reverse))
theorem sD:MtM X "list.reverse" Fg:=by
 intro pins s σ H x vs v us Q I rx rv h;obtain ⟨l,xs,rfl,rfl,hH,q⟩:=h;cases rx
 have hus:=rv.zero;subst hus;obtain ⟨z,its,n,r,hl,e⟩:=I.lstM hH;refine call_meets F.slot_list_reverse ⟨_,e,rfl⟩ F.entry_list_reverse (F.args_list_reverse_1 _) (AutoSeq1.list_reverse_list_0 l its.toArray n (by rw [List.size_toArray];omega)) ⟨e,?_⟩;refine ⟨.non,_,I.lset (its':=its.reverse) hH e (by simp) r.reverse ?_,rfl,q⟩;rw [List.length_reverse];omega
end
section
variable {prog:Program} {w:World} {A:Around} {E:Value->Shared->Prop} {s:Shared}
set_option maxRecDepth 100000 in
end
section
variable {X:Cx}
end
end L2
namespace Att
open PySem PySem.W PySem.Calls PyProof.Rows
theorem qi {P:Params} {h:Heap}:∀(ns:List Int) (vs:List Value),WellAll P h vs (ns.map WData.int)->IntsAre vs ns:=by
 intro ns
 induction ns with
 | nil =>
  intro vs w;rw [List.map_nil] at w;cases w
  exact .nil
 | cons n ns ih =>
  intro vs w;rw [List.map_cons] at w;cases w with
  | cons a b =>
   cases a
   exact .cons _ _ (ih _ b)
theorem CK {l:OpenLaw} {n:Nat} (hn:l.most=some n) {P:Params} {h:Heap} {args:List WData} {vals:List Value}
  (hpre:l.row.toRowW.claim.pre args=true) (hwl:WellAll P h vals args) :
  ∃ a vs ns,vals=[Value.ref a]/\args=[WData.list (ns.map WData.int)]/\h.get? a=some {cls:=.type "list",data:=.seq vs.toArray}/\IntsAre vs ns/\ns.length<=n:=by
 have hsh:WShape.hasAll [] args [.list .int]=true:=(pre_splitW hpre).1;have hc:l.pre.holds [] {args:=args}=true:=(pre_splitW hpre).2;obtain ⟨d,r,rfl,h1,h2⟩:=hasAllW_cons hsh;obtain rfl:=hasAllW_nil h2;obtain ⟨xs,rfl,h3⟩:=hasW_list h1;obtain ⟨ns,rfl⟩:=items_int h3
 have hlen:ns.length<=n:=by
  unfold OpenLaw.pre at hc
  have h4:(WTm.not (.lt (.lit (.int (n:Int))) (.len (.arg 0)))).holds [] {args:=[.list (ns.map .int)] }=true:=by
   have h4:=(holds_andW hc).1;rw [hn] at h4;exact h4
  have h5:=condW_of h4 (w_not (w_lt w_lit (w_len_list (w_arg rfl))));rw [List.length_map] at h5;refine Nat.le_of_not_lt λq=>?_;have q':(n:Int) < ((ns.length:Nat):Int):=by omega
  first
   | (rw [decide_eq_true q'] at h5;exact absurd h5 (by decide))
   | (simp at h5;omega)
 cases hwl with
 | cons w1 w2 =>
  cases w2
  cases w1 with
  | list ho hall=>exact ⟨_,_,ns,rfl,rfl,ho,qi ns _ hall,hlen⟩
theorem CP (l:OpenLaw) (args:List WData):l.row.toRowW.claim.post args (.bool true) args=true:=
 postW_of (r:=l.row.toRowW) (X:=(true == true))
  (show WShape.has [] (.bool true) .bool=true by first | rfl | decide | simp [WShape.has,WShape.arms,WShape.armsAll])
  (show (WTm.eq .res (.lit (.bool true))).value [] {args:=args,res:=some (.bool true),after:=args}=some (.bool (true == true)) from w_eq_bool (w_res rfl) w_lit) rfl
section
variable {prog:Program} {w:World} {A:Around} {E:Value->Shared->Prop} {s:Shared} {K:Frag}
end
end Att
namespace L2
open PySem PySem.Spec PyProof.Rows
theorem uk:∀{vs:List Value} {ns:List Int},IntsAre vs ns->Vals (ns.map V.int) vs
 | _,_,.nil=>.nil
 | _,_,.cons n t h=>.cons ⟨t,rfl⟩ (uk h)
def Only (H:Hp):Prop:=∀ b,H b=none\/∃ o xs,H b=some (.frz o (.lst xs))
theorem GC {P:Program} {w:World} {K:W.Frag} {mg mb:Str->Option Value} {CX:CXT} {k:Nat} {fa a:Addr} {fd:FuncData} {x:Str} {sp:Sp} {s₁:Shared} {vs:List Value} {ns:List Int}
  (KX:K.In s₁.heap) (hns:s₁.heap.Ns mainGlobals mg) (hb:s₁.heap.Ns builtinsNs mb) (hbb:∀ x:Str,x≠"__name__"->mb x=bootBuiltins x) (hlim:s₁.heap.NoLimit) (hg:s₁.gens=#[])
  (ha:s₁.heap.get? a=some {cls:=.type "list",data:=.seq vs.toArray}) (hi:IntsAre vs ns) (hl:ns.length<=sizeLine) (hr:dF k callerA)
  (F:∀ base:Heap,K.In base->base.Ns mainGlobals mg->lS P w K mg base CX k fa fd [x] sp) (hbind:∀(s:Shared) (u:Value),BindsTo s fd ⟨[u],[]⟩ [(x,u)])
  (hsp:∀ H:Hp,Only H->SqL K H a (ns.map V.int)->sp [.ref a] H (λv _=>v=.bl true) λ_ _ _=>False)
  (hCX:∀ H e s',CX [] H s₁ (λ_ _ _=>False) e s'->False) :
  codeAny (model P w) callerA (.call (.ref fa) ⟨[.ref a],[]⟩) (λr s'=>r=.ok (.ret (.bool true))/\OldK s₁.heap s'.heap/\s'.os=s₁.os/\AllBare s'.gens) s₁:=by
 have rv:=uk hi;have lenV:=hi.length
 have core:∀ H:Hp,Only H->SqL K H a (ns.map V.int)->HOk P w H s₁.heap->(∀ b,H b≠none->b=a)->(H a≠none->K.lookup a=none)->
   codeAny (model P w) callerA (.call (.ref fa) ⟨[.ref a],[]⟩) (λr s'=>r=.ok (.ret (.bool true))/\OldK s₁.heap s'.heap/\s'.os=s₁.os/\AllBare s'.gens) s₁:=by
  intro H hO hS hok hA hK;have base_of:∀{b:Addr} {o:Obj},s₁.heap.get? b=some o->H b=none->(wj s₁.heap H).get? b=some o:=λe n=>GP e n
  have noA:∀{b:Addr} {o:Obj} {es:Array DictEntry} {ep:Nat},s₁.heap.get? b=some o->o.data=.dict es ep->H b=none:=λ{b o es ep} e d=>by
   cases q:H b with
   | none=>rfl
   | some u =>
    have e':b=a:=hA b (by rw [q];simp);subst e';rw [ha] at e;cases e
    have d':Data.seq vs.toArray _=Data.dict es ep:=d;cases d'
  have nsK:∀{b:Addr} {m:Str->Option Value},s₁.heap.Ns b m->(wj s₁.heap H).Ns b m:=λ{b m} ⟨o,es,ep,e,d,r⟩=>⟨o,es,ep,base_of e (noA e d),d,r⟩
  have hKb:K.In (wj s₁.heap H):=λb o e=>base_of (KX b o e) (by
   cases q:H b with
   | none=>rfl
   | some u =>
    have e':b=a:=hA b (by rw [q];simp);subst e';rw [hK (by rw [q];simp)] at e;cases e)
  have hM:Mod K mg (wj s₁.heap H):=⟨hKb,nsK hns,⟨mb,nsK hb,hbb⟩,let ⟨mc,h1,h2⟩:=hlim;⟨mc,nsK h1,h2⟩⟩;have e0:AV P w K mg (wj s₁.heap H) callerA [] s₁ H:=⟨rfl,hM,λb o e=>of_hidT e,Nat.le_of_eq (DE _ _),trivial,λb hb=>absurd (show b∈([]:List Addr) from hb) (by simp),hok,.of_eq hg⟩;refine codeAny_mono ((F _ hKb (nsK hns)).run callerA [] s₁ H ⟨[.ref a],[]⟩ [.ref a] [.ref a] _ _ hr e0 (hbind s₁ (.ref a)) (.cons rfl .nil) (hsp H hO hS)) λr s' h=>?_;cases r with
  | error e=>exact (hCX H e s' h).elim
  | ok fl =>
   cases fl with
   | next=>exact False.elim h
   | brk=>exact False.elim h
   | cont=>exact False.elim h
   | ret u =>
    obtain ⟨v,H',os,bare,un,hok',r',q⟩:=h;have q':v=.bl true:=q;subst q';obtain rfl:u=Value.bool true:=r';refine ⟨rfl,OldK.of_keep λb o e=>?_,os,bare⟩;cases q:H b with
    | none=>exact un.keep b o e q (by intro z;exact absurd (show b∈([]:List Addr) from z) (by simp)) (by simp)
    | some u =>
     rcases hO b with z | ⟨ob,xs,z⟩
     ·rw [q] at z;cases z
     ·have z2:=un.frzs b ob _ z;obtain ⟨e1,_⟩:=hok b _ z;obtain ⟨e2,_⟩:=hok' b _ z2;rw [e] at e1;cases e1
      exact e2
 cases hk:K.lookup a with
 | some o =>
  have e:=KX a o hk;rw [ha] at e;cases e
  refine core (λ_=>none) (λ_=>.inl rfl) (.inr ⟨_,vs.toArray,_,hk,rfl,rfl,rfl,by rw [List.size_toArray,lenV];exact hl,by simpa using rv⟩) (λb u z=>by have z':(none:Option HO)=some u:=z;cases z') (λb z=>absurd rfl z) λz=>absurd rfl z
 | none =>
  refine core (λb=>if b=a then some (.frz {cls:=.type "list",data:=.seq vs.toArray} (.lst (ns.map V.int))) else none) (λb=>?_) (.inl (.inr ⟨{cls:=.type "list",data:=.seq vs.toArray},if_pos rfl⟩)) (λb u z=>?_) (λb z=>?_) λ_=>hk
  ·by_cases hb:b=a
   ·exact .inr ⟨_,_,if_pos hb⟩
   ·exact .inl (if_neg hb)
  ·by_cases hb:b=a
   ·have z':=(if_pos hb).symm.trans z;cases z'
    subst hb;exact ⟨ha,by rw [List.length_map];exact hl,vs,_,rv,ha⟩
   ·have z':=(if_neg hb).symm.trans z;cases z'
  ·by_cases hb:b=a
   ·exact hb
   ·exact absurd (if_neg hb) z
abbrev KOf {K:W.Frag} {h:Heap} (_:K.In h):W.Frag:=K
def inClass (s:Stmt) (j:Nat):Stmt:=match s with
 | .ClassDef _ _ _ body _ _ _ _ _ _ _=>body.getD j (.Pass ⟨0,0,0,0⟩)
 | _=>.Pass ⟨0,0,0,0⟩
def eI (s:Stmt):Arguments:=match s with
 | .FunctionDef _ a _ _ _ _ _ _ _ _=>a
 | _=>{posonlyargs:=[],args:=[],vararg:=none,kwonlyargs:=[],kw_defaults:=[],kwarg:=none,defaults:=[] }
def bf (s:Stmt):List Stmt:=match s with
 | .FunctionDef _ _ b _ _ _ _ _ _ _=>b
 | _=>[]
def ag (s:Stmt):Scope:=match s with
 | .FunctionDef _ _ _ _ _ _ sc _ _ _=>sc
 | _=>{kind:=.function,names:=[],isGenerator:=false,isCoroutine:=false}
abbrev CX0:CXT:=λ_ _ _ _ _ _=>False
abbrev E0:XK:=λ_ _ _=>False
theorem FA {X:Cx}:Passes CX0 X E0:=λ_ _ _ _ _ _ _ h=>h.elim
structure Fun (K:W.Frag) (x qual:Str) (st:Stmt) (f:Addr) (fd:FuncData):Prop where
 ex:∃(oc:Value) (od:Option Addr) (kV doc pm:Value) (an:Option Addr) (cdv ct:Value) (osl:Array (Option Value)),
  fd=PySem.W.fnOf x qual (eI st) (bf st) (ag st) .none kV doc pm an cdv ct/\K.lookup f=some ⟨oc,od,.func fd,osl⟩/\PySem.W.codeIn K cdv qual=true
 kp:PySem.W.keepIn K (.ref f)=true
variable {P:Program} {w:World} {K:W.Frag} {mg:Str->Option Value} {base:Heap}
theorem Fun.ok {x qual:Str} {st:Stmt} {f:Addr} {fd:FuncData} {N ps:List Str} {k:Nat} {sp:Sp} (F:Fun K x qual st f fd) (S:aA N ps (ag st)) (len:∀ vs H Q E,sp vs H Q E->vs.length=ps.length)
  (hbody:∀(cdv:Value) (A:Around) (outer:List Env) (s:Shared) (H:Hp) (vs:List V) (Q:VK) (E:XK),dF k (A.deeper (envOfC qual (ag st) s.heap.objs.size f cdv))->sp vs H Q E->
   ∃ t,PSs (cR CX0 P w K mg base N qual (ag st) f cdv A outer s H E).nox (bf st) t/\t {nx:=λ_ H'=>Q .non H',rt:=Q} (start N vs) H):lS P w K mg base CX0 (k+1) f fd ps sp:=by
 obtain ⟨oc,od,kV,doc,pm,an,cdv,ct,osl,rfl,lk,hcd⟩:=F.ex;refine fn_of lk hcd S len λA outer s H vs Q E hr hsp=>?_;obtain ⟨t,h,q⟩:=hbody cdv A outer s H vs Q E hr hsp;exact ⟨t,h.nox,q⟩
theorem Fun.binds {x qual:Str} {st:Stmt} {f:Addr} {fd:FuncData} {ps:List Str} (F:Fun K x qual st f fd)
  (h:∀(kV doc pm:Value) (an:Option Addr) (cdv ct:Value) (us:List Value),us.length=ps.length->bindArgs (PySem.W.fnOf x qual (eI st) (bf st) (ag st) .none kV doc pm an cdv ct) ⟨us,[]⟩=pure (ps.zip us)):Binds K fd ps []:=by
 obtain ⟨oc,od,kV,doc,pm,an,cdv,ct,osl,rfl,lk,hcd⟩:=F.ex;exact .all (h kV doc pm an cdv ct)
theorem Ao {x qual:Str} {st:Stmt} {f:Addr} {oc:Value} {od an:Option Addr} {osl:Array (Option Value)} {kV doc pm cdv ct:Value} (l:K.lookup f=some ⟨oc,od,.func (PySem.W.fnOf x qual (eI st) (bf st) (ag st) .none kV doc pm an cdv ct),osl⟩)
  (c:PySem.W.codeIn K cdv qual=true) (k:PySem.W.keepIn K (.ref f)=true):Fun K x qual st f (PySem.W.fnOf x qual (eI st) (bf st) (ag st) .none kV doc pm an cdv ct):=⟨⟨oc,od,kV,doc,pm,an,cdv,ct,osl,rfl,l,c⟩,k⟩
theorem yy {A:Around} {k:Nat} (hr:dF k A):A.units+1 < cLine:=Nat.lt_of_le_of_lt (Nat.add_le_add_left (by decide:1<=64) _) hr.units
theorem fA {n:Nat} (h:n<=1000):n < sizeLine:=Nat.lt_of_le_of_lt h (by decide)
section
variable {X:Cx}
theorem pv (i:Nat) {x:Str} {pos:Pos} (hN:X.N[i]?=some x:=by rfl) (hv:Vis X.env.scope x:=by first | exact Or.inl rfl | exact Or.inr (Or.inl rfl) | exact Or.inr (Or.inr rfl)) (hd:(x == ("__debug__":Str))=false:=by decide)
  (hcd:(x == ("__classdict__":Str))=false:=by decide):PE X (.Name x pos) (tVar i):=Fq hN hv hd hcd
end
theorem cX {A B:Prop} (h:B):if false=true then A else B:=by
 rw [if_neg Bool.false_ne_true];exact h
theorem fm {A B:Prop} (h:A):if true=true then A else B:=by
 rw [if_pos rfl];exact h
theorem cQ {c A B:Prop} [Decidable c] (h1:c->A) (h2:¬c->B):if c then A else B:=by
 by_cases h:c
 ·rw [if_pos h];exact h1 h
 ·rw [if_neg h];exact h2 h
theorem GJ {c A B:Prop} [Decidable c] (hc:c) (h:B):if (!decide c)=true then A else B:=by
 rw [decide_eq_true hc];exact cX h
def aE (H H':Hp):Prop:=∀ b o,H b=some o->H' b=some o
theorem aE.refl (H:Hp):aE H H:=λ_ _ h=>h
theorem aE.trans {H H1 H2:Hp} (a:aE H H1) (b:aE H1 H2):aE H H2:=λc o h=>b c o (a c o h)
theorem aE.free {H H':Hp} (e:aE H H') {l:Addr} (h:H' l=Option.none):H l=Option.none:=by
 cases q:H l with
 | none=>rfl
 | some o =>
  rw [e l o q] at h;cases h
theorem aE.seq {K:W.Frag} {H H':Hp} {a:Addr} {xs:List V} (e:aE H H') (h:SqL K H a xs):SqL K H' a xs:=by
 rcases h with (h | ⟨o,h⟩) | h
 ·exact .inl (.inl (e _ _ h))
 ·exact .inl (.inr ⟨o,e _ _ h⟩)
 ·exact .inr h
end L2
set_option maxHeartbeats 4000000
namespace L2
open PySem PySem.Spec PyProof.Rows
def br (X:Cx) (scope:Scope) (cl:List (Str×Addr)) (N:List Str) (s:Shared) (H:Hp) (fp:List Addr):Cx:=
 {prog:=X.prog,w:=X.w,K:=X.K,mg:=X.mg,base:=X.base,A:=X.A,N:=N,s₀:=s,H₀:=H,env:=compEnvC scope cl s.heap.objs.size X.env,
  outer:=X.stack,stack:=X.stack,ex:=fp,fn:=λ_=>false,calm:=X.calm,pn:=[],xe:=λ_ _=>False}
def bK (X:Cx) (x:Str) (js:List Nat):List Str:=x::js.map λj=>X.N.getD j ""
def dj (js:List Nat) (σ:St):St:=js.map λj=>(σ[j]?).getD none
structure fN (X:Cx) (scope:Scope) (js:List Nat):Prop where
 all:∀ j∈js,∃ y,X.N[j]?=some y/\(X.env.kindOf y=some .cell\/X.env.kindOf y=some .free)/\(y,NameKind.free)∈scope.names/\
  ((relabel scope X.env).names.lookup y=some .cell\/(relabel scope X.env).names.lookup y=some .free)
theorem fL {X:Cx} {scope:Scope}:fN X scope []:=⟨λ_ h=>nomatch h⟩
theorem fW {X:Cx} {scope:Scope} {j:Nat} {js:List Nat} {y:Str} (h1:X.N[j]?=some y) (h2:X.env.kindOf y=some .cell\/X.env.kindOf y=some .free) (h3:(y,NameKind.free)∈scope.names)
  (h4:(relabel scope X.env).names.lookup y=some .cell\/(relabel scope X.env).names.lookup y=some .free) (r:fN X scope js):fN X scope (j::js):=
 ⟨λk hk=>by
  rcases List.mem_cons.mp hk with e | e
  ·subst e;exact ⟨y,h1,h2,h3,h4⟩
  ·exact r.all k e⟩
theorem cN {env:Env}:∀{names:List (Str×NameKind)} {y:Str} {k:NameKind},
  (names.map λ(n,k)=>if (k == NameKind.free && env.scope.kind == .function && env.kindOf n == some .cell) then (n,NameKind.cell) else (n,k)).lookup y=some k->
  ∃ k',(y,k')∈names/\(k'=k\/(k=.cell/\k'=.free))
 | [],_,_,h=>by simp at h
 | (n,k0)::r,y,k,h=>by
  by_cases hc:(k0 == NameKind.free && env.scope.kind == .function && env.kindOf n == some .cell)=true
  ·rw [List.map_cons] at h;dsimp only at h;rw [if_pos hc] at h;simp only [List.lookup_cons] at h
   have hf:k0=.free:=by
    rw [Bool.and_eq_true,Bool.and_eq_true] at hc;exact beq_iff_eq.mp hc.1.1
   cases hx:y == n with
   | true =>
    rw [hx] at h;have e:=beq_iff_eq.mp hx;subst e;have e2:=Option.some.inj h;exact ⟨k0,List.mem_cons_self,.inr ⟨e2.symm,hf⟩⟩
   | false =>
    rw [hx] at h;obtain ⟨k',m,q⟩:=cN h;exact ⟨k',List.mem_cons_of_mem _ m,q⟩
  ·rw [List.map_cons] at h;dsimp only at h;rw [if_neg hc] at h;simp only [List.lookup_cons] at h;cases hx:y == n with
   | true =>
    rw [hx] at h;have e:=beq_iff_eq.mp hx;subst e;have e2:=Option.some.inj h;exact ⟨k0,List.mem_cons_self,.inl e2⟩
   | false =>
    rw [hx] at h;obtain ⟨k',m,q⟩:=cN h;exact ⟨k',List.mem_cons_of_mem _ m,q⟩
section
variable {X:Cx} {pins:List (Addr×Obj)} {σ:St} {H:Hp} {s:Shared} {scope:Scope} {cl:List (Str×Addr)} {x:Str} {js:List Nat} {fp:List Addr}
theorem comp_ok (I:Inv X pins σ H s) (hk:scope.kind=.function) (hcell:∀ y∈scope.names,y.2≠.cell)
  (hcl1:∀ y c,cl.lookup y=some c->X.env.cells.lookup y=some c) (hcl2:∀ y,(y,NameKind.free)∈scope.names->∃ c,cl.lookup y=some c)
  (hf:∀ b∈fp,jJ X pins H b) (hlt:∀ b∈fp,b < s.heap.objs.size):(br X scope cl (bK X x js) s H fp).Ok where
 mod:=I.ok.mod
 kind:=hk
 glob:=I.ok.glob
 blt:=I.ok.blt
 above:=Nat.le_refl _
 inj:=λy z c h1 h2=>I.ok.inj y z c (hcl1 y c h1) (hcl1 z c h2)
 has:=λy hy=>by
  have hy':(relabel scope X.env).names.lookup y=some .cell\/(relabel scope X.env).names.lookup y=some .free:=hy;rcases hy' with h | h
  ·obtain ⟨k',m,q⟩:=cN h;rcases q with q | ⟨_,q⟩
   ·exact absurd q (hcell _ m)
   ·subst q;exact hcl2 y m
  ·obtain ⟨k',m,q⟩:=cN h;rcases q with q | ⟨q,_⟩
   ·subst q;exact hcl2 y m
   ·cases q
 cab:=λy c h _=>by cases h
 hd:=I.ok.hd
 frames:=I.ok.frames
 stk:=.inl rfl
 exf:=λb hb=>⟨Nat.ne_of_lt (hlt b hb),λy c h=>(hf b hb).2.2.2.2.1 y c (hcl1 y c h)⟩
 bs:=I.bs
 bsz:=Nat.le_trans I.ok.bsz I.sz
 noex:=λb o e hb=>by
  rcases (hf b hb).2.2.2.1 with z | z
  ·exact I.ok.noex b o e z
  ·exact absurd (Nat.lt_of_lt_of_le (Heap.lt_size e) (Nat.le_trans I.ok.bsz z)) (Nat.lt_irrefl _)
 exfs:=λb hb hz=>(List.mem_cons.mp (I.stkSub b hz)).elim (hf b hb).2.1 (hf b hb).2.2.1
 funs:=I.stack
 frf:=I.stkFree
theorem Aw {h₁:Heap} {tk:Nat} (I:Inv X pins σ H s) (hk:scope.kind=.function) (hcell:∀ y∈scope.names,y.2≠.cell)
  (hcl1:∀ y c,cl.lookup y=some c->X.env.cells.lookup y=some c) (hcl2:∀ y,(y,NameKind.free)∈scope.names->∃ c,cl.lookup y=some c) (hjs:fN X scope js)
  (hf:∀ b∈fp,jJ X pins H b) (hlt:∀ b∈fp,b < s.heap.objs.size) {m:Str->Option Value} (hn:h₁.Ns s.heap.objs.size m) (hkeep:∀ b o,s.heap.get? b=some o->h₁.get? b=some o) :
  Inv (br X scope cl (bK X x js) s H fp) [] (none::dj js σ) H {s with heap:=h₁,toks:=tk} where
 ok:=comp_ok I hk hcell hcl1 hcl2 hf hlt
 os:=rfl
 bare:=I.bare
 base:=Un.kept hkeep
 loc:=by
  refine ⟨m,hn,λi y v h1 h2 h3=>?_⟩;cases i with
  | zero =>
   have z:(some none:Option (Option V))=some (some v):=h2;cases z
  | succ k =>
   have h1':(js.map λj=>X.N.getD j "")[k]?=some y:=h1;have h2':(js.map λj=>(σ[j]?).getD none)[k]?=some (some v):=h2;rw [List.getElem?_map] at h1' h2';cases hj:js[k]? with
   | none=>rw [hj] at h1';cases h1'
   | some j =>
    rw [hj] at h1' h2';have e1:X.N.getD j ""=y:=Option.some.inj h1';have e2:(σ[j]?).getD none=some v:=Option.some.inj h2';obtain ⟨y',n1,n2,n3,n4⟩:=hjs.all j (List.mem_of_getElem? hj);have e3:y'=y:=by rw [<- e1,List.getD_eq_getElem?_getD,n1];rfl
    subst e3
    have e4:σ[j]?=some (some v):=by
     cases q:σ[j]? with
     | none=>rw [q] at e2;cases e2
     | some a=>rw [q] at e2;exact congrArg some e2
    obtain ⟨m0,_,hl⟩:=I.loc;obtain ⟨u,r,l⟩:=hl j y' v n1 e4 (n2.elim (λz=>Or.inr (Or.inl z)) λz=>Or.inr (Or.inr z));refine ⟨u,r,.inr ⟨n4,?_⟩⟩;rcases l with ⟨l,_⟩ | ⟨_,c,hc,hi⟩
    ·exfalso;rcases n2 with z | z <;> (rw [z] at l;cases l)
    ·obtain ⟨c',hc'⟩:=hcl2 y' n3;have e5:=hcl1 y' c' hc';rw [hc] at e5;have e6:=Option.some.inj e5;subst e6;obtain ⟨o,ho,hd⟩:=hi;exact ⟨c,hc',o,hkeep c o ho,hd⟩
 cell:=λy c h=>by
  obtain ⟨v,o,ho,hd⟩:=I.cell y c (hcl1 y c h);exact ⟨v,o,hkeep c o ho,hd⟩
 free:=I.hok.fresh (Nat.le_refl _)
 freeC:=λy c h=>I.freeC y c (hcl1 y c h)
 pin:=λp hp=>absurd (show p∈([]:List (Addr×Obj)) from hp) (by simp)
 hok:=I.hok.kept hkeep
 len:=by
  show (none::dj js σ).length=(bK X x js).length;simp [dj,bK]
end
def PIf (X:Cx) (ifs:List Expr) (t:TT):Prop:=
 ∀(
  pins:List (Addr×Obj)) (s:Shared) (σ:St) (H:Hp) (Q:Bool->Hp->Prop),Inv X pins σ H s->t σ H Q->
  wpAny (model X.prog X.w) X.A (forIn ifs true λc r=>if r=true then do let ok <- isTrue c X.env (eval c X.env);pure (ForInStep.yield ok) else pure (ForInStep.yield r)) (TP X pins σ Q) X.xe s
def mT:TT:=λ_ H Q=>Q true H
theorem ix {X:Cx}:PIf X [] mT:=λ_ _ _ H _ I h=>wpAny_tests_nil ⟨H,I,h⟩
theorem pif_one {X:Cx} {c:Expr} {t:TT} (h:PT X c t):PIf X [c] t:=λpins s σ H Q I q=>wpAny_tests_one (h pins s σ H Q I q)
def gP (wi:TI) (tc:TT) (te:TE) (js:List Nat):TE:=λσ H Q=>wi σ H λJ H1=>∀ D,H1 D=none->
 ∃ W:Nat->Nat->Hp->Prop,(∃ m,W 0 m (upd H1 D (.lst [])))/\∀ i m H2,W i m H2->(J.stop i H2/\Q (.ref D) H2)\/
  (J.go i H2/\∀ v H3,J.yld i H2 v H3->tc (some v::dj js σ) H3 λb H4=>if b=true then te (some v::dj js σ) H4 λy H5 =>
   ∃ ys,H5 D=some (.lst ys)/\ys.length < sizeLine/\∃ m',m' < m/\W (i+1) m' (upd H5 D (.lst (ys++[y]))) else ∃ m',m' < m/\W (i+1) m' H4)
section
variable {X:Cx} {elt iter:Expr} {x:Str} {px pos:Pos} {ifs:List Expr} {scope:Scope} {cl:List (Str×Addr)} {wi:TI} {tc:TT} {te:TE} {js:List Nat}
theorem vd {use:Option (Value->Sem Unit)} {Qv:Value->Shared->Prop} {pins:List (Addr×Obj)} {s:Shared} {σ:St} {H:Hp} {Q:VK}
  (hc:X.calm=true) (hi:PI X (.Name x px) iter wi) (hk:scope.kind=.function) (hcell:∀ y∈scope.names,y.2≠.cell) (hx:(relabel scope X.env).names.lookup x=some .local)
  (hcl1:∀ y c,cl.lookup y=some c->X.env.cells.lookup y=some c) (hcl2:∀ y,(y,NameKind.free)∈scope.names->∃ c,cl.lookup y=some c) (hjs:fN X scope js) (hnd:(bK X x js).Nodup)
  (ht:∀ s' H' fp,PIf (br X scope cl (bK X x js) s' H' fp) ifs tc) (he:∀ s' H' fp,PE (br X scope cl (bK X x js) s' H' fp) elt te)
  (I:Inv X pins σ H s) (h:gP wi tc te js σ H Q)
  (fin:∀(D C:Addr) (H':Hp) (s':Shared),Inv X pins σ H' s'->jJ X pins H' C->(∃ m,s'.heap.Ns C m)->Q (.ref D) H'->compPost (model X.prog X.w) X.A X.xe use Qv (.ref D) C (.ok .next) s') :
  wpAny (model X.prog X.w) X.A (eval iter X.env) (λxv s₁=>wpAny (model X.prog X.w) X.A (pyIter xv) (λit s₂=>wpAny (model X.prog X.w) X.A (newList []) (λacc s₃ =>
   wpAny (model X.prog X.w) X.A (newFunctionEnv scope X.env.globals cl [] X.env.qual none .none (some X.env)) (λcenv s₄ =>
    codeAny (model X.prog X.w) X.A (.compStart (.ListComp elt [⟨.Name x px,iter,ifs,0⟩] scope pos) 0 it acc {cenv with scope:=relabel scope X.env})
     (compPost (model X.prog X.w) X.A X.xe use Qv acc cenv.locals) s₄) X.xe s₃) X.xe s₂) X.xe s₁) X.xe s:=by
 refine thn (hi pins s σ H _ I h) λv s1 h1=>thn h1 λitv s2 h2=>?_;obtain ⟨it,fp,tn,J,H2,e,I2,T,st2,f2,hW⟩:=h2;subst e;obtain ⟨W,⟨m0,w0⟩,turn⟩:=hW s2.heap.objs.size (I2.hok.fresh (Nat.le_refl _));have hlt2:∀ b∈fp,b < s2.heap.objs.size:=λb hb=>let ⟨_,e,_⟩:=T.obj _ _ st2 b hb;Heap.lt_size e
 have I3:Inv X pins σ (upd H2 s2.heap.objs.size (.lst [])) {s2 with heap:=s2.heap.push {cls:=.type "list",data:=.seq ([]:List Value).toArray} }:=
  I2.lnew (t':=s2.toks) (its:=[]) .nil (Nat.zero_le _)
 refine wpAny_newObj_type ?_;have k23:∀ b o,s2.heap.get? b=some o->(s2.heap.push {cls:=.type "list",data:=.seq ([]:List Value).toArray}).get? b=some o:=λb o e=>Heap.get?_push_of_some _ e;have sz3:(s2.heap.push {cls:=.type "list",data:=.seq ([]:List Value).toArray}).objs.size=s2.heap.objs.size+1:=Heap.size_push ..;generalize hs3:({s2 with heap:=s2.heap.push {cls:=.type "list",data:=.seq ([]:List Value).toArray} }:Shared)=s3 at I3
 have hs3':s3.heap=s2.heap.push {cls:=.type "list",data:=.seq ([]:List Value).toArray}:=by rw [<- hs3]
 have hlt3:∀ b∈fp,b < s3.heap.objs.size:=λb hb=>by rw [hs3',sz3];exact Nat.lt_succ_of_lt (hlt2 b hb)
 have f3:∀ b∈fp,jJ X pins (upd H2 s2.heap.objs.size (.lst [])) b:=λb hb=>⟨by rw [aq (Nat.ne_of_lt (hlt2 b hb))];exact (f2 b hb).1,(f2 b hb).2⟩;refine wpAny_newFunctionEnv hcell (by intro y hy;simp at hy) (λh₁ hns hsb=>?_) hk;have k34:∀ b o,s3.heap.get? b=some o->h₁.get? b=some o:=λb o e=>hsb.extBut b o (Nat.ne_of_lt (Heap.lt_size e)) (Heap.get?_push_of_some _ e);have I4:=Aw (x:=x) (js:=js) (tk:=s3.toks+([]:List (Str×Value)).length) I3 hk hcell hcl1 hcl2 hjs f3 hlt3 hns k34;have st4:tn 0 h₁:=T.keep 0 _ _ st2 λb hb o e=>k34 b o (by rw [hs3'];exact k23 b o e)
 have stat:∀{H':Hp},(∀ b∈fp,H' b=none)->∀ b∈fp,jJ (br X scope cl (bK X x js) s3 (upd H2 s2.heap.objs.size (.lst [])) fp) [] H' b:=λhn b hb =>
  ⟨hn b hb,Nat.ne_of_lt (hlt3 b hb),λhz=>(List.mem_cons.mp (I3.stkSub b hz)).elim (f2 b hb).2.1 (f2 b hb).2.2.1,.inl hb,λy c q=>(f2 b hb).2.2.2.2.1 y c (hcl1 y c q),λp hp=>absurd (show p∈([]:List (Addr×Obj)) from hp) (by simp)⟩
 have back:∀{σ':St} {H':Hp} {s':Shared},Inv (br X scope cl (bK X x js) s3 (upd H2 s2.heap.objs.size (.lst [])) fp) [] σ' H' s'->Inv X pins σ H' s':=λ{σ' H' s'} J' =>
  I3.call' (ch:=fp) J'.os J'.base J'.hok J'.bare λb hb=>⟨(f2 b hb).2.2.2.1,(f2 b hb).2.1,(f2 b hb).2.2.2.2.1,(f2 b hb).2.2.2.2.2⟩
 have loop:codeAny (model X.prog X.w) X.A (.compLoop (.ListComp elt [⟨.Name x px,iter,ifs,0⟩] scope pos) 0 (.ref it) (.ref s2.heap.objs.size) (compEnvC scope cl s3.heap.objs.size X.env))
   (compPost (model X.prog X.w) X.A X.xe use Qv (.ref s2.heap.objs.size) s3.heap.objs.size) {s3 with heap:=h₁,toks:=s3.toks+([]:List (Str×Value)).length}:=by
  refine codeAny_compLoop_tests (λn s'=>∃ i o H',Inv (br X scope cl (bK X x js) s3 (upd H2 s2.heap.objs.size (.lst [])) fp) [] (o::dj js σ) H' s'/\tn i s'.heap/\(∀ b∈fp,H' b=none)/\W i n H') ?_ m0
   ⟨0,none,_,I4,st4,λb hb=>(f3 b hb).1,w0⟩
  rintro n s5 ⟨i,o,H5,I5,st5,fr5,w5⟩
  rcases turn i n H5 w5 with ⟨stop,q⟩ | ⟨go,step⟩
  ·refine thn (T.done (br X scope cl (bK X x js) s3 (upd H2 s2.heap.objs.size (.lst [])) fp) rfl rfl rfl hc i [] s5 _ H5 _ I5 (stat fr5) st5 stop) λr s6 zz=>?_;obtain ⟨hr,I6⟩:=zz;subst hr;exact fin _ _ H5 s6 (back I6) (I3.fpOk (Nat.le_refl _) I6.free) (let ⟨m,hm,_⟩:=I6.loc;⟨m,hm⟩) q
  ·refine thn (T.item (br X scope cl (bK X x js) s3 (upd H2 s2.heap.objs.size (.lst [])) fp) rfl rfl rfl hc i [] s5 _ H5 _ I5 (stat fr5) st5 go) λr s6 zz=>?_;obtain ⟨u,hr,h6⟩:=zz;subst hr;show wpAny _ _ (assign (.Name x px) _ u) _ _ s6;intro Γ p hΓ;have h6':=h6 Γ p hΓ;obtain ⟨v,H6,I6,r6,y6,st6,fr6⟩:=h6';refine (?_:wpAny _ _ _ _ _ s6) Γ p hΓ;have I6':=I6.pinned (stat fr6) (T.obj _ _ st6);have hg:PG (br X scope cl (bK X x js) s3 (upd H2 s2.heap.objs.size (.lst [])) fp) (.Name x px) (pZ 0):=aP (i:=0) hnd rfl (Or.inl hx) (.inr hx);refine wpAny_mono (hg _ s6 _ H6 v u (λσ' H'=>σ'=some v::dj js σ/\H'=H6) I6' r6 ⟨rfl,rfl⟩) (λ_ s7 q7=>?_) (λ_ _ f=>False.elim f);obtain ⟨σ7,H7,I7,e7,e8⟩:=q7;subst e7 e8;refine wpAny_mono (ht s3 _ fp _ s7 _ H7 _ I7 (step v H7 y6)) (λok s8 q8=>?_) (λ_ _ f=>False.elim f);obtain ⟨H8,I8,q8⟩:=q8
   have again:∀{s9:Shared} {σ9:St} {H9:Hp} {m':Nat},Inv (br X scope cl (bK X x js) s3 (upd H2 s2.heap.objs.size (.lst [])) fp) ([]++rW fp s6.heap) (some v::dj js σ) H9 s9->m' < n->W (i+1) m' H9->
     ∃ m,m < n/\∃ i o H',Inv (br X scope cl (bK X x js) s3 (upd H2 s2.heap.objs.size (.lst [])) fp) [] (o::dj js σ) H' s9/\tn i s9.heap/\(∀ b∈fp,H' b=none)/\W i m H':=λ{s9 σ9 H9 m'} I9 hm w9=>by
    refine ⟨m',hm,i+1,some v,H9,I9.unpinned,T.keep _ _ _ st6 λb hb o e=>(I9.pin (b,o) (List.mem_append_right _ (List.mem_append_right _ (fG hb e)))).1,λb hb=>?_,w9⟩;obtain ⟨o,e,d⟩:=T.obj _ _ st6 b hb;exact (I9.pin (b,o) (List.mem_append_right _ (List.mem_append_right _ (fG hb e)))).2.1
   cases ok with
   | false =>
    rw [if_neg Bool.false_ne_true] at q8 ⊢;obtain ⟨m',hm,w9⟩:=q8;exact again (σ9:=[]) I8 hm w9
   | true =>
    rw [if_pos rfl] at q8 ⊢;refine wpAny_mono (he s3 _ fp _ s8 _ H8 _ I8 q8) (λy s9 q9=>?_) (λ_ _ f=>False.elim f);obtain ⟨yv,H9,I9,r9,ys,hD,hl,m',hm,w9⟩:=q9;refine wpAny_mono (bw (X:=br X scope cl (bK X x js) s3 (upd H2 s2.heap.objs.size (.lst [])) fp) _ s9 _ H9 (.ref s2.heap.objs.size) [yv] (.ref s2.heap.objs.size) [y] (λ_ H'=>H'=upd H9 s2.heap.objs.size (.lst (ys++[yv]))) I9 rfl (.cons r9 .nil) ⟨_,ys,yv,rfl,rfl,hD,hl,rfl⟩) (λ_ s10 q10=>?_) (λ_ _ f=>False.elim f);obtain ⟨_,H10,I10,_,e10⟩:=q10;subst e10;exact again (σ9:=[]) I10 hm w9
 exact codeAny_compStart_list loop (T.self _ 0 _ _ _ st4 loop)
theorem pe_comp (hc:X.calm=true) (hi:PI X (.Name x px) iter wi) (hk:scope.kind=.function) (hcell:∀ y∈scope.names,y.2≠.cell) (hnames:∀ y∈scope.names,y.2=.local->scope.names.lookup y.1=some .local) (hx:(relabel scope X.env).names.lookup x=some .local)
  (hclos:closureFor scope X.env=pure cl) (hcl1:∀ y c,cl.lookup y=some c->X.env.cells.lookup y=some c) (hcl2:∀ y,(y,NameKind.free)∈scope.names->∃ c,cl.lookup y=some c) (hjs:fN X scope js) (hnd:(bK X x js).Nodup)
  (ht:∀ s' H' fp,PIf (br X scope cl (bK X x js) s' H' fp) ifs tc) (he:∀ s' H' fp,PE (br X scope cl (bK X x js) s' H' fp) elt te)
  (hs:∀ x,foldedSetIterable iter X.env x=pure x:=by intro _;rfl):PE X (.ListComp elt [⟨.Name x px,iter,ifs,0⟩] scope pos) (gP wi tc te js):=by
 intro pins s σ H Q I h;rw [eval_ListComp];refine wpAny_comprehension_free (use:=none) rfl hs hclos hk hnames (vd hc hi hk hcell hx hcl1 hcl2 hjs hnd ht he I h λD C H' s' I' fC hC q=>?_);obtain ⟨m,hm⟩:=hC;refine ⟨m,hm,λh' sb=>?_⟩;obtain ⟨f0,f1,f2,f3,f4,f5⟩:=fC;exact ⟨.ref D,H',I'.turned (t':=s'.toks) (λb o hb e=>(sb.2 b hb).trans e) f0 f1 f3 f4 f5,rfl,q⟩
def wO (i:Nat) (te:TE):TS:=λD σ H=>te σ H λv H1=>D.nx (σ.set i (some v)) H1
theorem ps_setC {y:Str} {i:Nat} {py spos:Pos} (hN:X.N.Nodup) (hy:X.N[i]?=some y) (hyl:Loc X.env.scope y) (hyf:X.fn y=true\/X.env.scope.names.lookup y=some .local)
  (hsw:swapsWith (.ListComp elt [⟨.Name x px,iter,ifs,0⟩] scope pos) (some (.Name y py)) spos.line X.env=pure true)
  (hc:X.calm=true) (hi:PI X (.Name x px) iter wi) (hk:scope.kind=.function) (hcell:∀ y∈scope.names,y.2≠.cell) (hnames:∀ y∈scope.names,y.2=.local->scope.names.lookup y.1=some .local) (hx:(relabel scope X.env).names.lookup x=some .local)
  (hclos:closureFor scope X.env=pure cl) (hcl1:∀ y c,cl.lookup y=some c->X.env.cells.lookup y=some c) (hcl2:∀ y,(y,NameKind.free)∈scope.names->∃ c,cl.lookup y=some c) (hjs:fN X scope js) (hnd:(bK X x js).Nodup)
  (ht:∀ s' H' fp,PIf (br X scope cl (bK X x js) s' H' fp) ifs tc) (he:∀ s' H' fp,PE (br X scope cl (bK X x js) s' H' fp) elt te)
  (hs:∀ x,foldedSetIterable iter X.env x=pure x:=by intro _;rfl) :
  PS X (.Assign [.Name y py] (.ListComp elt [⟨.Name x px,iter,ifs,0⟩] scope pos) spos) (wO i (gP wi tc te js)):=by
 intro pins s σ H D I h;rw [exec_Assign_Name_used _ _ _ _ hsw];refine wpAny_bind (wpAny_standAt (wpAny_bind ?_));show wpAny _ _ (do let _ <- comprehension (.ListComp elt [⟨.Name x px,iter,ifs,0⟩] scope pos) scope X.env _ (newList []) false (eval iter X.env) (some (assign (.Name y py) X.env))) _ _ s
 refine wpAny_bind (wpAny_mono (wpAny_comprehension_free (use:=some (assign (.Name y py) X.env)) (Q:=λ_ s'=>SP X pins D .next s') rfl hs hclos hk hnames
  (vd hc hi hk hcell hx hcl1 hcl2 hjs hnd ht he I h λD' C H' s' I' fC hC q=>?_)) (λ_ s' hq=>wpAny_pure (wpAny_pure hq)) λ_ _ e=>e)
 obtain ⟨m,o,es,ep,ho,hd,hr⟩:=hC;obtain ⟨f0,f1,f2,f3,f4,f5⟩:=fC
 have Ip:Inv X (pins++[(C,o)]) σ H' s':=I'.pins_of λp hp=>(List.mem_append.mp hp).elim (λz=>I'.pin p (List.mem_append_right _ z)) λz=>by
  have e:p=(C,o):=by simpa using z
  subst e;exact ⟨ho,f0,f1,f2,λv z=>by rw [hd] at z;cases z⟩
 have hg:PG X (.Name y py) (pZ i):=aP hN hy hyl hyf;refine thn (hg _ s' σ H' (.ref D') (.ref D') (λσ' H''=>σ'=σ.set i (some (.ref D'))/\H''=H') Ip rfl ⟨rfl,rfl⟩) λ_ s'' q''=>?_;obtain ⟨σ'',H'',I'',e1,e2⟩:=q'';subst e1 e2;have hp:=(I''.pin (C,o) (by simp)).1;refine ⟨m,⟨o,es,ep,hp,hd,hr⟩,λh' sb=>?_⟩;exact ⟨_,_,(I''.unpinned).turned (t':=s''.toks) (λb o hb e=>(sb.2 b hb).trans e) f0 f1 f3 f4 f5,q⟩
end
structure au (K:W.Frag) (mg:Str->Option Value) (x:Str) (st:Stmt):Prop where
 ex:∃(f:Addr) (fd:FuncData),Fun K x x st f fd/\mg x=some (.ref f)
theorem aQ {K:W.Frag} {h:Heap} {mg:Str->Option Value} {x:Str} {st:Stmt} {f:Addr} {oc kV doc pm cdv ct:Value} {od an:Option Addr} {osl:Array (Option Value)} (X:K.In h) (G:h.Ns mainGlobals mg)
  (a:PySem.W.nsIn K mainGlobals x=some (some (.ref f)))
  (l:K.lookup f=some ⟨oc,od,.func (PySem.W.fnOf x x (eI st) (bf st) (ag st) .none kV doc pm an cdv ct),osl⟩)
  (c:PySem.W.codeIn K cdv x=true) (k:PySem.W.keepIn K (.ref f)=true):au K mg x st:=
 ⟨_,_,Ao l c k,PySem.W.mg_of X G a⟩
structure Def (P:Program) (w:World) (K:W.Frag) (mg:Str->Option Value) (base:Heap) (n:Nat) (x:Str) (ps:List Str) (sp:Sp):Prop where
 ex:∃(f:Addr) (fd:FuncData),lS P w K mg base CX0 n f fd ps sp/\Binds K fd ps []/\PySem.W.keepIn K (.ref f)=true/\mg x=some (.ref f)
variable {P:Program} {w:World} {K:W.Frag} {mg:Str->Option Value} {base:Heap}
theorem aO {x:Str} {st:Stmt} {N ps:List Str} {k:Nat} {sp:Sp} (T:au K mg x st) (S:aA N ps (ag st))
  (bd:∀(kV doc pm:Value) (an:Option Addr) (cdv ct:Value) (us:List Value),us.length=ps.length->bindArgs (PySem.W.fnOf x x (eI st) (bf st) (ag st) .none kV doc pm an cdv ct) ⟨us,[]⟩=pure (ps.zip us))
  (len:∀ vs H Q E,sp vs H Q E->vs.length=ps.length)
  (body:∀(f:Addr) (cdv:Value) (A:Around) (outer:List Env) (s:Shared) (H:Hp) (vs:List V) (Q:VK) (E:XK),dF k (A.deeper (envOfC x (ag st) s.heap.objs.size f cdv))->sp vs H Q E->
   ∃ t,PSs (cR CX0 P w K mg base N x (ag st) f cdv A outer s H E).nox (bf st) t/\t {nx:=λ_ H'=>Q .non H',rt:=Q} (start N vs) H) :
  Def P w K mg base (k+1) x ps sp:=by
 obtain ⟨f,fd,F,m⟩:=T.ex;exact ⟨f,fd,F.ok S len (body f),F.binds bd,F.kp,m⟩
section
variable {X:Cx} {n:Nat} {x:Str} {ps:List Str} {sp:Sp} {e a b:Expr} {es:List Expr} {t:TA} {ta tb:TE} {p pos:Pos}
theorem aD (D:Def X.prog X.w X.K X.mg X.base n x ps sp) (hr:dF n X.A) (hg:Gl X x) (ha:PA X (e::es) t) (hdb:(x == ("__debug__":Str))=false:=by decide)
  (he:starEach (e::es) X.env=(false,eval e X.env)::starEach es X.env:=by rfl) (hpl:(backTo pos (starEach es X.env)).any (·.1)=false:=by rfl) :
  PE X (.Call (.Name x p) (e::es) [] pos) (Es sp [] E0 t):=by
 obtain ⟨f,fd,F,b,kp,m⟩:=D.ex;exact BC F hr hg m kp b .nil FA ha hdb he hpl
theorem bM:OpR X (binaryOp .Mult) (rI IntMulOk λi j=>.int (i*j)):=opI λ_ _ _ _ _ _ _ hc q=>PyProof.Rows.mul_int q hc
def CDivK (_ j:Int):Prop:=j≠0/\j.natAbs.log2 < 9000
theorem xP:OpR X (binaryOp .FloorDiv) (rI CDivK λi j=>.int (i.fdiv j)):=opI λ_ _ _ _ _ _ _ hc q=>PyProof.Rows.floordiv_int hc.1 q (.inl (PyProof.noPylong_of_log2 hc.2))
theorem gj:jI X (.builtin "isinstance") (λxs H Q=>∃(y:V) (c:V) (cv t:Value) (k:Bool),xs=[y,c]/\(∀ u,RelV c u->u=cv)/\gI X.K H y t/\PySem.W.kitOne X.K t cv=some k/\Q (.bl k) H):=by
 intro pins s σ H xs us Q I r h;obtain ⟨y,c,cv,t,k,rfl,hc,ty,kt,q⟩:=h;obtain ⟨u,w',rfl,r1,r2⟩:=vals2 r;have e:=hc _ r2;subst e;exact DB I r1 ty kt λtk=>⟨.bl k,H,I.tok tk,rfl,q⟩
end
open PySem.Calls PySem.W PySem.Builtin.Getset_descriptor
structure HI (K:Frag) (D:Addr):Prop where
 ga:findIn K (.ref D) "__getattribute__"=some (some (.builtin "BaseException.__getattribute__"))
 gt:findIn K (.ref D) "__getattr__"=some none
 cl:∃ cd,clsIn K D=some cd
 ha:findIn K (.ref D) "__class__"=some (some (.builtin "object.__class__"))
 hn:specialIn K (.builtin "object.__class__") "__get__"=some (some (.builtin "getset_descriptor.__get__"))
 tk:takesIn K (.builtin "object.__class__")=some true
 hb:mroIn K D (.type "BaseException")=some true
 hm:mroIn K D (.type "object")=some true
section
variable {prog:Program} {w:World} {A:Around} {E:Value->Shared->Prop} {s:Shared} {K:Frag} {x D:Addr}
def Cw (x D:Addr) (h:Heap):Prop:=∃ ox,h.get? x=some ox/\ox.cls=.ref D
theorem Cw.type {M:Model} {h:Heap} (I:Cw x D h):Looks M h (typeOf (.ref x)) (.ref D):=by
 obtain ⟨ox,a,b⟩:=I;exact b ▸ (Looks.ld a).andThen .now
end
section
variable {P:Program} {w:World} {H:Hp} {h:Heap} {a:Addr} {o:HO}
theorem bC.there (x:bC P w H h a o):∃ ob,h.get? a=some ob:=by
 cases o with
 | lst xs=>obtain ⟨_,_,_,_,e⟩:=x;exact ⟨_,e⟩
 | tup xs=>obtain ⟨_,_,_,⟨_,e,_⟩⟩:=x;exact ⟨_,e⟩
 | dK kvs=>obtain ⟨_,_,_,_,o,_,_,e,_⟩:=x;exact ⟨_,e⟩
 | dT kvs=>obtain ⟨_,_,_,_,o,_,_,e,_⟩:=x;exact ⟨_,e⟩
 | set S n=>obtain ⟨o,_,_,_,e,_⟩:=x;exact ⟨_,e⟩
 | ins C dx fs=>obtain ⟨_,_,_,e,_⟩:=x;exact ⟨_,e⟩
 | own y=>exact x
 | xd fs=>obtain ⟨_,⟨_,_,_,e,_⟩,_⟩:=x;exact ⟨_,e⟩
 | rng lo hi=>obtain ⟨_,_,_,e⟩:=x;exact ⟨_,e⟩
 | frz ob u=>obtain ⟨e,_⟩:=x;exact ⟨_,e⟩
 | tbl ps=>exact ⟨_,(show h.get? a=some _ from x)⟩
 | met f y=>exact ⟨_,(show h.get? a=some _ from x)⟩
 | ext φ=>obtain ⟨_,e,_⟩:=x;exact e
end
section
variable {P:Program} {w:World} {K:W.Frag} {mg:Str->Option Value} {base:Heap} {N:List Str} {qual:Str} {scope:Scope} {f:Addr} {cd:Value} {A:Around} {outer:List Env} {s:Shared} {H:Hp} {E:XK}
end
abbrev bmV:List Value:=[.type "ValueError",.type "Exception",.type "BaseException",.type "object"]
section
variable {P:Program} {w:World} {K:Frag} {mg:Str->Option Value} {base:Heap} {N:List Str} {qual:Str} {scope:Scope} {f:Addr} {cd:Value} {A:Around} {outer:List Env} {s:Shared} {H:Hp} {E:XK}
end
structure oB (K:Frag) (D:Addr):Prop where
 cl:∃ cd,clsIn K D=some cd
 ty:typeIn K (.ref D)=some (.type "type")
 hb:mroIn K D (.type "BaseException")=some true
theorem yD {M:Model} {A:Around} {E:Value->Shared->Prop} {s:Shared} {K:Frag} {e C D:Addr} {Q:Bool->Shared->Prop} (X:K.In s.heap) (I:Cw e C s.heap) (c:oB K D) {b:Bool} (hm:mroIn K C (.ref D)=some b) (hq:Q b s) :
  wpAny M A (excMatches (.ref e) (.ref D)) Q E s:=by
 obtain ⟨hh,g,d,t,os⟩:=s;have l0:=I.type (M:=M);obtain ⟨ob,ho,hc⟩:=Option.map_eq_some_iff.mp c.ty;have l1:Looks M hh (typeOf (.ref D)) (.type "type"):=hc ▸ (Looks.ld (X _ _ ho)).andThen .now
 have l2:Looks M hh (isType (.ref D)) true:=by
  obtain ⟨cd,hcd⟩:=c.cl;unfold clsIn at hcd;split at hcd
  ·rename_i c' d' cd' sl' lo;intro A' Q' E' s' k q;unfold isType loadHead;exact wpAny_bind (wpAny_loadPart (k _ _ (X _ _ lo)) (wpAny_pure q))
  ·cases hcd
 have l3:=looks_mroIn (M:=M) X c.hb;have l4:=looks_mroIn (M:=M) X hm;have l5:Looks M hh (isInstance (.ref D) (.type "tuple")) false:=l1.andThen (Looks.of_pure tc_notTuple);have l6:Looks M hh (isExcClass (.ref D)) true:=l2.andThen (by exact l3);unfold excMatches;refine wpAny_bind (l5.at ?_);rw [if_neg (by decide)];refine wpAny_bind (wpAny_pure ?_);simp only [List.forIn_cons,List.forIn_nil];refine wpAny_bind (wpAny_bind (wpAny_bind (l6.at ?_)));rw [if_neg (by decide)];refine wpAny_pure (wpAny_pure (wpAny_bind (l0.at (wpAny_bind (wpAny_bind (wpAny_bind (l4.at ?_)))))));cases b with
 | true=>exact wpAny_pure (wpAny_pure (wpAny_pure hq))
 | false=>exact wpAny_pure (wpAny_pure (wpAny_pure hq))
def Cx.mark (X:Cx) (ea:Addr):Cx:={X with A:=X.A.mark (some (.ref ea)),calm:=false}
section
variable {X:Cx} {pins:List (Addr×Obj)} {σ:St} {H H':Hp} {s s':Shared}
theorem Inv.mark (I:Inv X pins σ H s) (ea:Addr):Inv (X.mark ea) pins σ H s:=
 ⟨⟨I.ok.mod,I.ok.kind,I.ok.glob,I.ok.blt,I.ok.above,I.ok.inj,I.ok.has,I.ok.cab,(λz=>by cases z),I.ok.frames,I.ok.stk,I.ok.exf,I.ok.bs,I.ok.bsz,I.ok.noex,I.ok.exfs,I.ok.funs,I.ok.frf⟩,
  I.os,I.bare,I.base,I.loc,I.cell,I.free,I.freeC,I.pin,I.hok,I.len⟩
theorem Inv.unmark {ea:Addr} (I:Inv (X.mark ea) pins σ H s) (ok:X.Ok):Inv X pins σ H s:=
 ⟨ok,I.os,I.bare,I.base,I.loc,I.cell,I.free,I.freeC,I.pin,I.hok,I.len⟩
theorem Inv.track {a:Addr} {φ:Heap->Prop} (I:Inv X pins σ H s) (n:H a=none) (new:X.s₀.heap.get? a=none) (hL:a≠X.env.locals) (hc:∀ x c,X.env.cells.lookup x=some c->c≠a) (hp:∀ p∈X.pn++pins,p.1≠a)
  (p:φ s.heap) (there:∃ o,s.heap.get? a=some o) (st:∀ h1 h2:Heap,φ h1->(∀ o,h1.get? a=some o->h2.get? a=some o)->φ h2):Inv X pins σ (upd H a (.ext φ)) s:=
 ⟨I.ok,I.os,I.bare,⟨I.base.keep,I.base.slot,λb o e z hx=>by rw [aq (λq=>by rw [q,new] at e;cases e)];exact I.base.free b o e z hx,I.base.there,
   λb xs e=>by have q:=I.base.tups b xs e;rw [aq (ax q n)];exact q,λb o u e=>by have q:=I.base.frzs b o u e;rw [aq (ax q n)];exact q,
   λb ps e=>by obtain ⟨m,q⟩:=I.base.tbls b ps e;exact ⟨m,by rw [aq (ax q n)];exact q⟩⟩,
  I.loc,I.cell,by rw [aq (Ne.symm hL)];exact I.free,λx c e=>by rw [aq (hc x c e)];exact I.freeC x c e,
  λq hq=>by obtain ⟨a1,a2,a3⟩:=I.pin q hq;exact ⟨a1,by rw [aq (hp q hq)];exact a2,a3⟩,
  λb u e=>by
   by_cases hb:b=a
   ·subst hb;rw [ae] at e;cases e
    exact ⟨p,there,st⟩
   ·rw [aq hb] at e;exact (I.hok b u e).stay (λ_ _ _ z=>z) (λc z=>by rw [aq (ax z n)];exact z) λc xs z=>by rw [aq (ax z n)];exact z,
  I.len⟩
theorem Inv.unname {i:Nat} {x:Str} {v:Option Value} {m:Str->Option Value} {h':Heap} {tk:Nat} (I:Inv X pins σ H s) (hN:X.N.Nodup) (hi:X.N[i]?=some x)
  (hm:s.heap.Ns X.env.locals m) (hn:h'.Ns X.env.locals λy=>if y=x then v else m y) (hs:Heap.SameBut X.env.locals s.heap h'):Inv X pins (σ.set i none) H {s with heap:=h',toks:=tk}:=by
 have old:∀ b o,X.s₀.heap.get? b=some o->b≠X.env.locals:=λb o e=>Nat.ne_of_lt (Nat.lt_of_lt_of_le (Heap.lt_size e) I.ok.above);have cellK:∀ y c,X.env.cells.lookup y=some c->∀ u,s.heap.IsCell c u->h'.IsCell c u:=λy c e u z=>z.sameBut hs (I.cne y c e)
 refine ⟨I.ok,I.os,I.bare,⟨λb o e n hb hx=>(hs.2 b (old b o e)).trans (I.base.keep b o e n hb hx),λb o e n hb hx=>?_,I.base.free,λb o e hx=>?_,I.base.tups,I.base.frzs,I.base.tbls⟩,⟨_,hn,λj y u e1 e2 e3=>?_⟩,
  λy c e=>?_,I.free,I.freeC,λp hp=>?_,λb u e=>?_,by simpa using I.len⟩
 ·obtain ⟨sl,z⟩:=I.base.slot b o e n hb hx;exact ⟨sl,(hs.2 b (old b o e)).trans z⟩
 ·obtain ⟨o',z⟩:=I.base.there b o e hx;exact ⟨o',(hs.2 b (old b o e)).trans z⟩
 ·by_cases hj:j=i
  ·subst hj;have e4:(σ.set j none)[j]?=some (some u):=e2
   by_cases hl:j < σ.length
   ·rw [List.getElem?_set_self hl] at e4;cases e4
   ·rw [List.getElem?_eq_none (by rw [List.length_set];omega)] at e4;cases e4
  ·have e4:(σ.set i none)[j]?=some (some u):=e2;rw [List.getElem?_set_ne (Ne.symm hj)] at e4;obtain ⟨m0,hm0,hl⟩:=I.loc
   have em:m0=m:=by
    obtain ⟨o1,es1,ep1,g1,d1,_,r1⟩:=hm0;obtain ⟨o2,es2,ep2,g2,d2,_,r2⟩:=hm;rw [g1] at g2;cases g2
    rw [d1] at d2;cases d2
    funext z;exact (r1 z).symm.trans (r2 z)
   subst em;obtain ⟨u',r',q⟩:=hl j y u e1 e4 e3;refine ⟨u',r',?_⟩;rcases q with ⟨k,e⟩ | ⟨k,c,e,z⟩
   ·refine .inl ⟨k,?_⟩;have ne:y≠x:=λe=>hj (sj hN e1 (e ▸ hi));show (if y=x then v else m0 y)=some u';rw [if_neg ne];exact e
   ·exact .inr ⟨k,c,e,cellK y c e _ z⟩
 ·obtain ⟨u,z⟩:=I.cell y c e;exact ⟨u,cellK y c e u z⟩
 ·obtain ⟨a1,a2,a3,a4⟩:=I.pin p hp;exact ⟨(hs.2 _ a3).trans a1,a2,a3,a4⟩
 ·have nl:∀ c z,H c=some z->c≠X.env.locals:=λc z q e=>by rw [e,I.free] at q;cases q
  exact (I.hok b u e).stay (λc z hc q=>(hs.2 c (hc.elim (λk=>by rw [k];exact nl b u e) λk=>nl c _ k)).trans q) (λ_ z=>z) λ_ _ z=>z
theorem Inv.caught {ea:Addr} {C:Value} (I:Inv X pins σ H s) {t:Addr} {B:Heap} {h6:Heap} {tk:Nat} (ho:s'.os=s.os) (hg:AllBare s'.gens) (un:Un (frs X.stack) [] H H' s.heap s'.heap) (hok:HOk X.prog X.w H' s'.heap)
  (cov:∀ b o,s'.heap.get? b=some o->b ∉ frs X.stack->((∃ u,H' b=some u)\/∃ o',s.heap.get? b=some o')->B.get? b=some o) (st:B.StaysIn h6) (up:s'.heap.UpToSlots h6):Inv X pins σ H' {s' with heap:=h6,toks:=tk}:=by
 have fr:=I.stack
 have frf:∀ b u,H' b=some u->b ∉ frs X.stack:=λb u e z=>by
  obtain ⟨_,o,e2,_⟩:=fr.mem z;have q:=un.free b o e2 (I.stkFree b z) (by simp);rw [e] at q;cases q
 have slotK:∀ b o,s.heap.get? b=some o->b∈frs X.stack->∃ sl,h6.get? b=some {o with slots:=sl}:=λb o e hb=>by
  obtain ⟨_,o',e2,nf⟩:=fr.mem hb;have e3:some o'=some o:=e2.symm.trans e;cases e3
  obtain ⟨sl,e4⟩:=un.slot b _ e (I.stkFree b hb) hb (by simp);obtain ⟨sl',e5⟩:=up b _ e4 nf;exact ⟨sl',e5⟩
 have u6:Un (frs X.stack) [] H H' s.heap h6:=by
  refine ⟨λb o e n hb hx=>st b o (cov b o (un.keep b o e n hb hx) hb (.inr ⟨o,e⟩)),λb o e n hb hx=>slotK b o e hb,un.free,λb o e hx=>?_,un.tups,un.frzs,un.tbls⟩
  by_cases hb:b∈frs X.stack
  ·obtain ⟨sl,z⟩:=slotK b o e hb;exact ⟨_,z⟩
  ·obtain ⟨o',z⟩:=un.there b o e hx;exact ⟨o',st b o' (cov b o' z hb (.inr ⟨o,e⟩))⟩
 have k6:HOk X.prog X.w H' h6:=λb u e=>(hok b u e).stay (λc z hc q=>by
  have tr:∃ v,H' c=some v:=hc.elim (λk=>⟨u,by rw [k];exact e⟩) λk=>⟨_,k⟩;obtain ⟨v,hv⟩:=tr;exact st c z (cov c z q (frf c v hv) (.inl ⟨v,hv⟩))) (λ_ z=>z) λ_ _ z=>z
 exact I.call' (s':={s' with heap:=h6,toks:=tk}) (ch:=[]) ho u6 k6 hg λb hb=>nomatch hb
end
section
variable {X:Cx}
theorem wx {env:Env}:∀(names:List (Str×NameKind)) (acc:List (Str×Addr)),(∀ y,(y,NameKind.free)∈names->∃ c,env.cells.lookup y=some c)->
  ∃ cl:List (Str×Addr),(forIn names acc (λx r=>match x with
    | (name,kind)=>if (kind == NameKind.free)=true then do let a <- cellOf env name;pure (ForInStep.yield ((name,a)::r)) else pure (ForInStep.yield r)):Sem _)=pure cl/\
   (∀ y c,cl.lookup y=some c->acc.lookup y=some c\/env.cells.lookup y=some c)/\(∀ y,(y,NameKind.free)∈names->∃ c,cl.lookup y=some c)/\∀ y,(∃ c,acc.lookup y=some c)->∃ c,cl.lookup y=some c
 | [],acc,_=>⟨acc,rfl,λ_ _ h=>.inl h,(λ_ h=>nomatch h),λ_ h=>h⟩
 | (nm,kd)::r,acc,h=>by
  by_cases hk:kd=.free
  ·subst hk;obtain ⟨c,hc⟩:=h nm List.mem_cons_self;obtain ⟨cl,e,p1,p2,p3⟩:=wx r ((nm,c)::acc) λy hy=>h y (List.mem_cons_of_mem _ hy);refine ⟨cl,?_,λy d hd=>?_,λy hy=>?_,λy hy=>?_⟩
   ·rw [List.forIn_cons];have z:cellOf env nm=pure c:=by unfold cellOf;rw [hc]
    simp only [z,beq_self_eq_true,if_true];exact e
   ·rcases p1 y d hd with q | q
    ·rw [List.lookup_cons] at q;cases hy:y == nm with
     | true =>
      rw [hy] at q;have e1:=beq_iff_eq.mp hy;subst e1;cases q
      exact .inr hc
     | false=>rw [hy] at q;exact .inl q
    ·exact .inr q
   ·rcases List.mem_cons.mp hy with q | q
    ·cases q
     exact p3 nm ⟨c,by rw [List.lookup_cons,beq_self_eq_true]⟩
    ·exact p2 y q
   ·obtain ⟨d,hd⟩:=hy;refine p3 y ?_;rw [List.lookup_cons];cases y == nm with
    | true=>exact ⟨c,rfl⟩
    | false=>exact ⟨d,hd⟩
  ·obtain ⟨cl,e,p1,p2,p3⟩:=wx r acc λy hy=>h y (List.mem_cons_of_mem _ hy);refine ⟨cl,?_,p1,λy hy=>?_,p3⟩
   ·rw [List.forIn_cons];have z:(kd == NameKind.free)=false:=by simpa using hk
    simp only [z,Bool.false_eq_true,if_false];exact e
   ·rcases List.mem_cons.mp hy with q | q
    ·cases q;exact absurd rfl hk
    ·exact p2 y q
theorem AB {scope:Scope} {env:Env} (h:∀ y,(y,NameKind.free)∈scope.names->∃ c,env.cells.lookup y=some c) :
  ∃ cl,closureFor scope env=pure cl/\(∀ y c,cl.lookup y=some c->env.cells.lookup y=some c)/\∀ y,(y,NameKind.free)∈scope.names->∃ c,cl.lookup y=some c:=by
 obtain ⟨cl,e,p1,p2,_⟩:=wx (env:=env) scope.names [] h;refine ⟨cl,?_,λy c hc=>(p1 y c hc).elim (λz=>by cases z) λz=>z,p2⟩;unfold closureFor;show (forIn scope.names [] _ >>= λs=>pure s)=pure cl;rw [bind_pure];exact e
theorem wq {scope:Scope} {js:List Nat} {pins:List (Addr×Obj)} {σ:St} {H:Hp} {s:Shared} (I:Inv X pins σ H s) (hf:∀ y,(y,NameKind.free)∈scope.names->X.env.kindOf y=some .cell\/X.env.kindOf y=some .free) :
  ∀ y,(y,NameKind.free)∈scope.names->∃ c,X.env.cells.lookup y=some c:=λy hy=>I.ok.has y (hf y hy)
variable {elt iter:Expr} {x:Str} {px pos:Pos} {ifs:List Expr} {scope:Scope} {wi:TI} {tc:TT} {te:TE} {js:List Nat}
theorem iT (hc:X.calm=true) (hi:PI X (.Name x px) iter wi) (hk:scope.kind=.function) (hcell:∀ y∈scope.names,y.2≠.cell) (hnames:∀ y∈scope.names,y.2=.local->scope.names.lookup y.1=some .local) (hx:(relabel scope X.env).names.lookup x=some .local)
  (hf:∀ p∈scope.names,p.2=.free->X.env.kindOf p.1=some .cell\/X.env.kindOf p.1=some .free) (hjs:fN X scope js) (hnd:(bK X x js).Nodup)
  (ht:∀ cl s' H' fp,PIf (br X scope cl (bK X x js) s' H' fp) ifs tc) (he:∀ cl s' H' fp,PE (br X scope cl (bK X x js) s' H' fp) elt te)
  (hs:∀ x,foldedSetIterable iter X.env x=pure x:=by intro _;rfl):PE X (.ListComp elt [⟨.Name x px,iter,ifs,0⟩] scope pos) (gP wi tc te js):=by
 intro pins s σ H Q I h;obtain ⟨cl,e,p1,p2⟩:=AB (wq (js:=js) I λy hy=>hf (y,.free) hy rfl);exact pe_comp hc hi hk hcell hnames hx e p1 p2 hjs hnd (ht cl) (he cl) hs pins s σ H Q I h
theorem vG {y:Str} {i:Nat} {py spos:Pos} (hN:X.N.Nodup) (hy:X.N[i]?=some y) (hyl:Loc X.env.scope y) (hyf:X.fn y=true\/X.env.scope.names.lookup y=some .local)
  (hsw:swapsWith (.ListComp elt [⟨.Name x px,iter,ifs,0⟩] scope pos) (some (.Name y py)) spos.line X.env=pure true)
  (hc:X.calm=true) (hi:PI X (.Name x px) iter wi) (hk:scope.kind=.function) (hcell:∀ y∈scope.names,y.2≠.cell) (hnames:∀ y∈scope.names,y.2=.local->scope.names.lookup y.1=some .local) (hx:(relabel scope X.env).names.lookup x=some .local)
  (hf:∀ p∈scope.names,p.2=.free->X.env.kindOf p.1=some .cell\/X.env.kindOf p.1=some .free) (hjs:fN X scope js) (hnd:(bK X x js).Nodup)
  (ht:∀ cl s' H' fp,PIf (br X scope cl (bK X x js) s' H' fp) ifs tc) (he:∀ cl s' H' fp,PE (br X scope cl (bK X x js) s' H' fp) elt te)
  (hs:∀ x,foldedSetIterable iter X.env x=pure x:=by intro _;rfl) :
  PS X (.Assign [.Name y py] (.ListComp elt [⟨.Name x px,iter,ifs,0⟩] scope pos) spos) (wO i (gP wi tc te js)):=by
 intro pins s σ H D I h;obtain ⟨cl,e,p1,p2⟩:=AB (wq (js:=js) I λy hy=>hf (y,.free) hy rfl);exact ps_setC hN hy hyl hyf hsw hc hi hk hcell hnames hx e p1 p2 hjs hnd (ht cl) (he cl) hs pins s σ H D I h
end
theorem qT:∀{ns:List Int} {n:Int},n∈ns->WData.weight (.int n)<=WData.weightAll (ns.map WData.int)
 | [],_,h=>nomatch h
 | m::r,n,h=>by
  show _<=WData.weight (.int m)+1+WData.weightAll (r.map WData.int);rcases List.mem_cons.mp h with e | e
  ·subst e;omega
  ·have:=qT (ns:=r) e;omega
theorem yM (n:Int):Builtin.Int.intBits n=WData.weight (.int n):=by
 show _=if n == 0 then 0 else n.natAbs.log2+1
 unfold Builtin.Int.intBits
 by_cases h:n=0
 ·subst h;rfl
 ·simp [h]
theorem xm {ns:List Int} (h:WData.layableAll [.list (ns.map .int)]=true):∀ n∈ns,Builtin.Int.intBits n<=1048576:=λn hn=>by
 have h1:WData.layable (.list (ns.map .int))=true:=by
  simpa [WData.layableAll] using h
 have h2:WData.weight (.list (ns.map .int))<=2 ^ 20:=by
  unfold WData.layable at h1;rw [Bool.and_eq_true,Bool.and_eq_true] at h1;exact of_decide_eq_true h1.2
 have h3:WData.weightAll (ns.map WData.int)<=2 ^ 20:=h2;have h4:=qT hn;rw [yM];omega
theorem CA {l:OpenLaw} {n k:Nat} {q:Program} {loose:List Str} {XP:(Str->Option Value)->Heap->Prop} {YP:World->Heap->Prop} {d:DefRec} {K:Params->Frag} {CX:CXT} {sp:Frag->Sp} {x:Str}
  (hn:l.most=some n) (hn2:n<=sizeLine) (hdf:d.params.defaults=[]) (hr:dF k callerA) (hY:∀(w:World) (h:Heap),YP w h->(K w.params).In h)
  (F:∀(w:World) (mg:Str->Option Value) (fa:Addr) (h:Heap),(K w.params).In h->h.Ns mainGlobals mg->mg d.name=some (.ref fa)->
   ∃ fd:FuncData,(∀(s:Shared) (u:Value),BindsTo s fd ⟨[u],[]⟩ [(x,u)])/\∀ base:Heap,(K w.params).In base->base.Ns mainGlobals mg->lS l.prog w (K w.params) mg base CX k fa fd [x] (sp (K w.params)))
  (hsp:∀(K:Frag) (H:Hp) (a:Addr) (ns:List Int),ns.length<=n->(∀ m∈ns,Builtin.Int.intBits m<=1048576)->Only H->SqL K H a (ns.map V.int)->sp K [.ref a] H (λv _=>v=.bl true) λ_ _ _=>False)
  (hCX:∀(H:Hp) (s:Shared) (e:Value) (s':Shared),CX [] H s (λ_ _ _=>False) e s'->False):WalkO q loose XP YP l.row.toRowW d [] (λf vs=>PySem.call f vs):=by
 intro w s₀ s₁ mg mb G Y fa o pm cd doc dV kV ho hd hcd hD hmg hg args vals as hpre hlay hrd hwl hlo;obtain rfl:dV=.none:=Dflts.none hD hdf;obtain rfl:kV=.none:=Dflts.noKw hD;obtain ⟨a,vs,ns,rfl,rfl,hobj,hints,hlen⟩:=Att.CK hn hpre hwl;have KX:=hY w _ Y;obtain ⟨fd,hb,hF⟩:=F w mg fa _ KX G.T.g hmg;have c:=GC KX G.T.g G.T.b G.T.builtins G.T.nolimit hg hobj hints (Nat.le_trans hlen hn2) hr hF hb (λH hO hS=>hsp (K w.params) H a ns hlen (xm hlay) hO hS) λH e s'=>hCX H s₁ e s';refine enter_call (codeAny_mono c λr s' hq=>?_);obtain ⟨rfl,h2,h3,h4⟩:=hq;exact ⟨.inl ⟨.bool true,.bool true,[],rfl,λ_=>rfl,.bool true,Att.CP l _,λ_=>⟨List.Pairwise.nil,λ_ hm=>(nomatch hm)⟩⟩,h2,h3,h4⟩
section
variable {κ:Type} [DecidableEq κ]
def cE (kvs:List (κ×V)) (k:κ):Option V:=(kvs.find? λkv=>decide (kv.1=k)).map (·.2)
def putK (kvs:List (κ×V)) (k:κ) (v:V):List (κ×V):=
 if (kvs.any λkv=>decide (kv.1=k))=true then kvs.map (λkv=>if kv.1=k then (kv.1,v) else kv) else kvs++[(k,v)]
theorem dD {p:κ×V} {r:List (κ×V)} {k:κ} (e:p.1=k):cE (p::r) k=some p.2:=by simp [cE,List.find?_cons,e]
theorem dE {p:κ×V} {r:List (κ×V)} {k:κ} (e:¬p.1=k):cE (p::r) k=cE r k:=by simp [cE,List.find?_cons,e]
theorem iL (k:κ):∀ kvs:List (κ×V),(kvs.any λkv=>decide (kv.1=k))=(cE kvs k).isSome
 | []=>rfl
 | p::r=>by
  rw [List.any_cons]
  by_cases e:p.1=k
  ·simp only [dD e,decide_eq_true e,Bool.true_or,Option.isSome_some]
  ·rw [dE e,decide_eq_false e,Bool.false_or];exact iL k r
theorem wJ (k j:κ) (y:V):∀ kvs:List (κ×V),cE (kvs.map λkv=>if kv.1=k then (kv.1,y) else kv) j=(cE kvs j).map λx=>if j=k then y else x
 | []=>rfl
 | p::r=>by
  have ih:=wJ k j y r;rw [List.map_cons]
  by_cases h:p.1=k
  ·rw [if_pos h]
   by_cases e:p.1=j
   ·rw [dD (p:=(p.1,y)) e,dD e,Option.map_some,if_pos (e.symm.trans h)]
   ·rw [dE (p:=(p.1,y)) e,dE e,ih]
  ·rw [if_neg h]
   by_cases e:p.1=j
   ·rw [dD (p:=p) e,dD e,Option.map_some,if_neg (λz=>h (e.trans z))]
   ·rw [dE (p:=p) e,dE e,ih]
theorem kM (k j:κ) (y:V):∀ kvs:List (κ×V),cE kvs k=none->cE (kvs++[(k,y)]) j=if j=k then some y else cE kvs j
 | [],_=>by
  by_cases e:k=j
  ·rw [if_pos e.symm];exact dD (p:=(k,y)) e
  ·rw [if_neg (λz=>e z.symm)];exact dE (p:=(k,y)) e
 | p::r,hn=>by
  rw [List.cons_append];have hk:¬p.1=k:=λz=>by rw [dD z] at hn;cases hn
  rw [dE hk] at hn;have ih:=kM k j y r hn
  by_cases e:p.1=j
  ·rw [dD e,dD e,if_neg (λz=>hk (e.trans z))]
  ·rw [dE e,dE e,ih]
theorem eS (kvs:List (κ×V)) (k j:κ) (y:V):cE (putK kvs k y) j=if j=k then some y else cE kvs j:=by
 unfold putK
 by_cases a:(kvs.any λkv=>decide (kv.1=k))=true
 ·rw [if_pos a,wJ];rw [iL] at a
  by_cases e:j=k
  ·obtain ⟨x,hx⟩:=Option.isSome_iff_exists.mp a;rw [if_pos e,e,hx,Option.map_some,if_pos rfl]
  ·rw [if_neg e];cases cE kvs j with
   | none=>rfl
   | some x=>rw [Option.map_some,if_neg e]
 ·rw [if_neg a];refine kM k j y kvs ?_;rw [iL] at a;cases q:cE kvs k with
  | none=>rfl
  | some x=>rw [q] at a;exact (a rfl).elim
theorem ku (kvs:List (κ×V)) (k:κ) (v:V):(putK kvs k v).length<=kvs.length+1:=by
 unfold putK;split
 ·rw [List.length_map];omega
 ·rw [List.length_append,List.length_cons,List.length_nil];omega
theorem Fi {kvs:List (κ×V)} {k:κ} (v:V) (h:cE kvs k=none):putK kvs k v=kvs++[(k,v)]:=by
 unfold putK;rw [iL,h];exact if_neg (by decide)
theorem jg.isSome_eq {o:Option V} {u:Option Value} (r:jg o u):o.isSome=u.isSome:=by
 cases o with
 | none=>cases u with
  | none=>rfl
  | some _=>exact (show False from r).elim
 | some _=>cases u with
  | none=>exact (show False from r).elim
  | some _=>rfl
theorem KV.val {kvs:List (κ×V)} {vs:List (κ×Value)} (r:KV kvs vs) (k:κ):jg (cE kvs k) (valueAt vs k):=by
 unfold KV at r
 induction r with
 | nil=>exact True.intro
 | @cons p q ps qs h t ih =>
  obtain ⟨h1,h2⟩:=h
  by_cases e:p.1=k
  ·have e':q.1=k:=h1.symm.trans e;have b:valueAt (q::qs) k=some q.2:=by simp [valueAt,List.find?_cons,e']
   rw [dD e,b];exact h2
  ·have e':¬q.1=k:=λz=>e (h1.trans z);have b:valueAt (q::qs) k=valueAt qs k:=by simp [valueAt,List.find?_cons,e']
   rw [dE e,b];exact ih
theorem KV.any {kvs:List (κ×V)} {vs:List (κ×Value)} (r:KV kvs vs) (k:κ):(kvs.any λkv=>decide (kv.1=k))=vs.any λkv=>decide (kv.1=k):=by
 unfold KV at r
 induction r with
 | nil=>rfl
 | cons h t ih=>rw [List.any_cons,List.any_cons,ih,h.1]
theorem KV.repl {kvs:List (κ×V)} {vs:List (κ×Value)} (r:KV kvs vs) (k:κ) {y:V} {u:Value} (ry:RelV y u) :
  KV (kvs.map λkv=>if kv.1=k then (kv.1,y) else kv) (vs.map λkv=>if kv.1=k then (kv.1,u) else kv):=by
 unfold KV at r ⊢
 induction r with
 | nil=>exact .nil
 | @cons p q ps qs h t ih =>
  rw [List.map_cons,List.map_cons];refine .cons ?_ ih;obtain ⟨h1,h2⟩:=h
  by_cases e:p.1=k
  ·rw [if_pos e,if_pos (h1.symm.trans e)];exact ⟨h1,ry⟩
  ·rw [if_neg e,if_neg (λz=>e (h1.trans z))];exact ⟨h1,h2⟩
theorem KV.put {kvs:List (κ×V)} {vs:List (κ×Value)} (r:KV kvs vs) (k:κ) {y:V} {u:Value} (ry:RelV y u):KV (putK kvs k y) (stored vs k u):=by
 unfold putK stored;rw [r.any k]
 by_cases e:(vs.any λkv=>decide (kv.1=k))=true
 ·rw [if_pos e,if_pos e];exact r.repl k ry
 ·rw [if_neg e,if_neg e];exact Paired.snoc r ⟨rfl,ry⟩
theorem KV.length {kvs:List (κ×V)} {vs:List (κ×Value)} (r:KV kvs vs):kvs.length=vs.length:=Paired.length r
end
theorem yu {P:Program} {w:World} {k:Key} {u:Value} (r:RelV (kV k) u):(cH P w).is k u=true:=by
 cases k with
 | inl i=>obtain ⟨t,e⟩:=(show ∃ t,u=Value.int i t from r);subst e;exact yk P w i t
 | inr x=>obtain ⟨t,e⟩:=(show ∃ t,u=Value.str x t from r);subst e;exact yj P w x t
theorem uZ {P:Program} {w:World}:∀{ks:List Key} {us:List Value},Vals (ks.map kV) us->ItemsAre (cH P w) ks us
 | [],_,r=>by rw [List.map_nil] at r;cases r;exact .nil
 | k::ks,_,r=>by
  rw [List.map_cons] at r;cases r with
  | cons h t=>exact .cons (yu h) (uZ t)
abbrev KT (H:Hp):List (List Key×V)->List (List Key×Addr×Value)->Prop:=Paired λp q=>p.1=q.1/\H q.2.1=some (.tup (p.1.map kV))/\RelV p.2 q.2.2
theorem KT.val {H:Hp} {kvs:List (List Key×V)} {xs:List (List Key×Addr×Value)} (r:KT H kvs xs) (k:List Key):jg (cE kvs k) ((atKey xs k).map (·.2)):=by
 induction r with
 | nil=>exact True.intro
 | @cons p q ps qs h t ih =>
  obtain ⟨h1,_,h2⟩:=h
  by_cases e:p.1=k
  ·have e':q.1=k:=h1.symm.trans e;have b:atKey (q::qs) k=some q.2:=by simp [atKey,List.find?_cons,e']
   rw [dD e,b];exact h2
  ·have e':¬q.1=k:=λz=>e (h1.trans z);have b:atKey (q::qs) k=atKey qs k:=by simp [atKey,List.find?_cons,e']
   rw [dE e,b];exact ih
theorem KT.repl {H:Hp} {kvs:List (List Key×V)} {xs:List (List Key×Addr×Value)} (r:KT H kvs xs) (k:List Key) {y:V} {u:Value} (ry:RelV y u) :
  KT H (kvs.map λkv=>if kv.1=k then (kv.1,y) else kv) (xs.map (putAt k u)):=by
 induction r with
 | nil=>exact .nil
 | @cons p q ps qs h t ih =>
  rw [List.map_cons,List.map_cons];refine .cons ?_ ih;obtain ⟨h1,h2,h3⟩:=h;unfold putAt
  by_cases e:p.1=k
  ·rw [if_pos e,if_pos (h1.symm.trans e)];exact ⟨h1,h2,ry⟩
  ·rw [if_neg e,if_neg (λz=>e (h1.trans z))];exact ⟨h1,h2,h3⟩
theorem KT.put {H:Hp} {kvs:List (List Key×V)} {xs:List (List Key×Addr×Value)} (r:KT H kvs xs) (k:List Key) {b:Addr} {y:V} {u:Value} (hb:H b=some (.tup (k.map kV))) (ry:RelV y u) :
  KT H (putK kvs k y) (storedH xs k b u):=by
 have e:(kvs.any λkv=>decide (kv.1=k))=(atKey xs k).isSome:=by
  rw [iL,(r.val k).isSome_eq,Option.isSome_map]
 unfold putK storedH;rw [e]
 by_cases q:(atKey xs k).isSome=true
 ·rw [if_pos q,if_pos q];exact r.repl k ry
 ·rw [if_neg q,if_neg q];exact Paired.snoc r ⟨rfl,hb,ry⟩
theorem KT.keeps {H H':Hp} {kvs:List (List Key×V)} {xs:List (List Key×Addr×Value)} (r:KT H kvs xs) (ht:∀ b ys,H b=some (.tup ys)->H' b=some (.tup ys)):KT H' kvs xs:=
 Paired.mapP r λ_ _ z=>⟨z.1,ht _ _ z.2.1,z.2.2⟩
section
variable {P:Program} {w:World} {H:Hp} {h:Heap} {a:Addr}
theorem rd_of {u:HO} (ok:HOk P w H h) (e:Rd H a u):bC P w H h a u:=e.ok ok
theorem Cf {kvs:List (Key×V)} (ok:HOk P w H h) (e:Rd H a (.dK kvs)):kvs.length<=sizeLine/\(a == sysModules)=false/\∃ vs,KV kvs vs/\h.DictOf (cH P w) a vs:=
 show bC P w H h a (.dK kvs) from rd_of ok e
theorem dk_of {kvs:List (Key×V)} (ok:HOk P w H h) (e:H a=some (.dK kvs)):kvs.length<=sizeLine/\(a == sysModules)=false/\∃ vs,KV kvs vs/\h.DictOf (cH P w) a vs:=Cf ok (.inl e)
theorem vZ {ks:List Key} (ok:HOk P w H h) (e:H a=some (.tup (ks.map kV))):(tupleKind (cH P w)).is h ks a:=by
 obtain ⟨_,its,r,o,h1,h2,n,h3⟩:=(show bC P w H h a (.tup (ks.map kV)) from ok a _ e);exact ⟨o,its.toArray,n,h1,h2,h3,by simpa using uZ r⟩
theorem Ce {kvs:List (List Key×V)} (ok:HOk P w H h) (e:Rd H a (.dT kvs)):kvs.length<=sizeLine/\(a == sysModules)=false/\
  ∃ xs,KT H kvs xs/\h.DictOfH (tupleKind (cH P w)) a xs:=by
 obtain ⟨z,y,xs,r,o,es,ep,h1,h2,h3,h4,h5⟩:=(show bC P w H h a (.dT kvs) from rd_of ok e);refine ⟨z,y,xs,r,o,es,ep,h1,h2,h3,h4,λx hx=>?_,h5⟩
 have all:∀{l:List (List Key×V)} {m:List (List Key×Addr×Value)},KT H l m->∀ x∈m,(tupleKind (cH P w)).is h x.1 x.2.1:=by
  intro l m q
  induction q with
  | nil=>intro x hx;exact nomatch hx
  | @cons p q ps qs hq t ih =>
   intro x hx;rcases List.mem_cons.mp hx with e | hx
   ·subst e;exact vZ ok (by rw [<- hq.1];exact hq.2.1)
   ·exact ih x hx
 exact all r x hx
theorem dt_of {kvs:List (List Key×V)} (ok:HOk P w H h) (e:H a=some (.dT kvs)):kvs.length<=sizeLine/\(a == sysModules)=false/\
  ∃ xs,KT H kvs xs/\h.DictOfH (tupleKind (cH P w)) a xs:=Ce ok (.inl e)
end
def jh (H:Hp) (a:Addr) (y:V) (r:Option V):Prop:=
 (∃ kvs k,Rd H a (.dK kvs)/\y=kV k/\r=cE kvs k)\/∃ kvs k b,Rd H a (.dT kvs)/\y=.ref b/\H b=some (.tup (k.map kV))/\r=cE kvs k
def Ed (H:Hp) (a:Addr) (y v:V) (H':Hp):Prop:=
 (∃ kvs k,H a=some (.dK kvs)/\y=kV k/\kvs.length < sizeLine/\H'=upd H a (.dK (putK kvs k v)))\/
 ∃ kvs k b,H a=some (.dT kvs)/\y=.ref b/\H b=some (.tup (k.map kV))/\kvs.length < sizeLine/\H'=upd H a (.dT (putK kvs k v))
theorem jh.k {H:Hp} {a:Addr} {kvs:List (Key×V)} {k:Key} (e:H a=some (.dK kvs)):jh H a (kV k) (cE kvs k):=.inl ⟨kvs,k,.inl e,rfl,rfl⟩
theorem jh.t {H:Hp} {a b:Addr} {kvs:List (List Key×V)} {k:List Key} (e:H a=some (.dT kvs)) (eb:H b=some (.tup (k.map kV))):jh H a (.ref b) (cE kvs k):=.inr ⟨kvs,k,b,.inl e,rfl,eb,rfl⟩
theorem Ed.t {H:Hp} {a b:Addr} {kvs:List (List Key×V)} {k:List Key} {v:V} (e:H a=some (.dT kvs)) (eb:H b=some (.tup (k.map kV))) (hl:kvs.length < sizeLine) :
  Ed H a (.ref b) v (upd H a (.dT (putK kvs k v))):=.inr ⟨kvs,k,b,e,rfl,eb,hl,rfl⟩
section
variable {X:Cx} {pins:List (Addr×Obj)} {σ:St} {H:Hp} {s:Shared} {a:Addr} {y v:V} {u r:Value} {o:Option V} {A:Around} {E:Value->Shared->Prop}
theorem Inv.big (I:Inv X pins σ H s):sysModules < s.heap.objs.size:=by
 have h:mainGlobals < s.heap.objs.size:=(I.mod.glob.keeps I.bk).lt;exact Nat.lt_trans (by decide) h
theorem DL {Q:Value->Shared->Prop} (hu:A.units+1 < cLine) (I:Inv X pins σ H s) (g:jh H a y (some v)) (ry:RelV y u) (h:∀ w' s',Inv X pins σ H s'->RelV v w'->Q w' s') :
  wpAny (model X.prog X.w) A (getItem (.ref a) u) Q E s:=by
 rcases g with ⟨kvs,k,e,ey,l⟩ | ⟨kvs,k,b,e,ey,eb,l⟩
 ·subst ey;obtain ⟨z,hd,vs,rel,dd⟩:=Cf I.hok e;obtain ⟨w',hw,rw'⟩:=jg.some_of (v:=v) (o:=valueAt vs k) (by rw [l];exact rel.val k);exact wpAny_getItem_of (yu ry) dd.mapOf hw (h w' _ (I.tok _) rw')
 ·subst ey;cases (show u=Value.ref b from ry)
  obtain ⟨z,hd,xs,rel,dd⟩:=Ce I.hok e;obtain ⟨w',hw,rw'⟩:=jg.some_of (v:=v) (o:=(atKey xs k).map (·.2)) (by rw [l];exact rel.val k);obtain ⟨p,hp,hp2⟩:=Option.map_eq_some_iff.mp hw;refine wpAny_getItem_heap (tupleKind_room_in1 hu) (vZ I.hok eb) dd hp ?_;rw [hp2];exact h w' _ (I.tok _) rw'
theorem d_notIn {Q:Value->Shared->Prop} (hu:A.units+1 < cLine) (I:Inv X pins σ H s) (g:jh H a y o) (ry:RelV y u) (h:∀ s',Inv X pins σ H s'->Q (.bool (!o.isSome)) s') :
  wpAny (model X.prog X.w) A (compareOp .NotIn u (.ref a)) Q E s:=by
 rcases g with ⟨kvs,k,e,ey,l⟩ | ⟨kvs,k,b,e,ey,eb,l⟩
 ·subst ey;obtain ⟨z,hd,vs,rel,dd⟩:=Cf I.hok e;refine wpAny_notIn_of (yu ry) hd dd.mapOf ?_;rw [<- (rel.val k).isSome_eq,<- l];exact h _ (I.tok _)
 ·subst ey;cases (show u=Value.ref b from ry)
  obtain ⟨z,hd,xs,rel,dd⟩:=Ce I.hok e;refine wpAny_notIn_heap (tupleKind_room_in1 hu) (vZ I.hok eb) hd dd ?_;have q:=(rel.val k).isSome_eq;rw [Option.isSome_map] at q;rw [<- q,<- l];exact h _ (I.tok _)
theorem wu {h':Heap} {t':Nat} {ob:HO} (I:Inv X pins σ H s) (mu:Mut (H a)) (hs:Heap.SameBut a s.heap h') (he:∃ q,h'.get? a=some q) (new:bC X.prog X.w (upd H a ob) h' a ob) :
  Inv X pins σ (upd H a ob) {s with heap:=h',toks:=t' }:=
 I.write (x:=a) (e:=a) mu (.inl rfl) (λb q hb z=>(hs.2 b hb).trans z) he new
theorem Hc {P:Program} {w:World} {H':Hp} {h':Heap} {kvs:List (Key×V)} {vs:List (Key×Value)} (z:kvs.length<=sizeLine) (hd:(a == sysModules)=false) (rel:KV kvs vs) (dd:h'.DictOf (cH P w) a vs) :
  bC P w H' h' a (.dK kvs):=⟨z,hd,vs,rel,dd⟩
theorem DK {H':Hp} {Q:Unit->Shared->Prop} (hu:A.units+1 < cLine) (I:Inv X pins σ H s) (g:Ed H a y v H') (ry:RelV y u) (rv:RelV v r) (h:∀ s',Inv X pins σ H' s'->Q () s') :
  wpAny (model X.prog X.w) A (setItem (.ref a) u r) Q E s:=by
 rcases g with ⟨kvs,k,e,ey,l,eH⟩ | ⟨kvs,k,b,e,ey,eb,l,eH⟩
 ·subst ey eH;obtain ⟨z,hd,vs,rel,dd⟩:=dk_of I.hok e;have hz:vs.length<=sizeLine:=by rw [<- rel.length];exact z
  have hl:(putK kvs k v).length<=sizeLine:=by have:=ku kvs k v;omega
  refine wpAny_setItem_pairs (hsz:=hz) (yu ry) dd λh' dd' hs=>h _ ?_;have he:∃ q,h'.get? a=some q:=let ⟨q,_,_,hq,_⟩:=dd';⟨q,hq⟩;exact wu I (by rw [e];exact True.intro) hs he (Hc hl hd (rel.put k rv) dd')
 ·subst ey eH;cases (show u=Value.ref b from ry)
  obtain ⟨z,hd,xs,rel,dd⟩:=dt_of I.hok e;have hz:xs.length<=sizeLine:=by rw [<- Paired.length rel];exact z
  have hl:(putK kvs k v).length<=sizeLine:=by have:=ku kvs k v;omega
  refine wpAny_setItem_heap (hsz:=hz) (tupleKind_room_in1 hu) (vZ I.hok eb) dd λh' dd' hs=>h _ ?_;obtain ⟨q,es,ep,hq,h2,h3,h4,_,h5⟩:=dd';refine wu I (by rw [e];exact True.intro) hs ⟨q,hq⟩ ⟨hl,hd,_,(rel.put k eb rv).keeps λc ys ec=>?_,q,es,ep,hq,h2,h3,h4,h5⟩;rw [aq (BI ec e (λz=>nomatch z))];exact ec
end
section
variable {X:Cx} {pins:List (Addr×Obj)} {σ:St} {H:Hp} {s:Shared} {a:Addr} {kvs:List (Key×V)} {k:Key} {u:Value} {A:Around} {E:Value->Shared->Prop}
end
def NoSl (i:Expr):Prop:=∀ ov iv,subscripted i false ov iv=operate [ov,iv] (getItem ov iv)
theorem subD_of {prog:Program} {w:World} {A:Around} {E:Value->Shared->Prop} {s:Shared} {env:Env} {value slice:Expr} {pos:Pos} {T id:String} {Q:Value->Shared->Prop}
  (hl:typeLookup (.type T) "__getitem__"=pure (some (.builtin id))) (hs:NoSl slice)
  (h:wpAny (model prog w) A (eval value env) (λo s₁=>wpAny (model prog w) A (eval slice env) (λi s₂=>s₂.TypeIs o T/\wpAny (model prog w) A (getItem o i) Q E s₂) E s₁) E s) :
  wpAny (model prog w) A (eval (.Subscript value slice pos) env) Q E s:=by
 refine Subscript_ (wpAny_mono h (λo s₁ h₁=>wpAny_mono h₁ (λi s₂ h₂=>?_) λ_ _ x=>x) λ_ _ x=>x);obtain ⟨hT,h₂⟩:=h₂;unfold subscriptTail;refine wpAny_bind ?_;rw [getitemInPython_of_ne hT.not_modules];refine wpAny_bind (wpAny_specialOf hT hl ?_)
 have fin:wpAny (model prog w) A (subscripted slice false o i) (λr s₃=>wpAny (model prog w) A (letTemporaryGo value o r >>= λ_=>pure r) Q E s₃) E s₂:=by
  rw [hs o i];exact wpAny_operating (wpAny_mono h₂ (λr s₃ h₃=>wpAny_bind (wpAny_letTemporaryGo (wpAny_pure h₃))) λ_ _ x=>x)
 first
  | exact wpAny_pure (wpAny_bind fin)
  | exact wpAny_bind (wpAny_pure (wpAny_bind fin))
  | exact wpAny_bind fin
theorem yF {X:Cx} {pins:List (Addr×Obj)} {σ:St} {H:Hp} {s:Shared} {a:Addr} {y:V} {o:Option V} (I:Inv X pins σ H s) (g:jh H a y o):s.TypeIs (.ref a) "dict":=by
 rcases g with ⟨kvs,k,e,_,_⟩ | ⟨kvs,k,b,e,_,_,_⟩
 ·obtain ⟨_,_,vs,_,dd⟩:=Cf I.hok e;exact dd.typeIs
 ·obtain ⟨_,_,xs,_,dd⟩:=Ce I.hok e;exact dd.typeIs
def tDGet (td ty:TE):TE:=λσ H Q=>td σ H λx H1=>ty σ H1 λy H2=>∃ a v,x=.ref a/\jh H2 a y (some v)/\Q v H2
def tDNotIn (ty td:TE):TE:=λσ H Q=>ty σ H λy H1=>td σ H1 λx H2=>∃ a o,x=.ref a/\jh H2 a y o/\Q (.bl (!o.isSome)) H2
def sDPut (td ty tv:TE):TS:=λD σ H=>tv σ H λv H1=>td σ H1 λx H2=>ty σ H2 λy H3=>∃ a H4,x=.ref a/\Ed H3 a y v H4/\D.nx σ H4
section
variable {X:Cx} {o i e value:Expr} {pos pos' tpos:Pos} {td ty tv:TE}
theorem qE (hu:X.A.units+1 < cLine) (ho:PE X o td) (hi:PE X i ty) (hs:NoSl i):PE X (.Subscript o i pos) (tDGet td ty):=by
 intro pins s σ H Q I h;refine subD_of PySem.F.slot_dict_getitem.lookup hs (thn (ho pins s σ H _ I h) λu s1 zz=>?_);obtain ⟨x,H1,I1,rx,q1⟩:=zz;refine thn (hi pins s1 σ H1 _ I1 q1) λiv s2 zz=>?_;obtain ⟨y,H2,I2,ry,a,v,ex,g,q2⟩:=zz;subst ex;obtain rfl:u=Value.ref a:=rx;exact ⟨yF I2 g,DL hu I2 g ry λw' s3 I3 rw'=>⟨v,H2,I3,rw',q2⟩⟩
theorem uM (hu:X.A.units+1 < cLine) (hi:PE X i ty) (ho:PE X o td):PC X .NotIn i o (tDNotIn ty td):=by
 intro pins s σ H Q I h;refine thn (hi pins s σ H _ I h) λiv s1 zz=>?_;obtain ⟨y,H1,I1,ry,q1⟩:=zz;refine thn (ho pins s1 σ H1 _ I1 q1) λu s2 zz=>?_;obtain ⟨x,H2,I2,rx,a,ov,ex,g,q2⟩:=zz;subst ex;obtain rfl:u=Value.ref a:=rx;exact d_notIn hu I2 g ry λs3 I3=>⟨.bl (!ov.isSome),H2,I3,rfl,q2⟩
theorem By (hu:X.A.units+1 < cLine) (ho:PE X o td) (hi:PE X i ty) (hv:PE X value tv) (hs:swapsWith value (some (.Subscript o i pos')) pos.line X.env=pure false) :
  PS X (.Assign [.Subscript o i pos'] value pos) (sDPut td ty tv):=by
 intro pins s σ H D I h;refine wpAny_Assign_Subscript (thn (hv pins s σ H _ I h) λr s1 zz=>?_) hs;obtain ⟨v,H1,I1,rv,q1⟩:=zz;refine thn (ho pins s1 σ H1 _ I1 q1) λu s2 zz=>?_;obtain ⟨x,H2,I2,rx,q2⟩:=zz;refine thn (hi pins s2 σ H2 _ I2 q2) λiv s3 zz=>?_;obtain ⟨y,H3,I3,ry,a,H4,ex,g,q3⟩:=zz;subst ex;obtain rfl:u=Value.ref a:=rx;exact DK hu I3 g ry rv λs4 I4=>⟨σ,H4,I4,q3⟩
end
theorem yE {P:Program} {w:World} {H:Hp} (h:Heap) (hb:sysModules < h.objs.size):bC P w H (h.push {cls:=.type "dict",data:=.dict #[] }) h.objs.size (.dK []):=
 ⟨Nat.zero_le _,beq_eq_false_iff_ne.mpr (Ne.symm (Nat.ne_of_lt hb)),[],.nil,Heap.DictOf.new h⟩
theorem Hb {P:Program} {w:World} {H:Hp} (h:Heap) (hb:sysModules < h.objs.size):bC P w H (h.push {cls:=.type "dict",data:=.dict #[] }) h.objs.size (.dT []):=
 ⟨Nat.zero_le _,beq_eq_false_iff_ne.mpr (Ne.symm (Nat.ne_of_lt hb)),[],.nil,_,#[],0,Heap.get?_push_size _ rfl,⟨rfl,rfl,rfl⟩,rfl,rfl,List.nodup_nil⟩
def Er:TE:=λ_ H Q=>∀ p,H p=none->Q (.ref p) (upd H p (.dK []))
def tDNewT:TE:=λ_ H Q=>∀ p,H p=none->Q (.ref p) (upd H p (.dT []))
section
variable {X:Cx} {pos:Pos}
theorem Fv:PE X (.Dict [] [] pos) Er:=λpins s σ H Q I h =>
 wpAny_Dict_empty ⟨.ref s.heap.objs.size,_,I.laid (a:=s.heap.objs.size) (o:=.dK []) (t':=s.toks) (λ_ _ q=>Heap.get?_push_of_some _ q) (Nat.le_refl _) (yE s.heap I.big),rfl,h _ (I.hok.fresh (Nat.le_refl _))⟩
theorem xM:PE X (.Dict [] [] pos) tDNewT:=λpins s σ H Q I h =>
 wpAny_Dict_empty ⟨.ref s.heap.objs.size,_,I.laid (a:=s.heap.objs.size) (o:=.dT []) (t':=s.toks) (λ_ _ q=>Heap.get?_push_of_some _ q) (Nat.le_refl _) (Hb s.heap I.big),rfl,h _ (I.hok.fresh (Nat.le_refl _))⟩
end
def zk:List (TE×TE)->St->Hp->(List (V×V)->Hp->Prop)->Prop
 | [],_,H,Q=>Q [] H
 | (tk,tv)::r,σ,H,Q=>tk σ H λx H1=>tv σ H1 λy H2=>zk r σ H2 λps H3=>Q ((x,y)::ps) H3
abbrev VV:List (V×V)->List (Value×Value)->Prop:=Paired λp q=>RelV p.1 q.1/\RelV p.2 q.2
def PPs (X:Cx) (pos:Pos) (keys:List (Option Expr)) (values:List Expr) (trs:List (TE×TE)):Prop:=
 ∀(
  pins:List (Addr×Obj)) (s:Shared) (σ:St) (H:Hp) (Q:List (V×V)->Hp->Prop),Inv X pins σ H s->zk trs σ H Q->
  wpAny (model X.prog X.w) X.A (evalPairs (pairTrees keys values X.env pos)) (λvs s'=>∃ ps H',Inv X pins σ H' s'/\VV ps vs/\Q ps H') X.xe s
theorem Bz {X:Cx} {pos:Pos}:PPs X pos [] [] []:=λpins s σ H Q I h=>pairTrees_nil_walk ⟨[],H,I,.nil,h⟩
theorem hI {X:Cx} {pos:Pos} {k v:Expr} {ks:List (Option Expr)} {vs:List Expr} {tk tv:TE} {trs:List (TE×TE)} (hk:PE X k tk) (hv:PE X v tv) (hr:PPs X pos ks vs trs) :
  PPs X pos (some k::ks) (v::vs) ((tk,tv)::trs):=λpins s σ H Q I h =>
 pairTrees_cons_walk (thn (hk pins s σ H _ I h) λu s1 ⟨x,H1,I1,rx,q1⟩=>thn (hv pins s1 σ H1 _ I1 q1) λw2 s2 ⟨y,H2,I2,ry,q2⟩ =>
  thn (hr pins s2 σ H2 _ I2 q2) λws s3 ⟨ps,H3,I3,rel,q3⟩=>⟨(x,y)::ps,H3,I3,.cons ⟨rx,ry⟩ rel,q3⟩)
def bX (kvs more:List (Key×V)):List (Key×V):=more.foldl (λacc kv=>putK acc kv.1 kv.2) kvs
theorem KV.merge:∀{more:List (Key×V)} {rs:List (Key×Value)} {kvs:List (Key×V)} {vs:List (Key×Value)},KV more rs->KV kvs vs->KV (bX kvs more) (merged vs rs):=by
 intro more rs kvs vs r;unfold KV at r
 induction r generalizing kvs vs with
 | nil=>intro q;exact q
 | @cons p q ps qs h t ih =>
  intro r0
  have e:KV (putK kvs p.1 p.2) (stored vs q.1 q.2):=by
   have:=r0.put p.1 h.2;rw [<- h.1];exact this
  exact ih e
theorem lZ:∀(more kvs:List (Key×V)),(bX kvs more).length<=kvs.length+more.length
 | [],kvs=>by show kvs.length<=kvs.length+0;omega
 | p::r,kvs=>by
  have h1:=lZ r (putK kvs p.1 p.2);have h2:=ku kvs p.1 p.2;show (bX (putK kvs p.1 p.2) r).length<=_;rw [List.length_cons];omega
theorem sX {P:Program} {w:World}:∀{kvs:List (Key×V)} {ws:List (Value×Value)},VV (kvs.map λkv=>(kV kv.1,kv.2)) ws->∃ rs,Carries (cH P w) ws rs/\KV kvs rs
 | [],_,r=>by rw [List.map_nil] at r;cases r;exact ⟨[],True.intro,.nil⟩
 | p::kvs,_,r=>by
  rw [List.map_cons] at r;cases r with
  | @cons a b as bs h t =>
   obtain ⟨rs,c,q⟩:=sX (P:=P) (w:=w) t;obtain ⟨b1,b2⟩:=b;exact ⟨(p.1,b2)::rs,⟨yu h.1,rfl,c⟩,.cons ⟨rfl,h.2⟩ q⟩
def tDisp (trs:List (TE×TE)):TE:=λσ H Q=>∀ p,H p=none->zk trs σ (upd H p (.dK [])) λps H2=>H2 p=some (.dK [])/\∃ kvs:List (Key×V),ps=kvs.map (λkv=>(kV kv.1,kv.2))/\kvs.length<=15/\Q (.ref p) (upd H2 p (.dK (bX [] kvs)))
theorem BB {X:Cx} {pos:Pos} {keys:List (Option Expr)} {values:List Expr} {trs:List (TE×TE)} (h:PPs X pos keys values trs) (hall:keys.all (·.isSome)=true) (hl:keys.length=values.length) (h0:keys≠[])
  (h15:keys.length<=15):PE X (.Dict keys values pos) (tDisp trs):=by
 intro pins s σ H Q I q;have hn:=I.hok.fresh (Nat.le_refl s.heap.objs.size);have I1:=I.laid (a:=s.heap.objs.size) (o:=.dK []) (h':=s.heap.push {cls:=.type "dict",data:=.dict #[] }) (t':=s.toks) (λ_ _ q=>Heap.get?_push_of_some _ q) (Nat.le_refl _) (yE s.heap I.big);refine wpAny_Dict_walk (knd:=cH X.prog X.w) hall hl h0 h15 (thn (h pins _ σ _ _ I1 (q _ hn)) λws s2 zz=>?_);obtain ⟨ps,H2,I2,rel,e,kvs,ep,lk,q2⟩:=zz;subst ep;obtain ⟨rs,c,rk⟩:=sX (P:=X.prog) (w:=X.w) rel;obtain ⟨z,hd,vs0,r0,dd⟩:=dk_of I2.hok e;cases r0
 refine ⟨rs,c,dd,λh' dd' hs=>⟨.ref s.heap.objs.size,_,?_,rfl,q2⟩⟩
 have hz:(bX [] kvs).length<=sizeLine:=by
  have h1:=lZ kvs [];rw [List.length_nil] at h1;rw [sizeLine_eq];omega
 have he:∃ q,h'.get? s.heap.objs.size=some q:=let ⟨q,_,_,hq,_⟩:=dd';⟨q,hq⟩;exact wu I2 (by rw [e];exact True.intro) hs he (Hc hz hd (rk.merge .nil) dd')
structure M1 (X:Cx) (o:Expr) (m:Str) (apos:Pos) (e:Expr) (cpos:Pos):Prop where
 base:attributeBase o m X.env (eval o X.env)=eval o X.env
 few:((backTo cpos (starEach [e] X.env)).all (λx=>!x.1) && (backToKw cpos (keywordEach [] X.env)).all (λx=>x.1.isSome)
  && decide (([e]:List Expr).length+([]:List Keyword).length+(if ([]:List Keyword).isEmpty then 0 else 1) < 30))=true
 line:(apos.endLine == cpos.line)=true
 trees:backTo cpos (starEach [e] X.env)=[(false,eval e X.env)]
section
variable {X:Cx} {pins:List (Addr×Obj)} {σ:St} {H:Hp} {s:Shared} {a:Addr} {y d:V} {u r:Value} {o:Option V} {A:Around} {E:Value->Shared->Prop}
end
section
variable {X:Cx} {o e f:Expr} {apos cpos:Pos} {td ty tx:TE}
end
section
variable {X:Cx} {pins:List (Addr×Obj)} {σ:St} {H:Hp} {s:Shared} {a:Addr} {kvs:List (Key×V)} {A:Around} {E:Value->Shared->Prop}
end
section
variable {X:Cx} {pins:List (Addr×Obj)} {σ:St} {H:Hp} {s:Shared} {a:Addr} {y:V} {u:Value} {A:Around} {E:Value->Shared->Prop}
end
section
variable {prog:Program} {w:World} {A:Around} {E:Value->Shared->Prop} {s:Shared} {R:Result->Shared->Prop} {l it S:Addr} {items:Array Value}
end
structure bx (P:Program) (w:World) (K:W.Frag) (mg:Str->Option Value) (base:Heap) (C:Addr) (m:Str) (k:Nat) (ps:List Str) (sp:Sp):Prop where
 cl:Cls K C
 ex:∃(f:Addr) (fd:FuncData),Meth K C m f/\lS P w K mg base CX0 k f fd ps sp/\Binds K fd ps []
section
variable {X:Cx} {o e:Expr} {es:List Expr} {ta te:TE} {t:TA} {m x:Str} {k:Nat} {p pos apos p2 pos2:Pos} {C:Addr}
def tMethD (X:Cx) (k:Nat) (m:Str) (ta:TE) (t:TA):TE:=λσ H Q=>ta σ H λx H1=>∃(a C dx:Addr) (fs:List (Str×V)) (ps:List Str) (sp:Sp),x=.ref a/\H1 a=some (.ins C dx fs)/\fs.lookup m=none/\
 bx X.prog X.w X.K X.mg X.base C m k ps sp/\t σ H1 λvs H2=>sp (.ref a::vs) H2 Q E0
theorem gM {pl:Sem Bool} (he:PE X o ta) (hr:dF k X.A)
  (ht:eval (.Call (.Attribute o m apos) [] [] pos) X.env=(do
   let ov <- eval o X.env
   standAt apos.atName
   let (f,first) <- holding [ov] (getMethod ov m pl)
   callWith pos f first (backTo pos (starEach [] X.env)) (backToKw pos (keywordEach [] X.env))):=by rfl) :
  PE X (.Call (.Attribute o m apos) [] [] pos) (tMethD X k m ta tNil):=by
 intro pins s σ H Q I h;refine PySem.W.methodCall_KW (pl:=pl) (thn (he pins s σ H _ I h) λu s1 zz=>?_) ht;obtain ⟨y,H1,I1,ry,a,C,dx,fs,ps,sp,ey,ea,lo,M,q⟩:=zz;subst ey;have eu:u=Value.ref a:=ry;subst eu;obtain ⟨f,fd,hm,G,hb⟩:=M.ex;refine Am I1 ea M.cl hm lo ?_;exact PySem.W.callWith_K0 (first:=[.ref a]) I1.kIn hm.kp (EX (us:=[.ref a]) (vs:=[.ref a]) G hr hb .nil FA I1 (.cons rfl .nil) q)
structure Mk0 (K:W.Frag) (C:Addr):Prop where
 makes:PySem.W.makesIn K C=true
 init:PySem.W.findIn K (.ref C) "__init__"=some (some (.builtin "object.__init__"))
 kp:PySem.W.keepIn K (.ref C)=true
def tMakeN (C:Addr):TE:=λ_ H Q=>∀ a dx,H a=none->H dx=none->dx≠a->Q (.ref a) (upd (upd H dx (.own a)) a (.ins C dx []))
theorem xK (M:Mk0 X.K C) (hg:Gl X x) (hm:X.mg x=some (.ref C)) (hdb:(x == ("__debug__":Str))=false:=by decide):PE X (.Call (.Name x p) [] [] pos) (tMakeN C):=by
 intro pins s σ H Q I h;refine wpAny_Call_Name_kw (iz I hg hm ?_ hdb);refine PySem.W.callWith_K0 I.kIn M.kp (wpAny_call ?_);have Y:=PySem.W.makes_of (M:=model X.prog X.w) I.kIn M.makes;refine Dw I.kIn M.makes M.init (λself=>PySem.W.Looks.of_pure (PySem.W.oi_bind self)) ?_;have I2:=Inv.made (C:=C) I
 have e2:((s.heap.push PySem.W.emptyDict).push (PySem.W.instObj C s.heap.objs.size)).get? (s.heap.objs.size+1)=some (PySem.W.instObj C s.heap.objs.size):=by
  have z:=Heap.get?_push_size (s.heap.push PySem.W.emptyDict) (o:=PySem.W.instObj C s.heap.objs.size) rfl
  rwa [Heap.size_push] at z
 have t1:PySem.W.Looks (model X.prog X.w) ((s.heap.push PySem.W.emptyDict).push (PySem.W.instObj C s.heap.objs.size)) (typeOf (.ref (s.heap.objs.size+1))) (.ref C):=(PySem.W.Looks.ld e2).andThen .now
 have t2:PySem.W.Looks (model X.prog X.w) ((s.heap.push PySem.W.emptyDict).push (PySem.W.instObj C s.heap.objs.size)) (isInstance (.ref (s.heap.objs.size+1)) (.type "object")) true:=
  t1.andThen (Y.top.keeps λb q z=>Heap.get?_push_of_some _ (Heap.get?_push_of_some _ z))
 have z:=h (s.heap.objs.size+1) s.heap.objs.size (I.hok.fresh (Nat.le_succ _)) (I.hok.fresh (Nat.le_refl _)) (Nat.ne_of_lt (Nat.lt_succ_self _));refine codeAny_call_builtin PySem.W.oi_plain PySem.W.entry_oi (PySem.W.check_slot (i:="object.__init__") (owner:="object") (n:="__init__") (self:=.ref (s.heap.objs.size+1)) (rest:=[]) (kw:=[]) PySem.W.oi_kind PySem.W.oi_split t2 (PySem.W.oi_args _) ?_);rw [PySem.W.oi_run];exact wpAny_pure (And.intro rfl ⟨V.ref (s.heap.objs.size+1),_,I2,rfl,z⟩)
end
end L2
namespace Mine
open PySem
inductive W5 where
 | more | less | greater | lesser | leads
def W5.str:W5->Str
 | .more=>"more" | .less=>"less" | .greater=>"greater" | .lesser=>"lesser" | .leads=>"leads"
inductive Tr where
 | never | always | lp | lq
 | no (t:Tr)
 | fold (w:W5) (a b:Tr)
def Tr.size:Tr->Nat
 | .no t=>t.size+1
 | .fold _ a b=>a.size+b.size+1
 | _=>1
theorem Tr.size_pos:∀ t:Tr,1<=t.size
 | .never | .always | .lp | .lq=>Nat.le_refl _
 | .no _=>Nat.le_add_left _ _
 | .fold _ _ _=>Nat.le_add_left _ _
def W5.worth (w:W5) (n a b:Int):Int:=match w with
 | .more=>min (a+b) n
 | .less=>max (a+b - n) 0
 | .greater=>max a b
 | .lesser=>min a b
 | .leads=>min (n - a+b) n
structure Alg (α:Type) where
 leaf:Tr->α
 no:α->α
 fold:W5->α->α->α
def Alg.val {α:Type} (G:Alg α):Tr->α
 | .no t=>G.no (G.val t)
 | .fold w a b=>G.fold w (G.val a) (G.val b)
 | t=>G.leaf t
def Tr.post:Tr->List Tr
 | .no t=>t.post++[.no t]
 | .fold w a b=>a.post++b.post++[.fold w a b]
 | t=>[t]
theorem hJ:∀ t:Tr,t.post.length=t.size
 | .no t=>by simp [Tr.post,Tr.size,hJ t]
 | .fold w a b=>by simp [Tr.post,Tr.size,hJ a,hJ b];omega
 | .never=>rfl
 | .always=>rfl
 | .lp=>rfl
 | .lq=>rfl
def Ei (n x y:Int):Alg Int where
 leaf:=λt=>match t with
  | .always=>n
  | .lp=>x
  | .lq=>y
  | _=>0
 no:=λa=>n - a
 fold:=λw a b=>w.worth n a b
abbrev Tr.worth (n x y:Int) (t:Tr):Int:=(Ei n x y).val t
end Mine
namespace L2
open PySem PySem.Spec PyProof.Rows
mutual
def Dat (K:W.Frag) (H:Hp):PyData->V->Prop
 | .none,v=>v=.non
 | .bool b,v=>v=.bl b
 | .int i,v=>v=.int i
 | .str x,v=>v=.str x
 | .tuple ds,v=>∃ a xs,v=.ref a/\SqT K H a xs/\DatAll K H ds xs
 | .list _,_=>False
 | .dict _,_=>False
def DatAll (K:W.Frag) (H:Hp):List PyData->List V->Prop
 | [],xs=>xs=[]
 | d::ds,xs=>∃ x r,xs=x::r/\Dat K H d x/\DatAll K H ds r
end
structure Tst (H H':Hp):Prop where
 t:∀ b xs,H b=some (.tup xs)->H' b=some (.tup xs)
 f:∀ b o u,H b=some (.frz o u)->H' b=some (.frz o u)
theorem Tst.trans {H H1 H2:Hp} (a:Tst H H1) (b:Tst H1 H2):Tst H H2:=⟨λc xs h=>b.t c xs (a.t c xs h),λc o u h=>b.f c o u (a.f c o u h)⟩
theorem aE.ts {H H':Hp} (e:aE H H'):Tst H H':=⟨λb xs h=>e b _ h,λb o u h=>e b _ h⟩
theorem gO {H:Hp} {l:Addr} {xs:List V} {o:HO} (e:H l=some (.lst xs)):Tst H (upd H l o):=
 ⟨λb ys h=>by rw [aq (BI h e (by intro z;cases z))];exact h,λb o u h=>by rw [aq (BI h e (by intro z;cases z))];exact h⟩
theorem SqT.ts {K:W.Frag} {H H':Hp} {a:Addr} {xs:List V} (h:SqT K H a xs) (e:Tst H H'):SqT K H' a xs:=by
 rcases h with (h | ⟨o,h⟩) | h
 ·exact .inl (.inl (e.t _ _ h))
 ·exact .inl (.inr ⟨o,e.f _ _ _ h⟩)
 ·exact .inr h
mutual
theorem Dat.ts {K:W.Frag} {H H':Hp} (e:Tst H H'):∀{d:PyData} {v:V},Dat K H d v->Dat K H' d v
 | .none,_,h=>h
 | .bool _,_,h=>h
 | .int _,_,h=>h
 | .str _,_,h=>h
 | .tuple _,_,⟨a,xs,h1,h2,h3⟩=>⟨a,xs,h1,h2.ts e,DatAll.ts e h3⟩
 | .list _,_,h=>h
 | .dict _,_,h=>h
theorem DatAll.ts {K:W.Frag} {H H':Hp} (e:Tst H H'):∀{ds:List PyData} {xs:List V},DatAll K H ds xs->DatAll K H' ds xs
 | [],_,h=>h
 | _::_,_,⟨x,r,h1,h2,h3⟩=>⟨x,r,h1,Dat.ts e h2,DatAll.ts e h3⟩
end
theorem DatAll.len {K:W.Frag} {H:Hp}:∀{ds:List PyData} {xs:List V},DatAll K H ds xs->xs.length=ds.length
 | [],_,h=>by subst h;rfl
 | _::_,_,⟨x,r,h1,_,h3⟩=>by subst h1;simp [h3.len]
theorem DatAll.get {K:W.Frag} {H:Hp}:∀{ds:List PyData} {xs:List V} {i:Nat} {d:PyData},DatAll K H ds xs->ds[i]?=some d->∃ x,xs[i]?=some x/\Dat K H d x
 | [],_,_,_,_,e=>by cases e
 | _::_,_,0,_,⟨x,r,h1,h2,_⟩,e=>by subst h1;cases e;exact ⟨x,rfl,h2⟩
 | _::_,_,i+1,_,⟨x,r,h1,_,h3⟩,e=>by
  subst h1;obtain ⟨y,e1,e2⟩:=h3.get (i:=i) (by simpa using e);exact ⟨y,by simpa using e1,e2⟩
theorem DatAll.get' {K:W.Frag} {H:Hp} {ds:List PyData} {xs:List V} {i:Nat} {x:V} (h:DatAll K H ds xs) (e:xs[i]?=some x):∃ d,ds[i]?=some d/\Dat K H d x:=by
 have hl:=h.len;have hi:=(List.getElem?_eq_some_iff.mp e).1;have hd:ds[i]?=some (ds[i]'(by omega)):=List.getElem?_eq_getElem (by omega);obtain ⟨y,e1,e2⟩:=h.get hd;rw [e] at e1;cases e1
 exact ⟨_,hd,e2⟩
theorem DatAll.append {K:W.Frag} {H:Hp}:∀{ds es:List PyData} {xs ys:List V},DatAll K H ds xs->DatAll K H es ys->DatAll K H (ds++es) (xs++ys)
 | [],_,_,_,h,g=>by subst h;exact g
 | _::_,_,_,_,⟨x,r,h1,h2,h3⟩,g=>by subst h1;exact ⟨x,_,rfl,h2,h3.append g⟩
theorem DatAll.snoc {K:W.Frag} {H:Hp} {ds:List PyData} {xs:List V} {d:PyData} {x:V} (h:DatAll K H ds xs) (g:Dat K H d x):DatAll K H (ds++[d]) (xs++[x]):=h.append ⟨x,[],rfl,g,rfl⟩
mutual
theorem Dat.reads {X:Cx} {pins:List (Addr×Obj)} {σ:St} {H:Hp} {s:Shared} (I:Inv X pins σ H s):∀(d:PyData) {v:V} {u:Value},Dat X.K H d v->RelV v u->∃ as,Reads s.heap u d as
 | .none,_,_,h,r=>by
  cases (show _=V.non from h)
  cases (show _=Value.none from r)
  exact ⟨[],.none⟩
 | .bool b,_,_,h,r=>by
  cases (show _=V.bl b from h)
  cases (show _=Value.bool b from r)
  exact ⟨[],.bool b⟩
 | .int i,_,_,h,r=>by
  cases (show _=V.int i from h)
  obtain ⟨t,q⟩:=(show ∃ t,_=Value.int i t from r);cases q
  exact ⟨[],.int i t⟩
 | .str x,_,_,h,r=>by
  cases (show _=V.str x from h)
  obtain ⟨t,q⟩:=(show ∃ t,_=Value.str x t from r);cases q
  exact ⟨[],.str x t⟩
 | .tuple ds,_,_,⟨a,xs,h1,h2,h3⟩,r=>by
  cases h1
  cases (show _=Value.ref a from r)
  obtain ⟨its,rv,⟨o,ho,hc,n,hd⟩,_⟩:=I.tuple h2;obtain ⟨as,ra⟩:=DatAll.reads I ds h3 rv;exact ⟨as,.tuple ho hc hd (by simpa using ra)⟩
 | .list _,_,_,h,_=>False.elim h
 | .dict _,_,_,h,_=>False.elim h
theorem DatAll.reads {X:Cx} {pins:List (Addr×Obj)} {σ:St} {H:Hp} {s:Shared} (I:Inv X pins σ H s):∀(ds:List PyData) {xs:List V} {us:List Value},DatAll X.K H ds xs->Vals xs us->∃ as,ReadsAll s.heap us ds as
 | [],_,_,h,r=>by
  cases (show _=([]:List V) from h)
  cases r
  exact ⟨[],.nil⟩
 | d::ds,_,_,⟨x,t,h1,h2,h3⟩,r=>by
  cases h1
  cases r with
  | cons r1 r2 =>
   obtain ⟨as,a1⟩:=Dat.reads I d h2 r1;obtain ⟨bs,b1⟩:=DatAll.reads I ds h3 r2;exact ⟨as++bs,.cons a1 b1⟩
end
def yX (K:W.Frag) (H:Hp) (d:PyData) (v:V):Prop:=Dat K H d v\/∃ ds a xs,d=.list ds/\v=.ref a/\SqL K H a xs/\DatAll K H ds xs
theorem yX.reads {X:Cx} {pins:List (Addr×Obj)} {σ:St} {H:Hp} {s:Shared} {d:PyData} {v:V} {u:Value} (I:Inv X pins σ H s) (h:yX X.K H d v) (r:RelV v u):∃ as,Reads s.heap u d as:=by
 rcases h with h | ⟨ds,a,xs,rfl,rfl,h2,h3⟩
 ·exact Dat.reads I d h r
 ·cases (show _=Value.ref a from r)
  obtain ⟨its,rv,⟨o,n,ho,hc,_,hd⟩,_⟩:=I.list h2;obtain ⟨as,ra⟩:=DatAll.reads I ds h3 rv;exact ⟨a::as,.list ho hc hd (by simpa using ra)⟩
section
variable {X:Cx}
def rEqD (K:W.Frag):R2:=λx y H Q=>∃ d e,yX K H d x/\yX K H e y/\SeqAt.shaped d=true/\SeqAt.shaped e=true/\Q (.bl (PyData.eqv d e)) H
def rNeD (K:W.Frag):R2:=λx y H Q=>∃ d e,yX K H d x/\yX K H e y/\SeqAt.shaped d=true/\SeqAt.shaped e=true/\Q (.bl (!PyData.eqv d e)) H
theorem vM (hu:X.A.units+64 < cLine):OpR X (compareOp .Eq) (rEqD X.K):=by
 intro pins s σ H x y v u Q I rx ry h;obtain ⟨d,e,hd,he,sd,se,q⟩:=h;obtain ⟨as,ra⟩:=hd.reads I rx;obtain ⟨bs,rb⟩:=he.reads I ry;exact eq_dataH ra rb sd se hu ⟨.bl _,H,I,rfl,q⟩
theorem op_neD (hu:X.A.units+64 < cLine):OpR X (compareOp .NotEq) (rNeD X.K):=by
 intro pins s σ H x y v u Q I rx ry h;obtain ⟨d,e,hd,he,sd,se,q⟩:=h;obtain ⟨as,ra⟩:=hd.reads I rx;obtain ⟨bs,rb⟩:=he.reads I ry;exact ne_dataH ra rb sd se hu ⟨.bl _,H,I,rfl,q⟩
theorem DN:jI X (.builtin "isinstance") (λxs H Q=>∃(a:Addr) (ys:List V) (c:V) (cv:Value) (k:Bool),xs=[.ref a,c]/\(∀ u,RelV c u->u=cv)/\SqT X.K H a ys/\PySem.W.kitOne X.K (.type "tuple") cv=some k/\Q (.bl k) H):=by
 intro pins s σ H xs us Q I r h;obtain ⟨a,ys,c,cv,k,rfl,hc,hq,kt,q⟩:=h;obtain ⟨u,w',rfl,r1,r2⟩:=vals2 r;have e:=hc _ r2;subst e;cases (show u=Value.ref a from r1)
 obtain ⟨its,rv,⟨o,h1,h2,_⟩,_⟩:=I.tuple hq;exact PySem.W.kia_one PySem.W.kitx_tuple I.kIn ⟨o,h1,h2⟩ kt (λz=>nomatch z) λtk=>⟨.bl k,H,I.tok tk,rfl,q⟩
theorem yK {bs:List Bool}:∀{us:List Value},Vals (bs.map V.bl) us->LSm.BoolsAre us bs:=by
 induction bs with
 | nil=>intro us r;cases r;exact .nil
 | cons b r ih =>
  intro us q;cases q with
  | cons a t =>
   cases (show _=Value.bool b from a)
   exact .cons b (ih t)
theorem yJ (hc:X.calm=true):jI X (.builtin "all") (λxs H Q=>∃(l:Addr) (bs:List Bool),xs=[.ref l]/\SqL X.K H l (bs.map V.bl)/\Q (.bl (bs.all id)) H):=by
 intro pins s σ H xs us Q I r h;obtain ⟨l,bs,rfl,hq,q⟩:=h;obtain ⟨u,rfl,rx⟩:=vals1 r;cases rx
 obtain ⟨its,rv,pl,_⟩:=I.list hq;have hl:=pl.isList;have hb:=yK rv;have hlt:l < s.heap.objs.size:=by obtain ⟨_,e,_⟩:=hl;exact Heap.lt_size e
 refine call_all_walk (wpAny_pyIter_list hl ?_)
 refine ⟨s.heap.objs.size,[s.heap.objs.size,l],[s.heap.objs.size],its.toArray.size,_,_,λi=>(bs[i]?).getD true,rfl,Walks.list (A:=X.A.in1) (I.ok.hd hc) _ l (Nat.ne_of_lt hlt) its.toArray,
  ⟨⟨_,Heap.get?_push_size _ rfl,rfl,rfl⟩,hl.push _⟩,λi v s' Q' E' hP hQ=>?_,λh' tk hk=>?_⟩
 ·obtain ⟨b,e,rfl⟩:=hb.get i v (by simpa using hP);simp only [e,Option.getD_some] at hQ;exact wpAny_truthy_bool hQ
 ·have e:((List.range its.toArray.size).all λi=>(bs[i]?).getD true)=bs.all id:=by
   rw [List.size_toArray,hb.length];exact LSm.range_all bs
  rw [e];exact ⟨.bl _,H,I.kept (t':=tk) (LSm.kept_iter hk),rfl,q⟩
theorem Hl (hc:X.calm=true):jI X (.builtin "any") (λxs H Q=>∃(l:Addr) (bs:List Bool),xs=[.ref l]/\SqL X.K H l (bs.map V.bl)/\Q (.bl (bs.any id)) H):=by
 intro pins s σ H xs us Q I r h;obtain ⟨l,bs,rfl,hq,q⟩:=h;obtain ⟨u,rfl,rx⟩:=vals1 r;cases rx
 obtain ⟨its,rv,pl,_⟩:=I.list hq;have hl:=pl.isList;have hb:=yK rv;have hlt:l < s.heap.objs.size:=by obtain ⟨_,e,_⟩:=hl;exact Heap.lt_size e
 refine call_any_walk (wpAny_pyIter_list hl ?_)
 refine ⟨s.heap.objs.size,[s.heap.objs.size,l],[s.heap.objs.size],its.toArray.size,_,_,λi=>(bs[i]?).getD false,rfl,Walks.list (A:=X.A.in1) (I.ok.hd hc) _ l (Nat.ne_of_lt hlt) its.toArray,
  ⟨⟨_,Heap.get?_push_size _ rfl,rfl,rfl⟩,hl.push _⟩,λi v s' Q' E' hP hQ=>?_,λh' tk hk=>?_⟩
 ·obtain ⟨b,e,rfl⟩:=hb.get i v (by simpa using hP);simp only [e,Option.getD_some] at hQ;exact wpAny_truthy_bool hQ
 ·have e:((List.range its.toArray.size).any λi=>(bs[i]?).getD false)=bs.any id:=by
   rw [List.size_toArray,hb.length];exact LSm.range_any bs
  rw [e];exact ⟨.bl _,H,I.kept (t':=tk) (LSm.kept_iter hk),rfl,q⟩
end
section
variable {X:Cx} {K:W.Frag}
theorem qJ (e:X.K=K):IxR X (rIxT K):=e ▸ aG
end
theorem vY {α:Type} {f:α->PyData} (h:∀ a,(f a).canLay0=true):∀ L:List α,PyData.canLayAll0 (L.map f)=true
 | []=>by simp [PyData.canLayAll0]
 | a::r=>by simp [PyData.canLayAll0,h a,vY h r]
theorem ph {α:Type} {f:α->PyData} {n:Nat} (h:∀ a,(f a).depth<=n):∀ L:List α,PyData.depthAll (L.map f)<=n
 | []=>by simp [PyData.depthAll]
 | a::r=>by
  have h1:=h a;have h2:=ph h r;simp only [List.map_cons,PyData.depthAll];omega
theorem qO {α:Type} [DecidableEq α] {f:α->PyData} (h:∀ a b,PyData.eqv (f a) (f b)=decide (a=b)):∀ L M:List α,PyData.eqvAll (L.map f) (M.map f)=decide (L=M)
 | [],[]=>by simp [PyData.eqvAll]
 | [],_::_=>by simp [PyData.eqvAll]
 | _::_,[]=>by simp [PyData.eqvAll]
 | a::r,b::t=>by
  simp only [List.map_cons,PyData.eqvAll,h a b,qO h r t]
  by_cases h1:a=b <;> by_cases h2:r=t <;> simp [h1,h2]
structure iJ (K:W.Frag) (mg:Str->Option Value) (x:Str) (ns:List Int):Prop where
 ex:∃ a,mg x=some (.ref a)/\∀ H,SqT K H a (ns.map V.int)
theorem uo {K:W.Frag} {h:Heap} {mg:Str->Option Value} {x:Str} {a:Addr} {od:Option Addr} {its:Array Value} {n:Nat} {osl:Array (Option Value)} {ns:List Int} (X:K.In h) (G:h.Ns mainGlobals mg)
  (e:PySem.W.nsIn K mainGlobals x=some (some (.ref a))) (l:K.lookup a=some ⟨.type "tuple",od,.seq its n,osl⟩) (hz:its.size<=sizeLine) (v:Vals (ns.map V.int) its.toList):iJ K mg x ns:=
 ⟨a,PySem.W.mg_of X G e,λ_=>.inr ⟨_,its,n,l,rfl,rfl,hz,v⟩⟩
theorem kN {K:W.Frag} {h:Heap} {mg:Str->Option Value} {x:Str} {v:Value} {n:Int} (X:K.In h) (G:h.Ns mainGlobals mg) (e:PySem.W.nsIn K mainGlobals x=some (some v)) (q:∃ t,v=.int n t):∃ t,mg x=some (.int n t):=by
 obtain ⟨t,rfl⟩:=q;exact ⟨t,PySem.W.mg_of X G e⟩
end L2
namespace Mine
theorem fJ (a b:Int):a < b\/b<=a:=by omega
namespace Lo
def gc (a b:Int):Int:=(Int.gcd a b:Nat)
theorem wm {a b:Int} (h:b≠0):0 < gc a b:=by
 have:=Int.gcd_pos_of_ne_zero_right a h;unfold gc;omega
theorem gc_zero {a:Int} (h:0<=a):gc a 0=a:=by
 unfold gc;rw [Int.gcd_zero_right];omega
theorem DF (a b:Int):gc a.natAbs b.natAbs=gc a b:=by
 unfold gc Int.gcd;simp
theorem gc_turn (g l:Int):gc l (g.fmod l)=gc g l:=by
 unfold gc;congr 1;rw [Int.fmod_def];rw [Int.gcd_comm g l];have:g - l*g.fdiv l=g+l*(-(g.fdiv l)):=by rw [Int.mul_neg];omega
 rw [this];exact Int.gcd_add_mul_left_right ..
theorem pY (a b:Int):gc a b∣a:=Int.gcd_dvd_left ..
theorem nR (a b:Int):gc a b∣b:=Int.gcd_dvd_right ..
def sg (t b:Int):Int:=if b < 0 then -(gc t b) else gc t b
def dw (t b:Int):Int:=t.fdiv (sg t b)
def di (t b:Int):Int:=b.fdiv (sg t b)
theorem nh {t b:Int} (h:b≠0):sg t b≠0:=by
 have:=wm (a:=t) h;unfold sg;split <;> omega
theorem xj (t b:Int):sg t b∣t:=by
 unfold sg;split
 ·exact Int.neg_dvd.mpr (pY t b)
 ·exact pY t b
theorem xk (t b:Int):sg t b∣b:=by
 unfold sg;split
 ·exact Int.neg_dvd.mpr (nR t b)
 ·exact nR t b
theorem iy (t b:Int):sg t b*dw t b=t:=by
 unfold dw;rw [Int.fdiv_eq_ediv_of_dvd (xj t b)];exact Int.mul_ediv_cancel' (xj t b)
theorem gG (t b:Int):sg t b*di t b=b:=by
 unfold di;rw [Int.fdiv_eq_ediv_of_dvd (xk t b)];exact Int.mul_ediv_cancel' (xk t b)
theorem Gz {t b:Int} (h:b≠0):0 < di t b:=by
 have e:=gG t b;have g:=wm (a:=t) h;rcases Int.lt_trichotomy (di t b) 0 with q | q | q
 ·exfalso
  by_cases c:b < 0
  ·have s:sg t b = -(gc t b):=by unfold sg;rw [if_pos c]
   have s0:sg t b < 0:=by omega
   have:=Int.mul_pos_of_neg_of_neg s0 q;omega
  ·have s:sg t b=gc t b:=by unfold sg;rw [if_neg c]
   have s0:0 < sg t b:=by omega
   have:=Int.mul_neg_of_pos_of_neg s0 q;omega
 ·rw [q] at e;simp at e;omega
 ·exact q
theorem GR (f t b:Int):gc (f*t) (f*b)=f.natAbs*gc t b:=by
 unfold gc;rw [Int.gcd_mul_left];rfl
theorem EJ {f:Int} (hf:f≠0) (t:Int) {b:Int} (hb:b≠0):sg (f*t) (f*b)=f*sg t b:=by
 unfold sg;rw [GR];rcases (by omega:0 < f\/f < 0) with p | n
 ·have e:(f.natAbs:Int)=f:=by omega
  rw [e]
  by_cases c:b < 0
  ·rw [if_pos c,if_pos (Int.mul_neg_of_pos_of_neg p c),Int.mul_neg]
  ·have:=Int.mul_pos p (show 0 < b by omega);rw [if_neg c,if_neg (by omega)]
 ·have e:(f.natAbs:Int) = -f:=by omega
  rw [e]
  by_cases c:b < 0
  ·have:=Int.mul_pos_of_neg_of_neg n c;rw [if_pos c,if_neg (by omega),Int.mul_neg,Int.neg_mul]
  ·have:=Int.mul_neg_of_neg_of_pos n (show 0 < b by omega);rw [if_neg c,if_pos (by omega),Int.neg_mul,Int.neg_neg]
theorem ym {f:Int} (hf:f≠0) (t:Int) {b:Int} (hb:b≠0):dw (f*t) (f*b)=dw t b:=by
 have h:=iy (f*t) (f*b);rw [EJ hf t hb,Int.mul_assoc] at h;have h2:=Int.eq_of_mul_eq_mul_left hf h;have h3:=iy t b;exact Int.eq_of_mul_eq_mul_left (nh hb) (h2.trans h3.symm)
theorem yn {f:Int} (hf:f≠0) (t:Int) {b:Int} (hb:b≠0):di (f*t) (f*b)=di t b:=by
 have h:=gG (f*t) (f*b);rw [EJ hf t hb,Int.mul_assoc] at h;have h2:=Int.eq_of_mul_eq_mul_left hf h;have h3:=gG t b;exact Int.eq_of_mul_eq_mul_left (nh hb) (h2.trans h3.symm)
theorem iV {s x n:Int} (hs:s≠0) (e:s*x=n):x.natAbs<=n.natAbs:=by
 rw [<- e,Int.natAbs_mul];have:1<=s.natAbs:=by omega
 exact Nat.le_mul_of_pos_left _ this
theorem lowT_le {t b:Int} (hb:b≠0):(dw t b).natAbs<=t.natAbs:=iV (nh hb) (iy t b)
theorem BP {t b:Int} (hb:b≠0):(di t b).natAbs<=b.natAbs:=iV (nh hb) (gG t b)
theorem gc_le {t b:Int} (hb:b≠0):(gc t b).natAbs<=b.natAbs:=by
 have h:=Int.gcd_dvd_right (a:=t) (b:=b);have:=Nat.le_of_dvd (by omega) (Int.natAbs_dvd_natAbs.mpr h);unfold gc;exact this
theorem sg_le {t b:Int} (hb:b≠0):(sg t b).natAbs<=b.natAbs:=by
 have:=gc_le (t:=t) hb;unfold sg;split <;> omega
theorem low_gc {t b:Int} (hb:b≠0):gc (dw t b) (di t b)=1:=by
 have h1:=iy t b;have h2:=gG t b;have h3:=GR (sg t b) (dw t b) (di t b);rw [h1,h2] at h3;have h4:=wm (a:=t) hb
 have h5:((sg t b).natAbs:Int)=gc t b:=by
  unfold sg;split <;> omega
 rw [h5] at h3;have h6:gc t b*gc (dw t b) (di t b)=gc t b*1:=by rw [<- h3,Int.mul_one]
 exact Int.eq_of_mul_eq_mul_left (by omega) h6
theorem BO {p q:Int} (hq:0 < q) (h:gc p q=1):dw p q=p/\di p q=q:=by
 have s:sg p q=1:=by unfold sg;rw [if_neg (by omega),h]
 have h1:=iy p q;have h2:=gG p q;rw [s,Int.one_mul] at h1 h2;exact ⟨h1,h2⟩
theorem EI {t b:Int} (hb:0 < b):0 < sg t b:=by
 have:=wm (a:=t) (b:=b) (by omega);unfold sg;rw [if_neg (by omega)];exact this
end Lo
structure St4 where
 p:Int
 q:Int
 m:Int
 h:Int
 deriving DecidableEq
namespace Ln
def Adj (s t:St4):Prop:=s.p*t.q < t.p*s.q/\(t.m - s.m)*s.p+(t.h - s.h)*s.q=0/\t.m≠s.m
def Ch:List St4->Prop
 | []=>True
 | [_]=>True
 | s::t::r=>Adj s t/\Ch (t::r)
theorem rule_at {m d:Int} (hd:d≠0):d*Lo.dw m d=m*Lo.di m d:=by
 have e1:=Lo.iy m d;have e2:=Lo.gG m d
 have:Lo.sg m d*(d*Lo.dw m d)=Lo.sg m d*(m*Lo.di m d):=by
  rw [<- Int.mul_assoc,Int.mul_comm (Lo.sg m d) d,Int.mul_assoc,e1,<- Int.mul_assoc,Int.mul_comm (Lo.sg m d) m,Int.mul_assoc,e2,Int.mul_comm]
 exact Int.eq_of_mul_eq_mul_left (Lo.nh hd) this
def pk (L:List St4) (p q:Int):Option St4:=L.find? λs=>!decide (s.p*q < p*s.q)
theorem xJ {p q:Int}:∀{L:List St4} {k:Nat} {s:St4},(∀ j,j < k->∀ t,L[j]?=some t->t.p*q < p*t.q)->L[k]?=some s->¬s.p*q < p*s.q->pk L p q=some s
 | [],_,_,_,h,_=>by cases h
 | t::r,0,s,_,h,n=>by
  cases h
  unfold pk;rw [List.find?_cons];simp only [decide_eq_false n,Bool.not_false]
 | t::r,k+1,s,a,h,n=>by
  have h1:=a 0 (by omega) t rfl;unfold pk;rw [List.find?_cons];simp only [decide_eq_true h1,Bool.not_true];exact xJ (L:=r) (k:=k) (λj hj u hu=>a (j+1) (by omega) u hu) h n
theorem BS {L:List St4} {s:St4} (h:L.getLast?=some s):0 < L.length/\L[L.length - 1]?=some s:=by
 rw [List.getLast?_eq_getElem?] at h;refine ⟨?_,h⟩;rcases Nat.eq_zero_or_pos L.length with z | z
 ·rw [List.length_eq_zero_iff.mp z] at h;cases h
 ·exact z
theorem Ch.get:∀{L:List St4} {i:Nat} {s t:St4},Ch L->L[i]?=some s->L[i+1]?=some t->Adj s t
 | [],_,_,_,_,h,_=>by cases h
 | [_],0,_,_,_,_,h=>by cases h
 | [_],_+1,_,_,_,h,_=>by cases h
 | _::_::_,0,_,_,c,h,g=>by cases h;cases g;exact c.1
 | _::b::r,i+1,_,_,c,h,g=>Ch.get (L:=b::r) (i:=i) c.2 h g
theorem dr {a b c d e f:Int} (hb:0 < b) (hd:0 < d) (hf:0 < f) (h1:a*d < c*b) (h2:c*f < e*d):a*f < e*b:=by
 have z1:a*d*f < c*b*f:=Int.mul_lt_mul_of_pos_right h1 hf;have z2:c*f*b < e*d*b:=Int.mul_lt_mul_of_pos_right h2 hb;have e1:c*b*f=c*f*b:=by rw [Int.mul_assoc,Int.mul_comm b f,<- Int.mul_assoc]
 have z3:a*d*f < e*d*b:=by omega
 have e2:a*d*f=d*(a*f):=by rw [Int.mul_comm a d,Int.mul_assoc]
 have e3:e*d*b=d*(e*b):=by rw [Int.mul_comm e d,Int.mul_assoc]
 rw [e2,e3] at z3;exact Int.lt_of_mul_lt_mul_left z3 (by omega)
end Ln
open PySem L2
def Sm (x:Int):Prop:=x.natAbs < 2 ^ 200
abbrev bits (x:Int):Nat:=Builtin.Int.intBits x
theorem Cp {x:Int} {m:Nat} (h:x.natAbs < 2 ^ m):bits x<=m:=intBits_le_iff.mpr h
theorem fF {a b:Int} (ha:Sm a) (hb:Sm b):IntMulOk a b:=IntMulOk.of_le (m:=200) (n:=200) (Cp ha) (Cp hb) (by decide)
theorem bc {x:Int} (h:x.natAbs<=10 ^ 50):Sm x:=Nat.lt_of_le_of_lt h (by decide+kernel)
theorem cY {t x:Int} (h0:x≠0) (h:Sm x):CDivK t x:=⟨h0,Nat.lt_of_lt_of_le ((Nat.log2_lt (by omega)).mpr h) (by decide)⟩
theorem wy (i:Int):(if i < 0 then -i else i)=(i.natAbs:Int):=by split <;> omega
theorem pA {ns:List Int} {i:Int} (h0:0<=i) (h:i < (ns.length:Int)):∃ v:Int,atI (ns.map V.int) i=some (.int v)/\v∈ns:=by
 have hi:i.toNat < ns.length:=by omega
 have ek:i=((i.toNat:Nat):Int):=by omega
 have q:atI (ns.map V.int) ((i.toNat:Nat):Int)=some (.int ns[i.toNat]):=cZ (by rw [List.getElem?_map,List.getElem?_eq_getElem hi] <;> rfl);rw [<- ek] at q;exact ⟨_,q,List.getElem_mem hi⟩
theorem at_of {xs:List V} {i:Int} {x:V} (h0:0<=i) (h:xs[i.toNat]?=some x):atI xs i=some x:=by
 have ek:i=((i.toNat:Nat):Int):=by omega
 rw [ek];exact cZ h
structure Scr (K:W.Frag) (H:Hp) (a:Addr) (ns:List Int):Prop where
 sq:(∃ o,H a=some (.frz o (.lst (ns.map V.int))))\/∃(o:Obj) (its:Array Value) (n:Nat),K.lookup a=some o/\o.cls=.type "list"/\o.dict=none/\o.data=.seq its n/\its.size<=sizeLine/\Vals (ns.map V.int) its.toList
 few:ns.length<=63
 bit:∀ n∈ns,bits n<=1048576
theorem Scr.l {K:W.Frag} {H:Hp} {a:Addr} {ns:List Int} (S:Scr K H a ns):SqL K H a (ns.map V.int):=S.sq.elim (λh=>.inl (.inr h)) .inr
theorem Scr.ts {K:W.Frag} {H H':Hp} {a:Addr} {ns:List Int} (S:Scr K H a ns) (e:Tst H H'):Scr K H' a ns:=⟨S.sq.elim (λ⟨o,h⟩=>.inl ⟨o,e.f _ _ _ h⟩) .inr,S.few,S.bit⟩
theorem scr_of {K:W.Frag} {H:Hp} {a:Addr} {ns:List Int} (O:Only H) (h:SqL K H a (ns.map V.int)) (few:ns.length<=63) (bit:∀ n∈ns,bits n<=1048576):Scr K H a ns:=by
 refine ⟨?_,few,bit⟩;rcases h with (h | h) | h
 ·exfalso;rcases O a with z | ⟨o,xs,z⟩
  ·rw [h] at z;cases z
  ·rw [h] at z;cases z
 ·exact .inl h
 ·exact .inr h
theorem ao {H:Hp} {p:Addr} (h:H p=none) (o:HO):aE H (upd H p o):=λb u q=>by rw [aq (ax q h)];exact q
theorem bp {H H':Hp} {l:Addr} (e:aE H H') (h:H l=none) (o:HO):aE H (upd H' l o):=λb u q=>by rw [aq (ax q h)];exact e b u q
def frD (p q:Int):PyData:=.tuple [.int p,.int q]
def stD (s:St4):PyData:=.tuple [frD s.p s.q,.int s.m,.int s.h]
def lnD (L:List St4):PyData:=.tuple (L.map stD)
section
variable {K:W.Frag} {H H':Hp} {a:Addr} {v e:V} {p q m h:Int} {s:St4} {L:List St4}
theorem kz (g:SqT K H a [.int p,.int q]):Dat K H (frD p q) (.ref a):=⟨a,_,rfl,g,_,_,rfl,rfl,_,_,rfl,rfl,rfl⟩
theorem nS (g:Dat K H (frD p q) v):∃ a,v=.ref a/\SqT K H a [.int p,.int q]:=by
 obtain ⟨a,xs,rfl,g,x,r,rfl,hx,y,t,rfl,hy,ht⟩:=g;cases (show x=V.int p from hx)
 cases (show y=V.int q from hy)
 cases (show t=[] from ht)
 exact ⟨a,rfl,g⟩
theorem pJ (g:SqT K H a [e,.int s.m,.int s.h]) (f:Dat K H (frD s.p s.q) e):Dat K H (stD s) (.ref a):=⟨a,_,rfl,g,_,_,rfl,f,_,_,rfl,rfl,_,_,rfl,rfl,rfl⟩
theorem dA (g:Dat K H (stD s) v):∃ a e,v=.ref a/\SqT K H a [e,.int s.m,.int s.h]/\Dat K H (frD s.p s.q) e:=by
 obtain ⟨a,xs,rfl,g,x,r,rfl,hx,y,t,rfl,hy,z,u,rfl,hz,hu⟩:=g;cases (show y=V.int s.m from hy)
 cases (show z=V.int s.h from hz)
 cases (show u=[] from hu)
 exact ⟨a,x,rfl,g,hx⟩
theorem jH (g:Dat K H (lnD L) v):∃ a xs,v=.ref a/\SqT K H a xs/\DatAll K H (L.map stD) xs:=g
theorem GA {xs:List V} (g:DatAll K H (L.map stD) xs) {i:Nat} (h:L[i]?=some s):∃ x,xs[i]?=some x/\Dat K H (stD s) x:=g.get (by rw [List.getElem?_map,h];rfl)
theorem hV {xs:List V} (g:DatAll K H (L.map stD) xs) {i:Nat} {x:V} (h:xs[i]?=some x):∃ s,L[i]?=some s/\Dat K H (stD s) x:=by
 obtain ⟨d,e1,e2⟩:=g.get' h;rw [List.getElem?_map] at e1;cases z:L[i]? with
 | none=>rw [z] at e1;cases e1
 | some s=>rw [z] at e1;cases e1;exact ⟨s,rfl,e2⟩
theorem dU {xs:List V} (g:DatAll K H (L.map stD) xs):xs.length=L.length:=by rw [g.len,List.length_map]
end
theorem GV (p q:Int):(frD p q).canLay0=true:=by simp [frD,PyData.canLay0,PyData.canLayAll0]
theorem yA (p q:Int):(frD p q).depth=1:=by simp [frD,PyData.depth,PyData.depthAll]
theorem Eu (s:St4):(stD s).canLay0=true:=by simp [stD,PyData.canLay0,PyData.canLayAll0,GV]
theorem wR (s:St4):(stD s).depth=2:=by simp [stD,PyData.depth,PyData.depthAll,yA]
theorem uS (L:List St4):SeqAt.shaped (lnD L)=true:=by
 have h1:=vY Eu L;have h2:=ph (f:=stD) (n:=2) (λs=>by rw [wR];exact Nat.le_refl _) L;have h3:PyData.depthAll (L.map stD)+1<=64:=by omega
 simp only [SeqAt.shaped,lnD,PyData.canLay0,h1,PyData.depth,Bool.true_and];exact decide_eq_true h3
theorem Ag (L:List St4):SeqAt.shaped (.list (L.map stD))=true:=by
 have h1:=vY Eu L;have h2:=ph (f:=stD) (n:=2) (λs=>by rw [wR];exact Nat.le_refl _) L;have h3:PyData.depthAll (L.map stD)+1<=64:=by omega
 simp only [SeqAt.shaped,PyData.canLay0,h1,PyData.depth,Bool.true_and];exact decide_eq_true h3
theorem bR (p q:Int):SeqAt.shaped (frD p q)=true:=by simp [SeqAt.shaped,GV,yA]
theorem kA (p q r s:Int):PyData.eqv (frD p q) (frD r s)=decide (p=r/\q=s):=by
 simp only [frD,PyData.eqv,PyData.eqvAll,Bool.and_true]
 by_cases h1:p=r <;> by_cases h2:q=s <;> simp [h1,h2]
theorem Ex (s t:St4):PyData.eqv (stD s) (stD t)=decide (s=t):=by
 obtain ⟨p,q,m,h⟩:=s;obtain ⟨p',q',m',h'⟩:=t;simp only [stD,PyData.eqv,PyData.eqvAll,Bool.and_true,kA,St4.mk.injEq]
 by_cases h1:p=p' <;> by_cases h2:q=q' <;> by_cases h3:m=m' <;> by_cases h4:h=h' <;> simp [h1,h2,h3,h4]
theorem ln_eqv (L M:List St4):PyData.eqv (lnD L) (lnD M)=decide (L=M):=by
 simp only [lnD,PyData.eqv];exact qO Ex L M
mutual
theorem GY:∀ d:PyData,d.canLay0=true->PyData.eqv d d=true
 | .none,_=>by simp [PyData.eqv]
 | .bool _,_=>by simp [PyData.eqv]
 | .int _,_=>by simp [PyData.eqv]
 | .str _,_=>by simp [PyData.eqv]
 | .list xs,h=>by simp only [PyData.eqv];exact kB xs (by simpa [PyData.canLay0] using h)
 | .tuple xs,h=>by simp only [PyData.eqv];exact kB xs (by simpa [PyData.canLay0] using h)
 | .dict _,h=>by simp [PyData.canLay0] at h
theorem kB:∀ xs:List PyData,PyData.canLayAll0 xs=true->PyData.eqvAll xs xs=true
 | [],_=>by simp [PyData.eqvAll]
 | x::xs,h=>by
  have h':x.canLay0=true/\PyData.canLayAll0 xs=true:=by simpa [PyData.canLayAll0] using h
  simp [PyData.eqvAll,GY x h'.1,kB xs h'.2]
end
def fixO:HO->Bool
 | .tup _=>true
 | .ins _ _ _=>true
 | .own _=>true
 | .frz _ _=>true
 | _=>false
def Kp (H H':Hp):Prop:=∀ b o,H b=some o->fixO o=true->H' b=some o
theorem Kp.trans {H H1 H2:Hp} (a:Kp H H1) (b:Kp H1 H2):Kp H H2:=λc o h f=>b c o (a c o h f) f
theorem Kp.of {H H':Hp} (e:aE H H'):Kp H H':=λb o h _=>e b o h
theorem kp_new {H:Hp} {p:Addr} (h:H p=none) (o:HO):Kp H (upd H p o):=Kp.of (λb u z=>by rw [aq (ax z h)];exact z)
theorem cW {H:Hp} {l:Addr} {o u:HO} (h:H l=some o) (f:fixO o=false):Kp H (upd H l u):=λb z hb fz=>by
 rw [aq (BI hb h λe=>by rw [e,f] at fz;cases fz)]
 exact hb
theorem gf {K:W.Frag} {t:Value}:PySem.W.kitOne K t t=some true:=by unfold PySem.W.kitOne;rw [if_pos (beq_self_eq_true t)]
def SB (c:V) (H H':Hp):Prop:=∀ b o,H b=some o->V.ref b≠c->H' b=some o
theorem SB.trans {c:V} {H H1 H2:Hp} (a:SB c H H1) (b:SB c H1 H2):SB c H H2:=λd o h n=>b d o (a d o h n) n
theorem SB.of {c:V} {H H':Hp} (e:aE H H'):SB c H H':=λb o h _=>e b o h
theorem mw {a:Addr} (H:Hp) (u:HO):SB (.ref a) H (upd H a u):=λb o h n=>by
 rw [aq λz=>n (by rw [z])];exact h
inductive Tu (H:Hp):Addr->Tr->Prop where
 | never {a}:H a=some (.tup [.str "never"])->Tu H a .never
 | always {a}:H a=some (.tup [.str "always"])->Tu H a .always
 | lp {a}:H a=some (.tup [.str "p"])->Tu H a .lp
 | lq {a}:H a=some (.tup [.str "q"])->Tu H a .lq
 | no {a b t}:H a=some (.tup [.str "not",.ref b])->Tu H b t->Tu H a (.no t)
 | fold {a b d w x y}:H a=some (.tup [.str (W5.str w),.ref b,.ref d])->Tu H b x->Tu H d y->Tu H a (.fold w x y)
theorem Tu.to {H H':Hp} {a:Addr} {t:Tr} (h:Tu H a t) (e:Kp H H'):Tu H' a t:=by
 induction h with
 | never h=>exact .never (e _ _ h rfl)
 | always h=>exact .always (e _ _ h rfl)
 | lp h=>exact .lp (e _ _ h rfl)
 | lq h=>exact .lq (e _ _ h rfl)
 | no h _ ih=>exact .no (e _ _ h rfl) ih
 | fold h _ _ i1 i2=>exact .fold (e _ _ h rfl) i1 i2
structure CCs where
 (ne al le no mo ls gr lr ld:Addr)
def CCs.fold (c:CCs):W5->Addr
 | .more=>c.mo | .less=>c.ls | .greater=>c.gr | .lesser=>c.lr | .leads=>c.ld
def nV (x:V):List (Str×V):=[("name",x)]
def sU (x:V):List (Str×V):=[("part",x)]
def tZ (x y:V):List (Str×V):=[("one",x),("other",y)]
inductive Ob (c:CCs) (H:Hp):Addr->Tr->Prop where
 | never {a dx}:H a=some (.ins c.ne dx [])->Ob c H a .never
 | always {a dx}:H a=some (.ins c.al dx [])->Ob c H a .always
 | lp {a dx}:H a=some (.ins c.le dx (nV (.str "p")))->Ob c H a .lp
 | lq {a dx}:H a=some (.ins c.le dx (nV (.str "q")))->Ob c H a .lq
 | no {a dx b t}:H a=some (.ins c.no dx (sU (.ref b)))->Ob c H b t->Ob c H a (.no t)
 | fold {a dx b d w x y}:H a=some (.ins (c.fold w) dx (tZ (.ref b) (.ref d)))->Ob c H b x->Ob c H d y->Ob c H a (.fold w x y)
theorem Ob.to {c:CCs} {H H':Hp} {a:Addr} {t:Tr} (h:Ob c H a t) (e:Kp H H'):Ob c H' a t:=by
 induction h with
 | never h=>exact .never (e _ _ h rfl)
 | always h=>exact .always (e _ _ h rfl)
 | lp h=>exact .lp (e _ _ h rfl)
 | lq h=>exact .lq (e _ _ h rfl)
 | no h _ ih=>exact .no (e _ _ h rfl) ih
 | fold h _ _ i1 i2=>exact .fold (e _ _ h rfl) i1 i2
inductive aZ {α β:Type} (R:α->β->Prop):List α->List β->Prop where
 | nil:aZ R [] []
 | cons {a b as bs}:R a b->aZ R as bs->aZ R (a::as) (b::bs)
theorem aZ.imp {α β:Type} {R R':α->β->Prop} (f:∀ a b,R a b->R' a b) {as:List α} {bs:List β} (h:aZ R as bs):aZ R' as bs:=by
 induction h with
 | nil=>exact .nil
 | cons r _ ih=>exact .cons (f _ _ r) ih
theorem aZ.app {α β:Type} {R:α->β->Prop} {as cs:List α} {bs ds:List β} (h:aZ R as bs) (k:aZ R cs ds):aZ R (as++cs) (bs++ds):=by
 induction h with
 | nil=>exact k
 | cons r _ ih=>exact .cons r ih
theorem aZ.rev {α β:Type} {R:α->β->Prop} {as:List α} {bs:List β} (h:aZ R as bs):aZ R as.reverse bs.reverse:=by
 induction h with
 | nil=>exact .nil
 | cons r _ ih=>rw [List.reverse_cons,List.reverse_cons];exact ih.app (.cons r .nil)
theorem aZ.len {α β:Type} {R:α->β->Prop} {as:List α} {bs:List β} (h:aZ R as bs):as.length=bs.length:=by
 induction h with
 | nil=>rfl
 | cons _ _ ih=>rw [List.length_cons,List.length_cons,ih]
theorem aZ.get {α β:Type} {R:α->β->Prop} {as:List α} {bs:List β} (h:aZ R as bs):∀(i:Nat) (a:α),as[i]?=some a->∃ b,bs[i]?=some b/\R a b:=by
 induction h with
 | nil=>intro i a z;cases z
 | cons r _ ih =>
  intro i x z;cases i with
  | zero=>cases z;exact ⟨_,rfl,r⟩
  | succ i=>exact ih i x z
theorem aZ.last {α β:Type} {R:α->β->Prop} {as:List α} {bs:List β} (h:aZ R as bs) (n:as≠[]):∃ as' a bs' b,as=as'++[a]/\bs=bs'++[b]/\R a b/\aZ R as' bs':=by
 have h':=h.rev;have n':as.reverse≠[]:=λz=>n (List.reverse_eq_nil_iff.mp z);have e1:as=as.reverse.reverse:=(List.reverse_reverse _).symm;have e2:bs=bs.reverse.reverse:=(List.reverse_reverse _).symm;rw [e1,e2]
 revert h' n'
 generalize as.reverse=u;generalize bs.reverse=v;intro h' n';cases h' with
 | nil=>exact absurd rfl n'
 | cons r k=>exact ⟨_,_,_,_,List.reverse_cons,List.reverse_cons,r,k.rev⟩
theorem kS {α:Type} (ys:List α) (a:α):(ys++[a])[(ys++[a]).length - 1]?=some a:=by simp
abbrev ObV (c:CCs) (H:Hp) (v:V) (t:Tr):Prop:=∃ a,v=.ref a/\Ob c H a t
theorem ObV.to {c:CCs} {H H':Hp} (e:Kp H H') (v:V) (t:Tr) (h:ObV c H v t):ObV c H' v t:=by
 obtain ⟨a,r,o⟩:=h;exact ⟨a,r,o.to e⟩
def Tr.kids:Tr->List Tr
 | .no t=>[t]
 | .fold _ a b=>[a,b]
 | _=>[]
def bB (ts:List Tr):Nat:=(ts.map Tr.size).sum
theorem oF (a b:List Tr):bB (a++b)=bB a+bB b:=by simp [bB]
theorem uW (t:Tr):bB t.kids+1=t.size:=by cases t <;> simp [bB,Tr.kids,Tr.size]
theorem Fo (t:Tr):t.post.reverse=t::(t.kids.reverse.flatMap λx=>x.post.reverse):=by
 cases t <;> simp [Tr.post,Tr.kids]
inductive Pc where
 | w (x:Str)
 | t (t:Tr)
def Tr.pieces:Tr->List Pc
 | .never=>[.w "never"]
 | .always=>[.w "always"]
 | .lp=>[.w "p"]
 | .lq=>[.w "q"]
 | .no t=>[.w "not",.t t]
 | .fold w a b=>[.w "(",.t a,.w w.str,.t b,.w ")"]
inductive PcV (c:CCs) (H:Hp):V->Pc->Prop where
 | w (x:Str):PcV c H (.str x) (.w x)
 | t {a:Addr} {t:Tr}:Ob c H a t->PcV c H (.ref a) (.t t)
theorem oX (i j:Int):(if j < i then j else i)=min i j:=by
 rw [Int.min_def];split <;> split <;> omega
theorem vT (i j:Int):(if j > i then j else i)=max i j:=by
 rw [Int.max_def];split <;> split <;> omega
end Mine
namespace L2
open PySem PySem.Spec PyProof.Rows
structure bh (K:W.Frag) (C:Addr) (m qual:Str) (st:Stmt):Prop where
 cl:Cls K C
 ex:∃(f:Addr) (fd:FuncData),Meth K C m f/\Fun K m qual st f fd
variable {P:Program} {w:World} {K:W.Frag} {mg:Str->Option Value} {base:Heap}
theorem bN {C:Addr} {m qual:Str} {st:Stmt} {N ps:List Str} {k:Nat} {sp:Sp} (T:bh K C m qual st) (S:aA N ps (ag st))
  (bd:∀(kV doc pm:Value) (an:Option Addr) (cdv ct:Value) (us:List Value),us.length=ps.length->bindArgs (PySem.W.fnOf m qual (eI st) (bf st) (ag st) .none kV doc pm an cdv ct) ⟨us,[]⟩=pure (ps.zip us))
  (len:∀ vs H Q E,sp vs H Q E->vs.length=ps.length)
  (body:∀(f:Addr) (cdv:Value) (A:Around) (outer:List Env) (s:Shared) (H:Hp) (vs:List V) (Q:VK) (E:XK),dF k (A.deeper (envOfC qual (ag st) s.heap.objs.size f cdv))->sp vs H Q E->
   ∃ t,PSs (cR CX0 P w K mg base N qual (ag st) f cdv A outer s H E).nox (bf st) t/\t {nx:=λ_ H'=>Q .non H',rt:=Q} (start N vs) H) :
  bx P w K mg base C m (k+1) ps sp:=by
 obtain ⟨f,fd,hm,G⟩:=T.ex;exact ⟨T.cl,f,fd,hm,G.ok S len (body f),G.binds bd⟩
structure MkF (K:W.Frag) (mg:Str->Option Value) (x:Str) (C:Addr) (qual:Str) (st:Stmt):Prop where
 cl:Cls K C
 mg_:mg x=some (.ref C)
 ex:∃(f:Addr) (fd:FuncData),Mk K C f/\Fun K "__init__" qual st f fd
structure tG (P:Program) (w:World) (K:W.Frag) (mg:Str->Option Value) (base:Heap) (x:Str) (C:Addr) (k:Nat) (ps:List Str) (sp:Sp):Prop where
 mg_:mg x=some (.ref C)
 ex:∃(f:Addr) (fd:FuncData),Mk K C f/\lS P w K mg base CX0 k f fd ps sp/\Binds K fd ps []
theorem Gq {C:Addr} {x qual:Str} {st:Stmt} {N ps:List Str} {k:Nat} {sp:Sp} (T:MkF K mg x C qual st) (S:aA N ps (ag st))
  (bd:∀(kV doc pm:Value) (an:Option Addr) (cdv ct:Value) (us:List Value),us.length=ps.length->bindArgs (PySem.W.fnOf "__init__" qual (eI st) (bf st) (ag st) .none kV doc pm an cdv ct) ⟨us,[]⟩=pure (ps.zip us))
  (len:∀ vs H Q E,sp vs H Q E->vs.length=ps.length)
  (body:∀(f:Addr) (cdv:Value) (A:Around) (outer:List Env) (s:Shared) (H:Hp) (vs:List V) (Q:VK) (E:XK),dF k (A.deeper (envOfC qual (ag st) s.heap.objs.size f cdv))->sp vs H Q E->
   ∃ t,PSs (cR CX0 P w K mg base N qual (ag st) f cdv A outer s H E).nox (bf st) t/\t {nx:=λ_ H'=>Q .non H',rt:=Q} (start N vs) H) :
  tG P w K mg base x C (k+1) ps sp:=by
 obtain ⟨f,fd,hm,G⟩:=T.ex;exact ⟨T.mg_,f,fd,hm,G.ok S len (body f),G.binds bd⟩
section
variable {X:Cx} {x:Str} {C:Addr} {k:Nat} {ps:List Str} {sp:Sp} {e:Expr} {es:List Expr} {t:TA} {p pos:Pos}
theorem rY (M:tG X.prog X.w X.K X.mg X.base x C k ps sp) (hr:dF (k+1) X.A) (hg:Gl X x) (ha:PA X (e::es) t) (hdb:(x == ("__debug__":Str))=false:=by decide)
  (he:starEach (e::es) X.env=(false,eval e X.env)::starEach es X.env:=by rfl) (hpl:(backTo pos (starEach es X.env)).any (·.1)=false:=by rfl) :
  PE X (.Call (.Name x p) (e::es) [] pos) (tMake C sp [] E0 t):=by
 obtain ⟨f,fd,hm,G,hb⟩:=M.ex;exact pe_make hm G hr hg M.mg_ hb .nil FA ha hdb he hpl
end
end L2
namespace Mine
open PySem L2
def CCs.of (c:CCs):Tr->Addr
 | .never=>c.ne
 | .always=>c.al
 | .lp=>c.le
 | .lq=>c.le
 | .no _=>c.no
 | .fold w _ _=>c.fold w
theorem uR (x:V):(nV x).lookup ("name":Str)=some x:=by unfold nV;rw [List.lookup_cons,beq_self_eq_true]
theorem uQ (x:V):(sU x).lookup ("part":Str)=some x:=by unfold sU;rw [List.lookup_cons,beq_self_eq_true]
theorem yo (x y:V):(tZ x y).lookup ("one":Str)=some x:=by unfold tZ;rw [List.lookup_cons,beq_self_eq_true]
theorem sG (x y:V):(tZ x y).lookup ("other":Str)=some y:=by
 unfold tZ;rw [List.lookup_cons,show (("other":Str) == ("one":Str))=false by decide+kernel];show List.lookup ("other":Str) [("other",y)]=some y;rw [List.lookup_cons,beq_self_eq_true]
abbrev NoF (m:Str):Prop:=m≠"name"/\m≠"part"/\m≠"one"/\m≠"other"
theorem fH {m a:Str} {x:V} {r:List (Str×V)} (h:m≠a) (k:r.lookup m=none):((a,x)::r).lookup m=none:=by
 rw [List.lookup_cons,beq_eq_false_iff_ne.mpr h];exact k
theorem Ob.cls {c:CCs} {H:Hp} {a:Addr} {t:Tr} (h:Ob c H a t):∃ dx fs,H a=some (.ins (c.of t) dx fs)/\∀ m,NoF m->fs.lookup m=none:=by
 cases h with
 | never h=>exact ⟨_,_,h,λm _=>rfl⟩
 | always h=>exact ⟨_,_,h,λm _=>rfl⟩
 | lp h=>exact ⟨_,_,h,λm n=>fH n.1 rfl⟩
 | lq h=>exact ⟨_,_,h,λm n=>fH n.1 rfl⟩
 | no h _=>exact ⟨_,_,h,λm n=>fH n.2.1 rfl⟩
 | fold h _ _=>exact ⟨_,_,h,λm n=>fH n.2.2.1 (fH n.2.2.2 rfl)⟩
structure Fx (K:W.Frag) (c:CCs):Prop where
 cl:∀ t,Cls K (c.of t)
 ha:∀ t,PySem.W.findIn K (.ref (c.of t)) "__class__"=some (some (.builtin "object.__class__"))
 hm:∀ t,PySem.W.mroIn K (c.of t) (.type "object")=some true
 ks:∀ t,PySem.W.kitOne K (.ref (c.of t)) (.type "str")=some false
 hn:PySem.W.specialIn K (.builtin "object.__class__") "__get__"=some (some (.builtin "getset_descriptor.__get__"))
 tk:PySem.W.takesIn K (.builtin "object.__class__")=some true
 nName:bL K c.le "name"
 nPart:bL K c.no "part"
 nOne:∀ w,bL K (c.fold w) "one"
 nOther:∀ w,bL K (c.fold w) "other"
def Tr.word:Tr->Str
 | .never=>"never"
 | .always=>"always"
 | .lp=>"p"
 | .lq=>"q"
 | .no _=>"not"
 | .fold u _ _=>u.str
def vw (c:CCs) (t:Tr):Sp:=λvs H Q _=>∃ a,vs=[.ref a]/\Ob c H a t/\∀ l us,H l=none->aZ (ObV c H) us t.kids->Q (.ref l) (upd H l (.lst us))
def mY (c:CCs) (t:Tr):Sp:=λvs H Q _=>∃ a,vs=[.ref a]/\Ob c H a t/\∀ l us,H l=none->aZ (PcV c H) us t.pieces->Q (.ref l) (upd H l (.lst us))
def eT (c:CCs) (t:Tr):Sp:=λvs H Q _=>∃ a:Addr,vs=[.ref a]/\Ob c H a t/\Q (.str t.word) H
def iM (w:W5):Sp:=λvs H Q _=>∃(a:Addr) (n x y:Int),vs=[.ref a,.int n,.int x,.int y]/\Q (.int (w.worth n x y)) H
def zp (c:CCs) (t:Tr):Sp:=λvs H Q _=>∃ a,vs=[.ref a]/\Ob c H a t/\t.size<=1000/\∀ l us H',aE H H'->H l=none->H' l=some (.lst us)->aZ (ObV c H') us t.post->Q (.ref l) H'
def kR (C:Addr) (fl:V->List (Str×V)):Sp:=λvs H Q _=>∃(a dx:Addr) (x:V),vs=[.ref a,x]/\H a=some (.ins C dx [])/\Q .non (upd H a (.ins C dx (fl x)))
def kQ (C:Addr):Sp:=λvs H Q _=>∃(a dx:Addr) (x y:V),vs=[.ref a,x,y]/\H a=some (.ins C dx [])/\Q .non (upd H a (.ins C dx (tZ x y)))
theorem Fj (x y:V):gZ "other" y (gZ "one" x [])=tZ x y:=by
 show (if ("one":Str)="other" then [(("one":Str),y)] else (("one":Str),x)::gZ "other" y [])=_;rw [if_neg (by decide+kernel)];rfl
def W5.cls:W5->Str
 | .more=>"More" | .less=>"Less" | .greater=>"Greater" | .lesser=>"Lesser" | .leads=>"Leads"
theorem jK {H:Hp} {l p:Addr} {o:HO} (h:upd H l o p=none):H p=none:=by
 by_cases e:p=l
 ·subst e;rw [ae] at h;cases h
 ·rw [aq e] at h;exact h
theorem kW {H:Hp} {C z dz:Addr} {fs:List (Str×V)} (hz:H z=none) (hd:H dz=none) (ne:dz≠z):aE H (upd (upd (upd H dz (.own z)) z (.ins C dz [])) z (.ins C dz fs)):=λb o h=>by
 rw [aq (ax h hz),aq (ax h hz),aq (ax h hd)];exact h
theorem Dx {c:CCs} {H:Hp} {z dz b d:Addr} {u:W5} {t t':Tr} {Q:VK} (hz:H z=none) (hd:H dz=none) (ne:dz≠z) (o:Ob c H b t) (o':Ob c H d t') (q:∀ e H',aE H H'->Ob c H' e (.fold u t t')->Q (.ref e) H') :
  Q (.ref z) (upd (upd (upd H dz (.own z)) z (.ins (c.fold u) dz [])) z (.ins (c.fold u) dz (tZ (.ref b) (.ref d)))):=by
 have sm:=kW (C:=c.fold u) (fs:=tZ (.ref b) (.ref d)) hz hd ne;exact q z _ sm (.fold ae (o.to (Kp.of sm)) (o'.to (Kp.of sm)))
theorem yC:∀ ts:List Tr,(ts.flatMap λx=>x.post.reverse).length=bB ts
 | []=>rfl
 | t::r=>by
  rw [List.flatMap_cons,List.length_append,List.length_reverse,hJ,yC r];simp [bB]
theorem CJ (ts:List Tr):bB ts.reverse=bB ts:=by simp [bB]
theorem iY:∀ ts:List Tr,ts.length<=bB ts
 | []=>Nat.le_refl _
 | t::r=>by
  have h:=iY r;have p:=t.size_pos;have e:bB (t::r)=t.size+bB r:=by simp [bB]
  rw [e,List.length_cons];omega
theorem nP (t:Tr):t.kids.length<=2:=by cases t <;> simp [Tr.kids]
theorem drop_at {α:Type} {xs:List α} {i:Nat} {x:α} (h:xs[i]?=some x):xs.drop i=x::xs.drop (i+1):=by
 obtain ⟨hi,e⟩:=List.getElem?_eq_some_iff.mp h;rw [List.drop_eq_getElem_cons hi,e]
theorem ite_yes {a b:Str} {A B:Prop} (h:a=b) (k:A):if decide (V.str a=V.str b)=true then A else B:=by
 rw [decide_eq_true (congrArg V.str h),if_pos rfl];exact k
theorem ite_no {a b:Str} {A B:Prop} (h:a≠b) (k:B):if decide (V.str a=V.str b)=true then A else B:=by
 rw [decide_eq_false (λz=>h (V.str.inj z)),if_neg Bool.false_ne_true];exact k
theorem GN {x:V} {xs:List V} {A B:Prop} (h:inV x xs=true) (k:A):if (if false=true then !inV x xs else inV x xs)=true then A else B:=by
 rw [if_neg Bool.false_ne_true,h,if_pos rfl];exact k
theorem in_no {x:V} {xs:List V} {A B:Prop} (h:inV x xs=false) (k:B):if (if false=true then !inV x xs else inV x xs)=true then A else B:=by
 rw [if_neg Bool.false_ne_true,h,if_neg Bool.false_ne_true];exact k
theorem Scr.to {K:W.Frag} {H H':Hp} {a:Addr} {ns:List Int} (h:Scr K H a ns) (e:aE H H'):Scr K H' a ns:=h.ts e.ts
def wV:Sp:=λvs H Q _=>∃ i:Int,vs=[.int i]/\Q (.bl true) H
end Mine
namespace L2
open PySem PySem.Spec PyProof.Rows
namespace HT
variable {prog:Program} {w:World} {A:Around} {E:Value->Shared->Prop} {s:Shared}
theorem Aj {t sl:Addr} {items:Array Value} {vl vu:Value} {lo hi:Option Int} {Q:Value->Shared->Prop} (ht:IsTup s.heap t items) (hs:s.heap.IsSliceOf sl vl vu .none) (pl:IsPart vl lo) (pu:IsPart vu hi)
  (h0:_root_.HT.sIx items.size 0 lo=0) (h1:_root_.HT.sIx items.size items.size hi=items.size) (h:Q (.ref t) s):wpAny (model prog w) A (getItem (.ref t) (.ref sl)) Q E s:=by
 obtain ⟨os,hos,hcs,hds⟩:=id hs;have hTs:s.TypeIs (.ref sl) "slice":=⟨os,hos,hcs⟩;unfold getItem
 try with_reducible refine wpAny_holding ?_
 first | refine wpAny_bind (wpAny_pure ?_) | skip
 refine wpAny_bind (wpAny_sequenceKey ht.typeIs (by decide) ?_)
 refine wpAny_bind (wpAny_callSpecial?_slot (name:=Str.ofString "__getitem__") ht.typeIs PyProof.Rows.slot_tuple_getitem
  (wpAny_call_entry PyProof.Rows.slot_tuple_getitem ht.typeIs PyProof.Rows.entry_tuple_getitem ?_ (PyProof.Rows.args_tuple_getitem _ _)))
 show wpAny _ _ (Builtin.Tuple.tupleItemsOf (.ref t) >>= _) _ _ s;refine wpAny_bind (PyProof.Rows.tupleItemsOf_ ht ?_);refine wpAny_bind (wpAny_typeOf hTs ?_);rw [if_pos (by decide)];refine wpAny_bind (_root_.HT.iN hs pl pu ?_);have yes:(((_root_.HT.sIx items.size 0 lo:Nat):Int) == 0 && (1:Int) == 1 && (_root_.HT.sIx items.size items.size hi - _root_.HT.sIx items.size 0 lo) == items.size)=true:=by rw [h0,h1];simp
 show wpAny _ _ (if (((_root_.HT.sIx items.size 0 lo:Nat):Int) == 0 && (1:Int) == 1 && (_root_.HT.sIx items.size items.size hi - _root_.HT.sIx items.size 0 lo) == items.size)=true then _ else _) _ _ s;rw [if_pos yes];unfold Builtin.Tuple.tupleIsExact;refine wpAny_bind (wpAny_bind (wpAny_typeOf ht.typeIs (wpAny_pure ?_)));rw [if_pos (by decide)];exact wpAny_bind (wpAny_rule (wpAny_pure ⟨_,rfl,wpAny_pure h⟩))
end HT
section
variable {X:Cx}
def rSlA (K:W.Frag):V->Option Int->Option Int->Hp->VK->Prop:=λx lo hi H Q=>∃(a:Addr) (xs:List V),x=.ref a/\SqT K H a xs/\(_root_.HT.sIx xs.length 0 lo=0->_root_.HT.sIx xs.length xs.length hi=xs.length->Q (.ref a) H)/\
 (¬ (_root_.HT.sIx xs.length 0 lo=0/\_root_.HT.sIx xs.length xs.length hi=xs.length)->∀ p,H p=none->Q (.ref p) (upd H p (.tup (jd xs lo hi))))
theorem mZ:SlR X (rSlA X.K):=by
 intro pins s σ H x v vl vu lo hi sl Q I rx hs pl pu h;obtain ⟨a,xs,rfl,hx,q1,q2⟩:=h
 by_cases hw:_root_.HT.sIx xs.length 0 lo=0/\_root_.HT.sIx xs.length xs.length hi=xs.length
 ·cases rx
  obtain ⟨its,r,ht,hz⟩:=I.tuple hx;have hlen:its.toArray.size=xs.length:=by rw [List.size_toArray];exact r.length.symm
  refine ⟨"tuple",_,PyProof.Rows.slot_tuple_getitem.lookup,ht.typeIs,?_⟩;exact HT.Aj ht hs pl pu (by rw [hlen];exact hw.1) (by rw [hlen];exact hw.2) ⟨.ref a,H,I,rfl,q1 hw.1 hw.2⟩
 ·exact mn pins s σ H (.ref a) v vl vu lo hi sl Q I rx hs pl pu ⟨a,xs,rfl,hx,hw,q2 hw⟩
end
end L2
namespace Mine
open PySem L2
theorem Gp {a b:Int} (h:Builtin.Int.intBits a<=64):IntMulOk a b:=.of_left h
theorem word_at (m:Int) (h0:0<=m) (h:m < 5):∃ u:W5,atI [V.str "more",.str "less",.str "greater",.str "lesser",.str "leads"] m=some (.str u.str):=by
 have hm:m=0\/m=1\/m=2\/m=3\/m=4:=by omega
 rcases hm with rfl | rfl | rfl | rfl | rfl
 ·exact ⟨.more,rfl⟩
 ·exact ⟨.less,rfl⟩
 ·exact ⟨.greater,rfl⟩
 ·exact ⟨.lesser,rfl⟩
 ·exact ⟨.leads,rfl⟩
theorem pq_p:inV (.str "p") [V.str "p",.str "q"]=true:=by decide+kernel
theorem pq_q:inV (.str "q") [V.str "p",.str "q"]=true:=by decide+kernel
theorem pq_not:inV (.str "not") [V.str "p",.str "q"]=false:=by decide+kernel
theorem pq_w (u:W5):inV (.str u.str) [V.str "p",.str "q"]=false:=by cases u <;> decide+kernel
theorem w_ne (u:W5):u.str≠"never":=by cases u <;> decide+kernel
theorem w_al (u:W5):u.str≠"always":=by cases u <;> decide+kernel
theorem rR {H:Hp} {C z dz:Addr} (hz:H z=none) (hd:H dz=none):aE H (upd (upd H dz (.own z)) z (.ins C dz [])):=λb o h=>by
 rw [aq (ax h hz),aq (ax h hd)];exact h
abbrev TuV (H:Hp) (v:V) (t:Tr):Prop:=∃ a,v=.ref a/\Tu H a t
theorem TuV.to {H H':Hp} (e:Kp H H') (v:V) (t:Tr) (h:TuV H v t):TuV H' v t:=by
 obtain ⟨a,r,o⟩:=h;exact ⟨a,r,o.to e⟩
theorem Tu.parts {H:Hp} {a:Addr} {t:Tr} (h:Tu H a t):∃ us,H a=some (.tup (.str t.word::us))/\aZ (TuV H) us t.kids:=by
 cases h with
 | never e=>exact ⟨[],e,.nil⟩
 | always e=>exact ⟨[],e,.nil⟩
 | lp e=>exact ⟨[],e,.nil⟩
 | lq e=>exact ⟨[],e,.nil⟩
 | no e h=>exact ⟨_,e,.cons ⟨_,rfl,h⟩ .nil⟩
 | fold e h h'=>exact ⟨_,e,.cons ⟨_,rfl,h⟩ (.cons ⟨_,rfl,h'⟩ .nil)⟩
theorem Tu.mk {H:Hp} {a:Addr} {us:List V}:∀ t:Tr,H a=some (.tup (.str t.word::us))->aZ (TuV H) us t.kids->Tu H a t
 | .never,e,.nil=>.never e
 | .always,e,.nil=>.always e
 | .lp,e,.nil=>.lp e
 | .lq,e,.nil=>.lq e
 | .no _,e,.cons ⟨_,r,h⟩ .nil=>by subst r;exact .no e h
 | .fold _ _ _,e,.cons ⟨_,r,h⟩ (.cons ⟨_,r',h'⟩ .nil)=>by subst r;subst r';exact .fold e h h'
theorem qY {σ:St} {H:Hp} {A B:Hp->Prop} (h:A H):mT σ H λb H4=>if b=true then A H4 else B H4:=by
 show if true=true then A H else B H
 rw [if_pos rfl];exact h
theorem GF {t x:Tr} (h:x∈t.kids):x.size < t.size:=by
 cases t with
 | no t =>
  have e:x=t:=by simpa [Tr.kids] using h
  subst e;exact Nat.lt_succ_self _
 | fold w a b =>
  have e:x=a\/x=b:=by simpa [Tr.kids] using h
  show x.size < a.size+b.size+1;rcases e with rfl | rfl <;> omega
 | _=>simp [Tr.kids] at h
end Mine
namespace L2
open PySem PySem.Spec PyProof.Rows
end L2
namespace Mine
open PySem L2
def spLaw (K:W.Frag):Sp:=λvs H Q _=>∃(a:Addr) (ns:List Int),vs=[.ref a]/\Scr K H a ns/\∀ H',Q (.bl true) H'
theorem fM {wi:TI} {tc:TT} {te:TE} {js:List Nat} {σ:St} {H:Hp} {Q:VK} (h:wi σ H λJ H1=>gP (λ_ H R=>R J H) tc te js σ H1 Q):gP wi tc te js σ H Q:=h
theorem pz {K:W.Frag} {wi:TI} {te:TE} {js:List Nat} {σ:St} {H0:Hp} {Q:VK} {xs:List V} (Src:Addr->Hp->Prop) (hwi:∀ R:It->Hp->Prop,(∀ l H,Src l H->R (Itl K l) H)->wi σ H0 R) (hsrc:∀ l H,Src l H->H l=some (.lst xs)) (hx:xs.length<=1000)
  (Pv:Addr->Addr->Nat->List V->Hp->Prop) (h0:∀ l H D,Src l H->H D=none->Pv l D 0 [] (upd H D (.lst [])))
  (hs:∀ l D i v ys H',xs[i]?=some v->l≠D->H' l=some (.lst xs)->H' D=some (.lst ys)->Pv l D i ys H'->∀ N:VK,(∀ y H'',H'' l=some (.lst xs)->H'' D=some (.lst ys)->Pv l D (i+1) (ys++[y]) (upd H'' D (.lst (ys++[y])))->N y H'')->te (some v::dj js σ) H' N)
  (hd:∀ l D ys H',H' l=some (.lst xs)->H' D=some (.lst ys)->Pv l D xs.length ys H'->Q (.ref D) H'):gP wi mT te js σ H0 Q:=by
 refine hwi _ λl H src=>?_;intro D hD;have e:=hsrc l H src;have nl:l≠D:=ax e hD;refine ⟨λi m H'=>m=xs.length - i/\i<=xs.length/\H' l=some (.lst xs)/\∃ ys,ys.length=i/\H' D=some (.lst ys)/\Pv l D i ys H',⟨xs.length,rfl,Nat.zero_le _,by rw [aq nl];exact e,[],rfl,ae,h0 l H D src hD⟩,?_⟩;rintro i m H2 ⟨rfl,hi,e2,ys,hy,eD,p⟩
 by_cases hlt:i < xs.length
 ·refine .inr ⟨⟨xs,xs[i],SqL.of e2,by simp [hlt]⟩,λv H3 y=>?_⟩;obtain ⟨eh,y⟩:=y;subst eh;refine qY ?_;refine hs l D i v ys _ (y xs (SqL.of e2)) nl e2 eD p _ λy H5 z1 z2 z3=>?_;exact ⟨ys,z2,Nat.lt_of_le_of_lt (show ys.length<=1000 by omega) (by decide),xs.length - (i+1),by omega,rfl,hlt,by rw [aq nl];exact z1,ys++[y],by rw [List.length_append,hy];rfl,ae,z3⟩
 ·have ei:i=xs.length:=by omega
  subst ei;exact .inl ⟨⟨xs,SqL.of e2,Nat.le_refl _⟩,hd l D ys H2 e2 eD p⟩
theorem Hi {K:W.Frag} {wi:TI} {te:TE} {js:List Nat} {σ:St} {H0:Hp} {Q:VK} {xs:List V} (Src:Addr->Hp->Prop) (hwi:∀ R:It->Hp->Prop,(∀ l H,Src l H->R (Itt K l) H)->wi σ H0 R) (hsrc:∀ l H,Src l H->H l=some (.tup xs)) (hx:xs.length<=1000)
  (Pv:Addr->Addr->Nat->List V->Hp->Prop) (h0:∀ l H D,Src l H->H D=none->Pv l D 0 [] (upd H D (.lst [])))
  (hs:∀ l D i v ys H',xs[i]?=some v->l≠D->H' l=some (.tup xs)->H' D=some (.lst ys)->Pv l D i ys H'->∀ N:VK,(∀ y H'',H'' l=some (.tup xs)->H'' D=some (.lst ys)->Pv l D (i+1) (ys++[y]) (upd H'' D (.lst (ys++[y])))->N y H'')->te (some v::dj js σ) H' N)
  (hd:∀ l D ys H',H' l=some (.tup xs)->H' D=some (.lst ys)->Pv l D xs.length ys H'->Q (.ref D) H'):gP wi mT te js σ H0 Q:=by
 refine hwi _ λl H src=>?_;intro D hD;have e:=hsrc l H src;have nl:l≠D:=ax e hD;refine ⟨λi m H'=>m=xs.length - i/\i<=xs.length/\H' l=some (.tup xs)/\∃ ys,ys.length=i/\H' D=some (.lst ys)/\Pv l D i ys H',⟨xs.length,rfl,Nat.zero_le _,by rw [aq nl];exact e,[],rfl,ae,h0 l H D src hD⟩,?_⟩;rintro i m H2 ⟨rfl,hi,e2,ys,hy,eD,p⟩
 by_cases hlt:i < xs.length
 ·refine .inr ⟨⟨xs,xs[i],SqT.of e2,by simp [hlt]⟩,λv H3 y=>?_⟩;obtain ⟨eh,y⟩:=y;subst eh;refine qY ?_;refine hs l D i v ys _ (y xs (SqT.of e2)) nl e2 eD p _ λy H5 z1 z2 z3=>?_;exact ⟨ys,z2,Nat.lt_of_le_of_lt (show ys.length<=1000 by omega) (by decide),xs.length - (i+1),by omega,rfl,hlt,by rw [aq nl];exact z1,ys++[y],by rw [List.length_append,hy];rfl,ae,z3⟩
 ·have ei:i=xs.length:=by omega
  subst ei;exact .inl ⟨⟨xs,SqT.of e2,Nat.le_refl _⟩,hd l D ys H2 e2 eD p⟩
theorem comp_map {α:Type} {K:W.Frag} {wi:TI} {te:TE} {js:List Nat} {σ:St} {H:Hp} {Q:VK} {xs:List V} {ts:List α} {R:Hp->V->α->Prop} (g:α->V) (hR:∀ H H' v t,aE H H'->R H v t->R H' v t) (Src:Addr->Hp->Prop)
  (hwi:∀ R:It->Hp->Prop,(∀ l H,Src l H->R (Itl K l) H)->wi σ H R) (hsrc:∀ l H',Src l H'->H' l=some (.lst xs)/\aE H H') (hx:xs.length<=1000) (o:aZ (R H) xs ts)
  (hs:∀ v t H' (N:VK),t∈ts->R H' v t->(∀ H'',aE H' H''->N (g t) H'')->te (some v::dj js σ) H' N) (hd:∀ D H',aE H H'->H D=none->H' D=some (.lst (ts.map g))->Q (.ref D) H'):gP wi mT te js σ H Q:=by
 refine pz Src hwi (λl H src=>(hsrc l H src).1) hx (λl D i ys H'=>H D=none/\aE H H'/\ys=(ts.take i).map g) (λl H' D src hD=>⟨(hsrc l H' src).2.free hD,(hsrc l H' src).2.trans (ao hD _),rfl⟩) (λl D i v ys H' hv nl el eD h N hN=>?_) (λl D ys H' el eD h=>?_)
 ·obtain ⟨hD,sm,rfl⟩:=h;obtain ⟨t,ht,hr⟩:=o.get i v hv;refine hs v t H' N (List.mem_of_getElem? ht) (hR _ _ _ _ sm hr) λH'' s2=>hN _ _ (s2 _ _ el) (s2 _ _ eD) ⟨hD,λd u z=>?_,?_⟩
  ·rw [aq (ax z hD)];exact s2 _ _ (sm _ _ z)
  ·rw [List.take_add_one,ht,List.map_append];rfl
 ·obtain ⟨hD,sm,rfl⟩:=h;refine hd D H' sm hD ?_;rw [o.len,List.take_length] at eD;exact eD
theorem lI {α:Type} {K:W.Frag} {wi:TI} {te:TE} {js:List Nat} {σ:St} {H:Hp} {Q:VK} {xs:List V} {ts:List α} {R:Hp->V->α->Prop} (g:α->V) (hR:∀ H H' v t,aE H H'->R H v t->R H' v t) (Src:Addr->Hp->Prop)
  (hwi:∀ R:It->Hp->Prop,(∀ l H,Src l H->R (Itt K l) H)->wi σ H R) (hsrc:∀ l H',Src l H'->H' l=some (.tup xs)/\aE H H') (hx:xs.length<=1000) (o:aZ (R H) xs ts)
  (hs:∀ v t H' (N:VK),t∈ts->R H' v t->(∀ H'',aE H' H''->N (g t) H'')->te (some v::dj js σ) H' N) (hd:∀ D H',aE H H'->H D=none->H' D=some (.lst (ts.map g))->Q (.ref D) H'):gP wi mT te js σ H Q:=by
 refine Hi Src hwi (λl H src=>(hsrc l H src).1) hx (λl D i ys H'=>H D=none/\aE H H'/\ys=(ts.take i).map g) (λl H' D src hD=>⟨(hsrc l H' src).2.free hD,(hsrc l H' src).2.trans (ao hD _),rfl⟩) (λl D i v ys H' hv nl el eD h N hN=>?_) (λl D ys H' el eD h=>?_)
 ·obtain ⟨hD,sm,rfl⟩:=h;obtain ⟨t,ht,hr⟩:=o.get i v hv;refine hs v t H' N (List.mem_of_getElem? ht) (hR _ _ _ _ sm hr) λH'' s2=>hN _ _ (s2 _ _ el) (s2 _ _ eD) ⟨hD,λd u z=>?_,?_⟩
  ·rw [aq (ax z hD)];exact s2 _ _ (sm _ _ z)
  ·rw [List.take_add_one,ht,List.map_append];rfl
 ·obtain ⟨hD,sm,rfl⟩:=h;refine hd D H' sm hD ?_;rw [o.len,List.take_length] at eD;exact eD
theorem w_not (u:W5):u.str≠"not":=by cases u <;> decide+kernel
abbrev Rw:=List Key
def eQ (x:Str) (is:List Nat):Rw:=.inr x::is.map λi:Nat=>.inl (i:Int)
def idx (rs:List Rw) (r:Rw):Option Nat:=match rs with
 | []=>none
 | x::t=>if x=r then some 0 else (idx t r).map (·+1)
def bA (rs:List Rw) (r:Rw):List Rw×Nat:=match idx rs r with
 | some i=>(rs,i)
 | none=>(rs++[r],rs.length)
theorem idx_lt:∀{rs:List Rw} {r:Rw} {i:Nat},idx rs r=some i->i < rs.length
 | [],_,_,h=>by cases h
 | x::t,r,i,h=>by
  unfold idx at h;split at h
  ·cases h;simp
  ·cases e:idx t r with
   | none=>rw [e] at h;cases h
   | some j=>rw [e] at h;cases h;have:=idx_lt e;simp;omega
theorem wg:∀{rs:List Rw} {r:Rw} {i:Nat},idx rs r=some i->rs[i]?=some r
 | [],_,_,h=>by cases h
 | x::t,r,i,h=>by
  unfold idx at h;split at h
  ·rename_i z;cases h;simp [z]
  ·cases e:idx t r with
   | none=>rw [e] at h;cases h
   | some j=>rw [e] at h;cases h;have:=wg e;simpa using this
theorem idx_app {rs:List Rw} {r s:Rw}:idx (rs++[r]) s=match idx rs s with | some i=>some i | none=>if r=s then some rs.length else none:=by
 induction rs with
 | nil =>
  show (if r=s then some 0 else (idx [] s).map (·+1))=if r=s then some 0 else none
  rfl
 | cons x t ih =>
  show (if x=s then some 0 else (idx (t++[r]) s).map (·+1))=_
  by_cases z:x=s
  ·rw [if_pos z];show _=match (if x=s then some 0 else (idx t s).map (·+1)) with | some i=>some i | none=>_
   rw [if_pos z]
  ·rw [if_neg z,ih];show _=match (if x=s then some 0 else (idx t s).map (·+1)) with | some i=>some i | none=>if r=s then some (t.length+1) else none
   rw [if_neg z];cases idx t s with
   | some i=>rfl
   | none =>
    show (if r=s then some t.length else none).map (·+1)=if r=s then some (t.length+1) else none
    split <;> rfl
theorem iR (rs:List Rw) (r:Rw):(bA rs r).1.length<=rs.length+1:=by
 unfold bA;cases idx rs r <;> simp
def Tr.putR:Tr->List Rw->List Rw×Nat
 | .no t,rs=>bA (t.putR rs).1 (eQ "not" [(t.putR rs).2])
 | .fold w a b,rs=>bA (b.putR (a.putR rs).1).1 (eQ w.str [(a.putR rs).2,(b.putR (a.putR rs).1).2])
 | .never,rs=>bA rs (eQ "never" [])
 | .always,rs=>bA rs (eQ "always" [])
 | .lp,rs=>bA rs (eQ "p" [])
 | .lq,rs=>bA rs (eQ "q" [])
def Tr.rows (t:Tr):List Rw:=(t.putR []).1
theorem nH:∀(t:Tr) (rs:List Rw),(t.putR rs).1.length<=rs.length+t.size
 | .no t,rs=>by
  have:=nH t rs;have:=iR (t.putR rs).1 (eQ "not" [(t.putR rs).2]);simp only [Tr.putR,Tr.size];omega
 | .fold w a b,rs=>by
  have:=nH a rs;have:=nH b (a.putR rs).1;have:=iR (b.putR (a.putR rs).1).1 (eQ w.str [(a.putR rs).2,(b.putR (a.putR rs).1).2]);simp only [Tr.putR,Tr.size];omega
 | .never,rs=>iR _ _
 | .always,rs=>iR _ _
 | .lp,rs=>iR _ _
 | .lq,rs=>iR _ _
def xH (s:List Rw×List Nat) (x:Tr):Option (List Rw×List Nat):=
 if s.2.length < x.kids.length then none else
  some ((bA s.1 (eQ x.word (s.2.take x.kids.length).reverse)).1,(bA s.1 (eQ x.word (s.2.take x.kids.length).reverse)).2::s.2.drop x.kids.length)
def tR:List Rw×List Nat->List Tr->Option (List Rw×List Nat)
 | s,[]=>some s
 | s,t::r=>(xH s t).bind λs'=>tR s' r
theorem kX:∀(t:Tr) (rs:List Rw) (st:List Nat) (r:List Tr),tR (rs,st) (t.post++r)=tR ((t.putR rs).1,(t.putR rs).2::st) r
 | .no t,rs,st,r=>by
  show tR (rs,st) (t.post++[.no t]++r)=_;rw [List.append_assoc,kX t rs st];rfl
 | .fold w a b,rs,st,r=>by
  show tR (rs,st) (a.post++b.post++[.fold w a b]++r)=_;rw [List.append_assoc,List.append_assoc,kX a rs st,kX b _ _];rfl
 | .never,rs,st,r=>rfl
 | .always,rs,st,r=>rfl
 | .lp,rs,st,r=>rfl
 | .lq,rs,st,r=>rfl
theorem Fb (t:Tr):tR ([],[]) t.post=some (t.rows,[(t.putR []).2]):=by
 have h:=kX t [] [] [];rw [List.append_nil] at h;rw [h];rfl
theorem CM {s Z:List Rw×List Nat} {t:Tr} {r:List Tr} (h:tR s (t::r)=some Z):∃ s',xH s t=some s'/\tR s' r=some Z:=by
 unfold tR at h;cases e:xH s t with
 | none=>rw [e] at h;cases h
 | some s'=>rw [e] at h;exact ⟨s',rfl,h⟩
theorem EZ {s s':List Rw×List Nat} {x:Tr} (h:xH s x=some s'):x.kids.length<=s.2.length/\s'=((bA s.1 (eQ x.word (s.2.take x.kids.length).reverse)).1,(bA s.1 (eQ x.word (s.2.take x.kids.length).reverse)).2::s.2.drop x.kids.length):=by
 unfold xH at h;split at h
 ·cases h
 ·exact ⟨by omega,(Option.some.inj h).symm⟩
theorem Hk {K:W.Frag} {H:Hp} {a b:Addr} {xs ys:List V} {Q:VK} (ea:H a=some (.tup xs)) (eb:H b=some (.tup ys)) (nx:xs≠[]) (hz:xs.length+ys.length<=sizeLine) (h:∀ p H',aE H H'->H' p=some (.tup (xs++ys))->Q (.ref p) H'):rCatT K (.ref a) (.ref b) H Q:=by
 refine ⟨a,b,xs,ys,rfl,rfl,SqT.of ea,SqT.of eb,nx,hz,λz=>?_,λ_ p hp=>h p _ (ao hp _) ae⟩;refine h a H (aE.refl _) ?_;rw [z,List.append_nil];exact ea
abbrev RwV (H:Hp) (v:V) (r:Rw):Prop:=∃ a,v=.ref a/\H a=some (.tup (r.map kV))
theorem RwV.to {H H':Hp} (e:Kp H H') (v:V) (r:Rw) (h:RwV H v r):RwV H' v r:=by
 obtain ⟨a,z,o⟩:=h;exact ⟨a,z,e _ _ o rfl⟩
theorem qy (x:Str) (is:List Nat):(eQ x is).map kV=V.str x::is.map λi:Nat=>V.int (i:Int):=by
 unfold eQ;rw [List.map_cons,List.map_map];rfl
def PlO (kvs:List (Rw×V)) (rs:List Rw):Prop:=kvs.length=rs.length/\∀ k,cE kvs k=(idx rs k).map λi:Nat=>V.int (i:Int)
theorem PlO.nil:PlO [] []:=⟨rfl,λ_=>rfl⟩
theorem PlO.put {kvs:List (Rw×V)} {rs:List Rw} {r:Rw} (h:PlO kvs rs) (n:idx rs r=none):PlO (putK kvs r (.int (rs.length:Int))) (rs++[r]):=by
 have hv:cE kvs r=none:=by rw [h.2 r,n];rfl
 refine ⟨by rw [Fi _ hv,List.length_append,List.length_append,h.1];rfl,λk=>?_⟩;rw [eS,idx_app]
 by_cases e:k=r
 ·subst e;rw [if_pos rfl,n];show _=(if k=k then some rs.length else none).map _;rw [if_pos rfl];rfl
 ·rw [if_neg e,h.2 k];cases idx rs k with
  | some i=>rfl
  | none =>
   show _=(if r=k then some rs.length else none).map _;rw [if_neg λz=>e z.symm]
def wY (c:CCs):Sp:=λvs H Q _=>∃(a:Addr) (t:Tr),vs=[.ref a]/\Ob c H a t/\t.size<=1000/\∀ l us H',aE H H'->H l=none->H' l=some (.lst us)->aZ (RwV H') us t.rows->Q (.ref l) H'
end Mine
namespace L2
open PySem PySem.Spec PyProof.Rows
section
variable {X:Cx} {pins:List (Addr×Obj)} {σ:St} {H H':Hp} {s s':Shared} {h':Heap}
theorem Inv.turnedL {t':Nat} {fp:List Addr} (I:Inv X pins σ H s) (kp:∀ b o,b ∉ fp->s.heap.get? b=some o->h'.get? b=some o) (hf:∀ b∈fp,jJ X pins H b):Inv X pins σ H {s with heap:=h',toks:=t' }:=by
 have far:∀ b u,H b=some u->b ∉ fp:=λb u e z=>by
  have:=(hf b z).1;rw [e] at this;cases this
 refine I.step (ch:=fp) (g':=s.gens) (d':=s.drawn) (λb hb=>⟨(hf b hb).2.2.2.1,(hf b hb).2.1,(hf b hb).2.2.2.2.1,(hf b hb).2.2.2.2.2⟩) (λb o _ _ hc e _=>kp b o hc e) (λb o _ _ hc e _=>⟨o.slots,kp b o hc e⟩) (λ_ _ _ _ n=>n)
  (λb o hc e=>⟨o,kp b o hc e⟩) (λ_ _ e=>e) (λ_ _ _ e=>e) (λb ps e=>⟨#[],by rw [e];simp⟩) (λm hm=>?_) (λb u e=>?_) I.bare
 ·obtain ⟨o,es,ep,ho,r⟩:=hm;exact ⟨o,es,ep,kp _ o (λz=>(hf _ z).2.1 rfl) ho,r⟩
 ·exact (I.hok b u e).stay (λc v hc q=>kp c v (hc.elim (λz=>by rw [z];exact far b u e) λz=>far c _ z) q) (λ_ q=>q) λ_ _ q=>q
theorem Inv.trackO {a:Addr} {o:HO} (I:Inv X pins σ H s) (n:H a=none) (new:X.s₀.heap.get? a=none) (hL:a≠X.env.locals) (hc:∀ x c,X.env.cells.lookup x=some c->c≠a) (hp:∀ p∈X.pn++pins,p.1≠a)
  (p:bC X.prog X.w (upd H a o) s.heap a o):Inv X pins σ (upd H a o) s:=
 ⟨I.ok,I.os,I.bare,⟨I.base.keep,I.base.slot,λb o e z hx=>by rw [aq (λq=>by rw [q,new] at e;cases e)];exact I.base.free b o e z hx,I.base.there,
   λb xs e=>by have q:=I.base.tups b xs e;rw [aq (ax q n)];exact q,λb o u e=>by have q:=I.base.frzs b o u e;rw [aq (ax q n)];exact q,
   λb ps e=>by obtain ⟨m,q⟩:=I.base.tbls b ps e;exact ⟨m,by rw [aq (ax q n)];exact q⟩⟩,
  I.loc,I.cell,by rw [aq (Ne.symm hL)];exact I.free,λx c e=>by rw [aq (hc x c e)];exact I.freeC x c e,
  λq hq=>by obtain ⟨a1,a2,a3⟩:=I.pin q hq;exact ⟨a1,by rw [aq (hp q hq)];exact a2,a3⟩,
  λb u e=>by
   by_cases hb:b=a
   ·subst hb;rw [ae] at e;cases e
    exact p
   ·rw [aq hb] at e;exact (I.hok b u e).stay (λ_ _ _ z=>z) (λc z=>by rw [aq (ax z n)];exact z) λc xs z=>by rw [aq (ax z n)];exact z,
  I.len⟩
end
def ItT (go:Nat->Hp->Prop) (src:Nat->Hp->List V->Prop) (n:Nat->Hp->Prop):It:=
 ⟨go,λi H v H'=>∃(T:Addr) (vs:List V),H T=none/\v=.ref T/\H'=upd H T (.tup vs)/\src i H vs,n⟩
theorem um {X:Cx} {elts:List Expr} {kk:Nat} {tpos:Pos} {I₀:Addr} {fp' wr fp:List Addr} {n:Nat} {Pt:Nat->Array Value->Prop} {St:Nat->Heap->Prop} {Mid:Nat->Addr->Heap->Prop} (W:WalksT X.prog X.w X.A I₀ fp' wr n Pt St Mid)
  {pins:List (Addr×Obj)} {s:Shared} {σ:L2.St} {H:Hp} {E:Value->Shared->Prop} {i:Nat} {vs:List V} {src:Nat->Hp->List V->Prop} {tn:Nat->Heap->Prop} (I:Inv X pins σ H s) (hf:∀ b∈fp,jJ X pins H b) (hob:∀ b∈fp,∃ o,s.heap.get? b=some o) (hw:∀ b∈wr,b∈fp) (hi:i < n) (st:St i s.heap)
  (hv:∀ vals,Pt i vals->Vals vs vals.toList) (hz:vs.length<=sizeLine) (hsrc:src i H vs) (htn:∀ h,St (i+1) h->tn (i+1) h) {gop stp:Nat->Hp->Prop} :
  wpAny (model X.prog X.w) X.A (pyNext (.ref I₀)) (λr s1=>∃ u,r=some u/\
   wpAny (model X.prog X.w) X.A (letOwnedTupleGo (.Tuple elts kk tpos) (.ref I₀) u) (λ_ s2=>∃ x H',Inv X pins σ H' s2/\RelV x u/\(ItT gop src stp).yld i H x H'/\tn (i+1) s2.heap/\∀ b∈fp,H' b=none) E s1) E s:=by
 refine W.item i s _ _ hi st λT vals h1 tk hP hT hTup hM kp=>?_;refine ⟨.ref T,rfl,W.go elts kk tpos i T {s with heap:=h1,toks:=tk} _ _ hM λh2 hst kp2=>?_⟩
 have I1:Inv X pins σ H {s with heap:=h2,toks:=tk}:=I.turnedL (λb o hb e=>kp2 b o (λz=>hb (hw b z)) (kp b o (λz=>hb (hw b z)) e)) hf
 have nT:H T=none:=I.hok.fresh hT
 have tup:h2.IsTuple T vals:=by
  obtain ⟨o,e,r⟩:=hTup;exact ⟨o,kp2 T o (W.apart i T h1 hM) e,r⟩
 have new:X.s₀.heap.get? T=none:=by
  cases z:X.s₀.heap.get? T with
  | none=>rfl
  | some o=>exact absurd (Nat.lt_of_lt_of_le (Heap.lt_size z) (Nat.le_trans I.sz hT)) (Nat.lt_irrefl _)
 refine ⟨.ref T,upd H T (.tup vs),I1.trackO nT new (Nat.ne_of_gt (Nat.lt_of_lt_of_le I.lt hT)) (λx c e z=>?_) (λp hp z=>?_) ⟨hz,vals.toList,hv vals hP,(by rw [Array.toArray_toList];exact tup)⟩,rfl,⟨T,vs,nT,rfl,rfl,hsrc⟩,htn _ hst,λb hb=>?_⟩
 ·obtain ⟨v,o,ho,_⟩:=I.cell x c e;exact absurd (Nat.lt_of_lt_of_le (Heap.lt_size ho) (by rw [z];exact hT)) (Nat.lt_irrefl _)
 ·exact absurd (Nat.lt_of_lt_of_le (Heap.lt_size (I.pin p hp).1) (by rw [z];exact hT)) (Nat.lt_irrefl _)
 ·have e0:=(hf b hb).1;obtain ⟨o,ho⟩:=hob b hb;have bT:b≠T:=λz=>absurd (Nat.lt_of_lt_of_le (Heap.lt_size ho) (by rw [z];exact hT)) (Nat.lt_irrefl _);rw [aq bT];exact e0
def srcE (K:W.Frag) (a:Addr):Nat->Hp->List V->Prop:=λi H vs=>∃ x,vs=[.int i,x]/\∀ xs,SqL K H a xs->xs[i]?=some x
def ItE (K:W.Frag) (a:Addr):It:=ItT (λi H=>∃ xs x,SqL K H a xs/\xs[i]?=some x) (srcE K a) λi H=>∃ xs,SqL K H a xs/\xs.length<=i
theorem va {h:Heap} {a b:Addr} {its:Array Value} {o:Obj} {T:String} (l:h.IsList a its) (e:h.get? b=some o) (c:o.cls=.type T) (n:T≠"list"):a≠b:=λz=>by
 obtain ⟨o',e',c',_⟩:=l;rw [z,e] at e';cases e'
 rw [c] at c';exact n (Value.type.inj c')
theorem CF {P:Program} {w:World} {K:W.Frag} {elts:List Expr} {kk:Nat} {tpos:Pos} (a e it:Addr) (hei:e≠it) :
  Turn P w K (.Tuple elts kk tpos) (ItE K a) [e,it] e (λi h=>(∃ old,IsEnum h e it i old)/\h.IsListIter it a i) where
 mem:=by simp
 obj:=λi h st b hb=>by
  obtain ⟨⟨old,he⟩,o,ho,_,hd⟩:=st;rcases List.mem_cons.mp hb with rfl | hb
  ·exact ⟨_,he,λv z=>by cases z⟩
  ·rw [List.mem_singleton.mp hb];exact ⟨o,ho,λv z=>by rw [hd] at z;cases z⟩
 keep:=λi h h' st k=>by
  obtain ⟨⟨old,he⟩,l⟩:=st;exact ⟨⟨old,k e (by simp) _ he⟩,l.at λo z=>k it (by simp) o z⟩
 item:=by
  intro X hP hw hK hc i pins s σ H E I hf st hg;subst hP hw hK;obtain ⟨xs,x,hq,hx⟩:=hg;obtain ⟨its,rv,p,hz⟩:=I.list hq;obtain ⟨u,hu,ru⟩:=rv.get hx;obtain ⟨⟨old,he⟩,hit⟩:=st;have hL:=p.isList;have ne1:a≠e:=va hL he rfl (by decide)
  have ne2:a≠it:=by
   obtain ⟨o,ho,hc',_⟩:=id hit;exact va hL ho hc' (by decide)
  have W:=WalksT.enumerateD (A:=X.A) (Draws.list (prog:=X.prog) (w:=X.w) (A:=X.A.in1) (I.ok.hd hc) it a ne2 its.toArray) e hei (by simp;exact ⟨hei,Ne.symm ne1⟩) (by simp);refine um (fp:=[e,it]) (vs:=[.int i,x]) (src:=srcE X.K a) (tn:=λi h=>(∃ old,IsEnum h e it i old)/\h.IsListIter it a i) W I hf (λb hb=>?_) (λb hb=>hb) (by have:=(List.getElem?_eq_some_iff.mp hu).1;simpa using this) ⟨⟨old,he⟩,hit,hL⟩ (λvals hP=>?_) szC ⟨x,rfl,λys hy=>by rw [I.list_inj hy hq];exact hx⟩ λh st=>⟨?_,st.2.1⟩
  ·rcases List.mem_cons.mp hb with rfl | hb
   ·exact ⟨_,he⟩
   ·rw [List.mem_singleton.mp hb];obtain ⟨o,ho,_⟩:=id hit;exact ⟨o,ho⟩
  ·obtain ⟨t,y,hy,rfl⟩:=hP
   have ey:y=u:=by
    have:its[i]?=some y:=by simpa using hy
    rw [hu] at this;exact (Option.some.inj this).symm
   subst ey;exact .cons ⟨t,rfl⟩ (.cons ru .nil)
  ·obtain ⟨old',z⟩:=st.1;exact ⟨old',z⟩
 done:=by
  intro X hP hw hK hc i pins s σ H E I hf st hg;subst hP hw hK;obtain ⟨xs,hq,hx⟩:=hg;obtain ⟨its,rv,p,hz⟩:=I.list hq;obtain ⟨⟨old,he⟩,hit⟩:=st;have hl:=rv.length;obtain ⟨f0,f1,f2,f3,f4,f5⟩:=hf it (by simp);exact wpAny_pyNext_enum_end (I.ok.hd hc) he hit p.isList (by simp;omega) λh' eb=>⟨rfl,I.turned (t':=s.toks) (λb o hb e=>eb b o hb e) f0 f1 f3 f4 f5⟩
 self:=λ_ _ _ _ _ st h=>by
  obtain ⟨⟨old,he⟩,_⟩:=st;exact wpAny_pyIter_enum he h
section
variable {X:Cx}
def iEnum (K:W.Frag) (tl:TE):TI:=λσ H R=>tl σ H λx H1=>∃ a,x=.ref a/\(∃ xs,SqL K H1 a xs)/\R (ItE K a) H1
theorem pi_enum {elts:List Expr} {kk:Nat} {tpos p pos:Pos} {e:Expr} {te:TE} (hg:Gl X "enumerate") (hm:X.mg "enumerate"=none) (he:PE X e te)
  (hs:starEach [e] X.env=[(false,eval e X.env)]:=by rfl):PI X (.Tuple elts kk tpos) (.Call (.Name "enumerate" p) [e] [] pos) (iEnum X.K te):=by
 intro pins s σ H R I h;have b1:bootBuiltins "enumerate"=some (.type "enumerate"):=by decide+kernel
 refine wpAny_Call_Name_kw (oZ I hg hm b1 ?_ (by decide) (by decide));refine PyProof.Rows.callWith_type1 ?_ hs (by rfl);rw [hs];refine Calls.spliced_cons (thn (he pins s σ H _ I h) λu s1 zz=>?_);obtain ⟨y,H1,I1,ry,a,ey,⟨xs,hq⟩,q⟩:=zz;subst ey;have eu:u=Value.ref a:=ry;subst eu;refine Calls.spliced_nil ?_;obtain ⟨its,rv,pl,hz⟩:=I1.list hq;refine call_enumerate_list pl.isList λh' e1 e2 e3 kp=>?_;have I2:Inv X pins σ H1 {s1 with heap:=h' }:=I1.kept (t':=s1.toks) kp
 refine wpAny_pyIter_enum (s:={s1 with heap:=h' }) e1 ?_
 refine ⟨_,[s1.heap.objs.size+1,s1.heap.objs.size],_,ItE X.K a,H1,rfl,I2,CF a _ _ (Nat.ne_of_gt (Nat.lt_succ_self _)),⟨⟨_,e1⟩,e2⟩,λb hb=>?_,q⟩
 have nb:s1.heap.objs.size<=b:=by
  rcases List.mem_cons.mp hb with rfl | hb
  ·exact Nat.le_succ _
  ·rw [List.mem_singleton.mp hb];exact Nat.le_refl _
 exact I1.fpOk nb (I1.hok.fresh nb)
end
theorem GW {K:W.Frag} {a:Addr} {xs:List V} {g:TG} {tb:TS} {D:Ends} {σ:St} {H:Hp} (Pv:Nat->St->Hp->Prop) (h0:Pv 0 σ H) (hl:∀ i σ H,i<=xs.length->Pv i σ H->SqL K H a xs)
  (hs:∀ i x T σ H,xs[i]?=some x->Pv i σ H->H T=none->g (.ref T) σ (upd H T (.tup [.int i,x])) λσ2 H2=>tb {D with nx:=Pv (i+1),ct:=Pv (i+1),bk:=D.nx} σ2 H2) (hd:∀ σ H,Pv xs.length σ H->D.nx σ H) :
  ∃ W:Nat->Nat->St->Hp->Prop,(∃ m,W 0 m σ H)/\∀ i m σ H,W i m σ H->
   ((ItE K a).stop i H/\D.nx σ H)\/((ItE K a).go i H/\∃ N:St->Hp->Prop,(∀ σ' H',N σ' H'->∃ m',m' < m/\W (i+1) m' σ' H')/\∀ x H',(ItE K a).yld i H x H'->g x σ H' λσ2 H2=>tb {D with nx:=N,ct:=N,bk:=D.nx} σ2 H2):=by
 refine ⟨λi m σ H=>m=xs.length - i/\i<=xs.length/\Pv i σ H,⟨xs.length,by simp,Nat.zero_le _,h0⟩,?_⟩;rintro i m σ H ⟨rfl,hi,p⟩
 have q:=hl i σ H hi p
 by_cases hlt:i < xs.length
 ·refine .inr ⟨⟨xs,xs[i],q,by simp [hlt]⟩,Pv (i+1),λσ' H' p'=>⟨xs.length - (i+1),by omega,rfl,hlt,p'⟩,λx H' y=>?_⟩;obtain ⟨T,vs,nT,rfl,rfl,x,rfl,hx⟩:=y;exact hs i x T σ H (hx xs q) p nT
 ·have e:i=xs.length:=by omega
  subst e;exact .inl ⟨⟨xs,q,Nat.le_refl _⟩,hd σ H p⟩
open PySem.AutoSeq1
abbrev qX (t:Addr):Obj:={cls:=.type "tuple_iterator",data:=.fields #[.ref t,.int 0 0] }
section
variable {prog:Program} {w:World} {A:Around} {E:Value->Shared->Prop} {s:Shared}
theorem zT {it t:Addr} {i:Nat} {ys:Array Value} {x:Value} {Q:Value->Shared->Prop} (st:s.heap.IsTupleIter it t i) (tp:s.heap.IsTuple t ys) (e:ys[i]?=some x)
  (k:∀ h',h'.IsTupleIter it t (i+1)->Heap.SameBut it s.heap h'->Q x {s with heap:=h' }):wpAny (model prog w) A (Builtin.SmallTypes.nextOf (.ref it)) Q E s:=by
 obtain ⟨ob,gb,cb,db⟩:=id st;obtain ⟨ot,gt,_,nt,dt⟩:=tp;unfold Builtin.SmallTypes.nextOf;refine wpAny_bind (wpAny_callSpecial?_slot (name:=Str.ofString "__next__") st.typeIs F.slot_tuple_iterator_next (wpAny_call_entry F.slot_tuple_iterator_next st.typeIs F.entry_tuple_iterator_next ?_ (F.args_tuple_iterator_next_1 _)));show wpAny _ _ (field (.ref it) 0 >>= _) _ _ s;refine wpAny_bind (wpAny_field gb db (x:=.ref t) rfl ?_);show wpAny _ _ (if (Value.ref t == Value.none)=true then _ else _) _ _ s;rw [if_neg (show ¬ ((Value.ref t == Value.none)=true) from Bool.false_ne_true)];show wpAny _ _ (field (.ref it) 1 >>= _) _ _ s;refine wpAny_bind (wpAny_field gb db (x:=.int i 0) rfl ?_);show wpAny _ _ (seqItems? (.ref t) >>= _) _ _ s;refine wpAny_bind (wpAny_seqItems gt dt ?_);simp only [Int.toNat_natCast,e];refine wpAny_bind (wpAny_setField gb db (by simp) (wpAny_pure ⟨x,rfl,wpAny_pure (k _ ?_ (Heap.SameBut.update ..))⟩));exact ⟨_,Heap.get?_update_self _ gb (Obj.isFreed_of_fields (Obj.data_mapFields db _)),(Obj.cls_mapFields ..).trans cb,by rw [Obj.data_mapFields db];simp [rawInt]⟩
theorem lY {it t:Addr} {i:Nat} {ys:Array Value} {Q:Value->Shared->Prop} (hd:A.handled=none) (st:s.heap.IsTupleIter it t i) (tp:s.heap.IsTuple t ys) (e:ys[i]?=none)
  (k:∀ h' x,Heap.ExtBut it s.heap h'->(∃ o,h'.get? x=some o/\o.cls=.type "StopIteration")->E (.ref x) {s with heap:=h' }):wpAny (model prog w) A (Builtin.SmallTypes.nextOf (.ref it)) Q E s:=by
 obtain ⟨ob,gb,cb,db⟩:=id st;obtain ⟨ot,gt,_,nt,dt⟩:=tp;unfold Builtin.SmallTypes.nextOf;refine wpAny_bind (wpAny_callSpecial?_slot (name:=Str.ofString "__next__") st.typeIs F.slot_tuple_iterator_next (wpAny_call_entry F.slot_tuple_iterator_next st.typeIs F.entry_tuple_iterator_next ?_ (F.args_tuple_iterator_next_1 _)));show wpAny _ _ (field (.ref it) 0 >>= _) _ _ s;refine wpAny_bind (wpAny_field gb db (x:=.ref t) rfl ?_);show wpAny _ _ (if (Value.ref t == Value.none)=true then _ else _) _ _ s;rw [if_neg (show ¬ ((Value.ref t == Value.none)=true) from Bool.false_ne_true)];show wpAny _ _ (field (.ref it) 1 >>= _) _ _ s;refine wpAny_bind (wpAny_field gb db (x:=.int i 0) rfl ?_);show wpAny _ _ (seqItems? (.ref t) >>= _) _ _ s;refine wpAny_bind (wpAny_seqItems gt dt ?_);simp only [Int.toNat_natCast,e];refine wpAny_bind (wpAny_rule (wpAny_bind (wpAny_setField gb db (by simp) ?_)));show wpAny _ _ (newExc (.type "StopIteration") [] >>= _) _ _ _;refine wpAny_bind ?_;simp only [newExc,newTuple];refine wpAny_bind (wpAny_newObj_type ?_ (by size_fits));refine wpAny_bind (m:=firstArgMember _ _) (wpAny_of_eq (a:=Value.none) (by first | rfl | (simp only [firstArgMember];rfl)) ?_);refine wpAny_newObj_type ?_ (by size_fits);simp only [raiseNew];refine wpAny_bind (wpAny_handled ?_);first | rw [show A.in1.handled=none from hd] | rw [hd]
 refine wpAny_bind (wpAny_pure (wpAny_throw ?_));exact k _ _ (((Heap.SameBut.update ..).extBut.push _).push _) ⟨_,Heap.get?_push_size _ rfl,rfl⟩
theorem DJ (hd:A.handled=none) (it t:Addr) (ne:t≠it) (ys:Array Value):Draws prog w A it [it,t] ys.size (λi v=>ys[i]?=some v) (λi h=>h.IsTupleIter it t i/\h.IsTuple t ys) where
 live:=λ_ _ z=>let ⟨o,q,_⟩:=z.1;⟨o,q⟩
 frame:=λ_ _ _ z kp=>by
  obtain ⟨⟨o,q,r⟩,⟨o',q',r'⟩⟩:=z;exact ⟨⟨o,kp it (by simp) o q,r⟩,⟨o',kp t (by simp) o' q',r'⟩⟩
 item:=λi s Q E hi z kq=>by
  refine zT z.1 z.2 (x:=ys[i]) (by simp [hi]) λh' z' sb=>?_;exact kq _ h' s.toks (by simp [hi]) ⟨z',z.2.extBut sb.extBut ne⟩ sb
 done:=λs Q E z kq=>lY hd z.1 z.2 (by simp) kq
theorem DH (l:Addr) (ys:Array Value) (n:Nat) (dct:Option Addr) (sl:Array (Option Value)):Meets (Builtin.«enumerate.__new__» ⟨[.type "enumerate",.ref l],[]⟩) (λ_ R s=>s.heap.get? l=some {cls:=.type "tuple",dict:=dct,data:=.seq ys n,slots:=sl} /\
   R (.ok (.ret (.ref (s.heap.push (qX l)).objs.size))) {s with heap:=(s.heap.push (qX l)).push {cls:=.type "enumerate",data:=.fields #[.none,.bool false,.ref s.heap.objs.size,rawInt 0,.none,.none] } }):=
 .of_wp λprog w A R s h=>by
  obtain ⟨hp,g,d,tk,os⟩:=s;obtain ⟨hl,h⟩:=h;have su:=sub_enumerate;have tT:Heap.IsTuple (Shared.heap ⟨hp,g,d,tk,os⟩) l ys:=⟨_,hl,rfl,n,rfl⟩
  wp_walk using wpAny_loadPart' hl
  refine wpAny_stack_any λst=>wpAny_pure ?_;split
  ·rename_i c _ _ _ _ _;cases (c == Value.type "enumerate")
   ·wp_walk using wpAny_loadPart' hl,wpAny_pyIter_tuple tT
    exact ⟨_,rfl,h⟩
   ·wp_walk using wpAny_loadPart' hl,wpAny_pyIter_tuple tT
    exact ⟨_,rfl,h⟩
  ·wp_walk using wpAny_loadPart' hl,wpAny_pyIter_tuple tT
   exact ⟨_,rfl,h⟩
theorem AD {l:Addr} {ys:Array Value} {Q:Value->Shared->Prop} (tT:s.heap.IsTuple l ys)
  (k:∀ h',IsEnum h' (s.heap.objs.size+1) s.heap.objs.size 0 .none->h'.IsTupleIter s.heap.objs.size l 0->(∀ b o,s.heap.get? b=some o->h'.get? b=some o)->Q (.ref (s.heap.objs.size+1)) {s with heap:=h' }):wpAny (model prog w) A (call (.type "enumerate") [.ref l]) Q E s:=by
 obtain ⟨⟨c,dct,dt,sl⟩,hl,hc,n,hd⟩:=tT;have hc':c=.type "tuple":=hc;have hd':dt=.seq ys n:=hd;subst hc' hd';refine callType_new F.called_enumerate (by decide) (F.typeCall_enumerate_1 _) (F.newCall_enumerate_1 _) (λobj=>F.args_object_init_2 obj _) F.entry_enumerate_new (DH l ys n dct sl) ⟨hl,?_⟩;have sz:(s.heap.push (qX l)).objs.size=s.heap.objs.size+1:=Heap.size_push ..;show _/\_;rw [sz]
 have en:IsEnum ((s.heap.push (qX l)).push {cls:=.type "enumerate",data:=.fields #[.none,.bool false,.ref s.heap.objs.size,rawInt 0,.none,.none] }) (s.heap.objs.size+1) s.heap.objs.size 0 .none:=by
  have z:=Heap.get?_push_size (s.heap.push (qX l)) (o:={cls:=.type "enumerate",data:=.fields #[.none,.bool false,.ref s.heap.objs.size,rawInt 0,.none,.none] }) rfl;rw [sz] at z;exact z
 exact ⟨⟨_,en,rfl⟩,k _ en ⟨_,Heap.get?_push_of_some _ (Heap.get?_push_size _ rfl),rfl,rfl⟩ λb o x=>Heap.get?_push_of_some _ (Heap.get?_push_of_some _ x)⟩
end
def srcET (K:W.Frag) (a:Addr):Nat->Hp->List V->Prop:=λi H vs=>∃ x,vs=[.int i,x]/\∀ xs,SqT K H a xs->xs[i]?=some x
def DZ (K:W.Frag) (a:Addr):It:=ItT (λi H=>∃ xs x,SqT K H a xs/\xs[i]?=some x) (srcET K a) λi H=>∃ xs,SqT K H a xs/\xs.length<=i
theorem sP {h:Heap} {a b:Addr} {its:Array Value} {o:Obj} {T:String} (l:h.IsTuple a its) (e:h.get? b=some o) (c:o.cls=.type T) (n:T≠"tuple"):a≠b:=λz=>by
 obtain ⟨o',e',c',_⟩:=l;rw [z,e] at e';cases e'
 rw [c] at c';exact n (Value.type.inj c')
theorem zi {P:Program} {w:World} {K:W.Frag} {elts:List Expr} {kk:Nat} {tpos:Pos} (a e it:Addr) (hei:e≠it) :
  Turn P w K (.Tuple elts kk tpos) (DZ K a) [e,it] e (λi h=>(∃ old,IsEnum h e it i old)/\h.IsTupleIter it a i) where
 mem:=by simp
 obj:=λi h st b hb=>by
  obtain ⟨⟨old,he⟩,o,ho,_,hd⟩:=st;rcases List.mem_cons.mp hb with rfl | hb
  ·exact ⟨_,he,λv z=>by cases z⟩
  ·rw [List.mem_singleton.mp hb];exact ⟨o,ho,λv z=>by rw [hd] at z;cases z⟩
 keep:=λi h h' st k=>by
  obtain ⟨⟨old,he⟩,o,ho,r⟩:=st;exact ⟨⟨old,k e (by simp) _ he⟩,o,k it (by simp) o ho,r⟩
 item:=by
  intro X hP hw hK hc i pins s σ H E I hf st hg;subst hP hw hK;obtain ⟨xs,x,hq,hx⟩:=hg;obtain ⟨its,rv,p,hz⟩:=I.tuple hq;obtain ⟨u,hu,ru⟩:=rv.get hx;obtain ⟨⟨old,he⟩,hit⟩:=st;have hL:s.heap.IsTuple a its.toArray:=p;have ne1:a≠e:=sP hL he rfl (by decide)
  have ne2:a≠it:=by
   obtain ⟨o,ho,hc',_⟩:=id hit;exact sP hL ho hc' (by decide)
  have W:=WalksT.enumerateD (A:=X.A) (DJ (prog:=X.prog) (w:=X.w) (A:=X.A.in1) (I.ok.hd hc) it a ne2 its.toArray) e hei (by simp;exact ⟨hei,Ne.symm ne1⟩) (by simp);refine um (fp:=[e,it]) (vs:=[.int i,x]) (src:=srcET X.K a) (tn:=λi h=>(∃ old,IsEnum h e it i old)/\h.IsTupleIter it a i) W I hf (λb hb=>?_) (λb hb=>hb) (by have:=(List.getElem?_eq_some_iff.mp hu).1;simpa using this) ⟨⟨old,he⟩,hit,hL⟩ (λvals hP=>?_) szC ⟨x,rfl,λys hy=>by rw [I.tuple_inj hy hq];exact hx⟩ λh st=>⟨?_,st.2.1⟩
  ·rcases List.mem_cons.mp hb with rfl | hb
   ·exact ⟨_,he⟩
   ·rw [List.mem_singleton.mp hb];obtain ⟨o,ho,_⟩:=id hit;exact ⟨o,ho⟩
  ·obtain ⟨t,y,hy,rfl⟩:=hP
   have ey:y=u:=by
    have:its[i]?=some y:=by simpa using hy
    rw [hu] at this;exact (Option.some.inj this).symm
   subst ey;exact .cons ⟨t,rfl⟩ (.cons ru .nil)
  ·obtain ⟨old',z⟩:=st.1;exact ⟨old',z⟩
 done:=by
  intro X hP hw hK hc i pins s σ H E I hf st hg;subst hP hw hK;obtain ⟨xs,hq,hx⟩:=hg;obtain ⟨its,rv,p,hz⟩:=I.tuple hq;obtain ⟨⟨old,he⟩,hit⟩:=st;have hL:s.heap.IsTuple a its.toArray:=p;have hl:=rv.length
  have ne2:a≠it:=by
   obtain ⟨o,ho,hc',_⟩:=id hit;exact sP hL ho hc' (by decide)
  obtain ⟨f0,f1,f2,f3,f4,f5⟩:=hf it (by simp);have st2:s.heap.IsTupleIter it a i:=hit;unfold pyNext;have hT:s.TypeIs (.ref e) "enumerate":=⟨_,he,rfl⟩;refine wpAny_bind (wpAny_attempt (wpAny_callSpecial?_slot (name:=Str.ofString "__next__") hT F.slot_enumerate_next (wpAny_call_entry F.slot_enumerate_next hT F.entry_enumerate_next ?_ (F.args_enumerate_next_1 _))));show wpAny _ _ (field (.ref e) 2 >>= _) _ _ _;refine wpAny_bind (wpAny_field he rfl (x:=.ref it) rfl ?_);refine wpAny_bind (lY (I.ok.hd hc) st2 hL (by simp;omega) λh' x eb ox=>?_);obtain ⟨o,ho,hoc⟩:=ox;refine wpAny_bind (wpAny_isInstance (T:="StopIteration") (b:=true) ⟨o,ho,hoc⟩ isSubtype_stop ?_);exact wpAny_pure ⟨rfl,I.turned (t':=s.toks) (λb o hb e=>eb b o hb e) f0 f1 f3 f4 f5⟩
 self:=λ_ _ _ _ _ st h=>by
  obtain ⟨⟨old,he⟩,_⟩:=st;exact wpAny_pyIter_enum he h
section
variable {X:Cx}
def iEnumT (K:W.Frag) (tl:TE):TI:=λσ H R=>tl σ H λx H1=>∃ a,x=.ref a/\(∃ xs,SqT K H1 a xs)/\R (DZ K a) H1
theorem nJ {elts:List Expr} {kk:Nat} {tpos p pos:Pos} {e:Expr} {te:TE} (hg:Gl X "enumerate") (hm:X.mg "enumerate"=none) (he:PE X e te)
  (hs:starEach [e] X.env=[(false,eval e X.env)]:=by rfl):PI X (.Tuple elts kk tpos) (.Call (.Name "enumerate" p) [e] [] pos) (iEnumT X.K te):=by
 intro pins s σ H R I h;have b1:bootBuiltins "enumerate"=some (.type "enumerate"):=by decide+kernel
 refine wpAny_Call_Name_kw (oZ I hg hm b1 ?_ (by decide) (by decide));refine PyProof.Rows.callWith_type1 ?_ hs (by rfl);rw [hs];refine Calls.spliced_cons (thn (he pins s σ H _ I h) λu s1 zz=>?_);obtain ⟨y,H1,I1,ry,a,ey,⟨xs,hq⟩,q⟩:=zz;subst ey;have eu:u=Value.ref a:=ry;subst eu;refine Calls.spliced_nil ?_;obtain ⟨its,rv,pl,hz⟩:=I1.tuple hq;refine AD (show s1.heap.IsTuple a its.toArray from pl) λh' e1 e2 kp=>?_;have I2:Inv X pins σ H1 {s1 with heap:=h' }:=I1.kept (t':=s1.toks) kp
 refine wpAny_pyIter_enum (s:={s1 with heap:=h' }) e1 ?_
 refine ⟨_,[s1.heap.objs.size+1,s1.heap.objs.size],_,DZ X.K a,H1,rfl,I2,zi a _ _ (Nat.ne_of_gt (Nat.lt_succ_self _)),⟨⟨_,e1⟩,e2⟩,λb hb=>?_,q⟩
 have nb:s1.heap.objs.size<=b:=by
  rcases List.mem_cons.mp hb with rfl | hb
  ·exact Nat.le_succ _
  ·rw [List.mem_singleton.mp hb];exact Nat.le_refl _
 exact I1.fpOk nb (I1.hok.fresh nb)
end
theorem lD {K:W.Frag} {a:Addr} {xs:List V} {g:TG} {tb:TS} {D:Ends} {σ:St} {H:Hp} (Pv:Nat->St->Hp->Prop) (h0:Pv 0 σ H) (hl:∀ i σ H,i<=xs.length->Pv i σ H->SqT K H a xs)
  (hs:∀ i x T σ H,xs[i]?=some x->Pv i σ H->H T=none->g (.ref T) σ (upd H T (.tup [.int i,x])) λσ2 H2=>tb {D with nx:=Pv (i+1),ct:=Pv (i+1),bk:=D.nx} σ2 H2) (hd:∀ σ H,Pv xs.length σ H->D.nx σ H) :
  ∃ W:Nat->Nat->St->Hp->Prop,(∃ m,W 0 m σ H)/\∀ i m σ H,W i m σ H->
   ((DZ K a).stop i H/\D.nx σ H)\/((DZ K a).go i H/\∃ N:St->Hp->Prop,(∀ σ' H',N σ' H'->∃ m',m' < m/\W (i+1) m' σ' H')/\∀ x H',(DZ K a).yld i H x H'->g x σ H' λσ2 H2=>tb {D with nx:=N,ct:=N,bk:=D.nx} σ2 H2):=by
 refine ⟨λi m σ H=>m=xs.length - i/\i<=xs.length/\Pv i σ H,⟨xs.length,by simp,Nat.zero_le _,h0⟩,?_⟩;rintro i m σ H ⟨rfl,hi,p⟩
 have q:=hl i σ H hi p
 by_cases hlt:i < xs.length
 ·refine .inr ⟨⟨xs,xs[i],q,by simp [hlt]⟩,Pv (i+1),λσ' H' p'=>⟨xs.length - (i+1),by omega,rfl,hlt,p'⟩,λx H' y=>?_⟩;obtain ⟨T,vs,nT,rfl,rfl,x,rfl,hx⟩:=y;exact hs i x T σ H (hx xs q) p nT
 ·have e:i=xs.length:=by omega
  subst e;exact .inl ⟨⟨xs,q,Nat.le_refl _⟩,hd σ H p⟩
section
variable {X:Cx}
end
section
variable {X:Cx}
end
section
variable {X:Cx}
def rInD (K:W.Frag) (no:Bool):R2:=λx y H Q=>∃ d ds a ys,yX K H d x/\y=.ref a/\SqL K H a ys/\DatAll K H ds ys/\PyData.canLayAll0 ds=true/\d.canLay0=true/\PyData.depthAll ds<=60/\Q (.bl (Bool.xor no (ds.any λe=>PyData.eqv e d))) H
theorem FG (hu:X.A.units+64 < cLine):OpR X (compareOp .In) (rInD X.K false):=by
 intro pins s σ H x y u v Q I rx ry h;obtain ⟨d,ds,a,ys,hx,rfl,hl,hd,c1,c2,c3,q⟩:=h;obtain ⟨bs,r1⟩:=hx.reads I rx;obtain ⟨as,r2⟩:=yX.reads I (d:=.list ds) (v:=.ref a) (.inr ⟨ds,a,ys,rfl,rfl,hl,hd⟩) ry;refine PySem.SeqAt.in_list_reads r2 r1 c1 c2 (by have:=Nat.min_le_left (PyData.depthAll ds) d.depth;omega) ⟨_,H,I,?_,q⟩;exact congrArg Value.bool (Bool.false_xor _).symm
end
section
variable {X:Cx}
end
end L2
namespace Mine
open PySem L2
def kD:Key->PyData
 | .inl i=>.int i
 | .inr x=>.str x
def rwD (r:Rw):PyData:=.tuple (r.map kD)
theorem kD_eqv (a b:Key):PyData.eqv (kD a) (kD b)=decide (a=b):=by
 cases a <;> cases b <;> simp [kD,PyData.eqv] <;> (rw [Bool.eq_iff_iff];simp)
theorem rwD_eqv (a b:Rw):PyData.eqv (rwD a) (rwD b)=decide (a=b):=by
 simp only [rwD,PyData.eqv];exact qO kD_eqv a b
theorem kD_dat {K:W.Frag} {H:Hp} (k:Key):Dat K H (kD k) (kV k):=by cases k <;> rfl
theorem GG {K:W.Frag} {H:Hp}:∀ r:Rw,DatAll K H (r.map kD) (r.map kV)
 | []=>rfl
 | k::r=>⟨_,_,rfl,kD_dat k,GG r⟩
theorem RwV.dat {K:W.Frag} {H:Hp} {v:V} {r:Rw} (h:RwV H v r):Dat K H (rwD r) v:=by
 obtain ⟨a,rfl,e⟩:=h;exact ⟨a,_,rfl,SqT.of e,GG r⟩
theorem RwV.all {K:W.Frag} {H:Hp} {vs:List V} {rs:List Rw} (h:aZ (RwV H) vs rs):DatAll K H (rs.map rwD) vs:=by
 induction h with
 | nil=>rfl
 | cons r _ ih=>exact ⟨_,_,rfl,r.dat,ih⟩
def KOk:Key->Prop
 | .inl _=>True
 | .inr x=>PyData.strOk x=true
def oj (r:Rw):Prop:=∀ k∈r,KOk k
theorem kD_lay {k:Key} (h:KOk k):(kD k).canLay0=true:=by
 cases k with
 | inl _=>rfl
 | inr x=>simp only [kD,PyData.canLay0];exact h
theorem BV:∀{r:Rw},oj r->PyData.canLayAll0 (r.map kD)=true
 | [],_=>rfl
 | k::r,h=>by simp [PyData.canLayAll0,kD_lay (h k (by simp)),BV (r:=r) λx hx=>h x (List.mem_cons_of_mem _ hx)]
theorem iw {x:Str} {is:List Nat} (h:PyData.strOk x=true):oj (eQ x is):=λk hk=>by
 rcases List.mem_cons.mp hk with rfl | hk
 ·exact h
 ·obtain ⟨i,_,rfl⟩:=List.mem_map.mp hk;exact True.intro
theorem kY {rs:List Rw} {r:Rw} (h:∀ x∈rs,oj x) (hr:oj r):∀ x∈(bA rs r).1,oj x:=by
 unfold bA;cases idx rs r with
 | some i=>exact h
 | none =>
  intro x hx;rcases List.mem_append.mp hx with hx | hx
  ·exact h x hx
  ·rw [List.mem_singleton.mp hx];exact hr
theorem w5_ok (w:W5):PyData.strOk w.str=true:=by cases w <;> decide+kernel
theorem word_ok (t:Tr):PyData.strOk t.word=true:=by
 cases t with
 | fold w a b=>exact w5_ok w
 | never=>show PyData.strOk "never"=true;decide+kernel
 | always=>show PyData.strOk "always"=true;decide+kernel
 | lp=>show PyData.strOk "p"=true;decide+kernel
 | lq=>show PyData.strOk "q"=true;decide+kernel
 | no t=>show PyData.strOk "not"=true;decide+kernel
theorem qA:∀(t:Tr) (rs:List Rw),(∀ x∈rs,oj x)->∀ x∈(t.putR rs).1,oj x
 | .no t,rs,h=>kY (qA t rs h) (iw (by decide+kernel))
 | .fold w a b,rs,h=>kY (qA b _ (qA a rs h)) (iw (w5_ok w))
 | .never,rs,h=>kY h (iw (by decide+kernel))
 | .always,rs,h=>kY h (iw (by decide+kernel))
 | .lp,rs,h=>kY h (iw (by decide+kernel))
 | .lq,rs,h=>kY h (iw (by decide+kernel))
theorem uY:∀ r:Rw,PyData.depthAll (r.map kD)=0
 | []=>rfl
 | k::r=>by
  rw [List.map_cons];show max (kD k).depth (PyData.depthAll (r.map kD))=0;rw [uY r];cases k <;> rfl
theorem zy {r:Rw} (h:oj r):(rwD r).canLay0=true:=by simp only [rwD,PyData.canLay0];exact BV h
theorem vE:∀{rs:List Rw},(∀ x∈rs,oj x)->PyData.canLayAll0 (rs.map rwD)=true
 | [],_=>rfl
 | r::rs,h=>by simp [PyData.canLayAll0,zy (h r (by simp)),vE (rs:=rs) λx hx=>h x (List.mem_cons_of_mem _ hx)]
theorem EU (r:Rw):(rwD r).depth<=1:=by
 show PyData.depthAll (r.map kD)+1<=1;rw [uY];exact Nat.le_refl _
theorem oO:∀ rs:List Rw,PyData.depthAll (rs.map rwD)<=1
 | []=>Nat.zero_le _
 | r::rs=>by
  rw [List.map_cons];show max (rwD r).depth (PyData.depthAll (rs.map rwD))<=1;exact Nat.max_le.mpr ⟨EU r,oO rs⟩
theorem Bw (rs:List Rw) (r:Rw):((rs.map rwD).any λy=>PyData.eqv y (rwD r))=(idx rs r).isSome:=by
 induction rs with
 | nil=>rfl
 | cons x t ih =>
  rw [List.map_cons,List.any_cons,ih,rwD_eqv];show _=(if x=r then some 0 else (idx t r).map (·+1)).isSome
  by_cases z:x=r
  ·rw [if_pos z,decide_eq_true z];rfl
  ·rw [if_neg z,decide_eq_false z];cases idx t r <;> rfl
inductive Gr where
 | ne | al | p | q
 | no (i:Nat)
 | fold (u:W5) (i j:Nat)
def Gr.word:Gr->Str
 | .ne=>"never" | .al=>"always" | .p=>"p" | .q=>"q" | .no _=>"not" | .fold u _ _=>u.str
def Gr.nums:Gr->List Nat
 | .no i=>[i]
 | .fold _ i j=>[i,j]
 | _=>[]
def Gr.rw (g:Gr):Rw:=eQ g.word g.nums
def oo (k:Nat) (g:Gr):Prop:=∀ i∈g.nums,i < k
def vp (gs:List Gr):Prop:=∀ k g,gs[k]?=some g->oo k g
theorem Gr.len (g:Gr):g.nums.length<=2:=by cases g <;> simp [Gr.nums]
def Gr.worth (n x y:Int) (ws:List Int):Gr->Int
 | .ne=>0 | .al=>n | .p=>x | .q=>y
 | .no i=>n - ws.getD i 0
 | .fold u i j=>u.worth n (ws.getD i 0) (ws.getD j 0)
def aR (n x y:Int):List Gr->List Int->List Int
 | [],ws=>ws
 | g::r,ws=>aR n x y r (ws++[g.worth n x y ws])
def BU (n x y:Int) (gs:List Gr):Int:=(aR n x y gs []).getLastD 0
theorem ip (n x y:Int):∀(gs:List Gr) (ws:List Int),(aR n x y gs ws).length=ws.length+gs.length
 | [],ws=>rfl
 | g::r,ws=>by
  show (aR n x y r (ws++[g.worth n x y ws])).length=_;rw [ip n x y r,List.length_append,List.length_cons,List.length_cons,List.length_nil];omega
theorem vq (n x y:Int) (gs:List Gr) (i:Nat) (g:Gr) (h:gs[i]?=some g):aR n x y (gs.take (i+1)) []=aR n x y (gs.take i) []++[g.worth n x y (aR n x y (gs.take i) [])]:=by
 have key:∀(a:List Gr) (ws:List Int),aR n x y (a++[g]) ws=aR n x y a ws++[g.worth n x y (aR n x y a ws)]:=by
  intro a
  induction a with
  | nil=>intro ws;rfl
  | cons b r ih=>intro ws;exact ih _
 rw [List.take_add_one,h];exact key _ _
def TK:List (Str×Int):=[("never",0),("always",0),("p",0),("q",0),("not",1),("more",2),("less",2),("greater",2),("lesser",2),("leads",2)]
theorem tk_of (g:Gr):PyProof.Rows.KTD.datumAt g.word TK=some (g.nums.length:Int):=by
 cases g with
 | fold u i j =>
  show PyProof.Rows.KTD.datumAt u.str TK=some 2;cases u <;> decide+kernel
 | no i=>show PyProof.Rows.KTD.datumAt ("not":Str) TK=some 1;decide+kernel
 | _=>decide+kernel
def GrT (ts:List Tr):Gr->Tr->Prop
 | .ne,.never=>True
 | .al,.always=>True
 | .p,.lp=>True
 | .q,.lq=>True
 | .no i,.no t=>ts[i]?=some t
 | .fold u i j,.fold v a b=>u=v/\ts[i]?=some a/\ts[j]?=some b
 | _,_=>False
theorem nY {α:Type} {ts e:List α} {i:Nat} {t:α} (h:ts[i]?=some t):(ts++e)[i]?=some t:=by
 rw [List.getElem?_append_left (List.getElem?_eq_some_iff.mp h).1];exact h
theorem GrT.more {ts e:List Tr} {g:Gr} {t:Tr} (h:GrT ts g t):GrT (ts++e) g t:=by
 cases g <;> cases t <;> first | exact h | exact nY h | exact ⟨h.1,nY h.2.1,nY h.2.2⟩
theorem oE {α:Type} {o:Option α} {a b:α} (h:o=some a) (k:o=some b):a=b:=by rw [h] at k;exact Option.some.inj k
theorem GrT.uniq {ts:List Tr} {g:Gr} {t t':Tr} (h:GrT ts g t) (k:GrT ts g t'):t=t':=by
 cases g with
 | no i =>
  cases t <;> first | exact h.elim | skip
  cases t' <;> first | exact k.elim | skip
  exact congrArg Tr.no (oE h k)
 | fold u i j =>
  cases t <;> first | exact h.elim | skip
  cases t' <;> first | exact k.elim | skip
  obtain ⟨rfl,h1,h2⟩:=h;obtain ⟨rfl,k1,k2⟩:=k;rw [oE h1 k1,oE h2 k2]
 | ne=>cases t <;> first | exact h.elim | (cases t' <;> first | exact k.elim | rfl)
 | al=>cases t <;> first | exact h.elim | (cases t' <;> first | exact k.elim | rfl)
 | p=>cases t <;> first | exact h.elim | (cases t' <;> first | exact k.elim | rfl)
 | q=>cases t <;> first | exact h.elim | (cases t' <;> first | exact k.elim | rfl)
theorem w5_inj {u v:W5} (h:u.str=v.str):u=v:=by
 cases u <;> cases v <;> first | rfl | exact absurd h (by decide+kernel)
theorem ya:∀{a b:List Nat},(a.map λi:Nat=>(Sum.inl (i:Int):Key))=b.map (λi:Nat=>(Sum.inl (i:Int):Key))->a=b
 | [],[],_=>rfl
 | [],_::_,h=>nomatch h
 | _::_,[],h=>nomatch h
 | x::a,y::b,h=>by
  have e1:=(List.cons.inj h).1;have e2:=ya (List.cons.inj h).2;have:(x:Int)=(y:Int):=Sum.inl.inj e1;rw [e2,show x=y by omega]
theorem zA {g k:Gr} (h:g.rw=k.rw):g=k:=by
 have e1:g.word=k.word:=Sum.inr.inj (List.cons.inj h).1;have e2:g.nums=k.nums:=ya (List.cons.inj h).2;cases g with
 | no i =>
  cases k with
  | no j=>rw [show i=j from (List.cons.inj e2).1]
  | fold u a b=>exact absurd (congrArg List.length e2) (by show 1≠2;decide)
  | _=>exact nomatch e2
 | fold u a b =>
  cases k with
  | no j=>exact absurd (congrArg List.length e2) (by show 2≠1;decide)
  | fold v c d =>
   have z:=List.cons.inj e2;rw [w5_inj e1,z.1,(List.cons.inj z.2).1]
  | _=>exact nomatch e2
 | ne=>cases k <;> first | rfl | exact absurd e1 (by decide+kernel) | exact absurd (congrArg List.length e2) (by show 0≠1;decide) | exact absurd (congrArg List.length e2) (by show 0≠2;decide)
 | al=>cases k <;> first | rfl | exact absurd e1 (by decide+kernel) | exact absurd (congrArg List.length e2) (by show 0≠1;decide) | exact absurd (congrArg List.length e2) (by show 0≠2;decide)
 | p=>cases k <;> first | rfl | exact absurd e1 (by decide+kernel) | exact absurd (congrArg List.length e2) (by show 0≠1;decide) | exact absurd (congrArg List.length e2) (by show 0≠2;decide)
 | q=>cases k <;> first | rfl | exact absurd e1 (by decide+kernel) | exact absurd (congrArg List.length e2) (by show 0≠1;decide) | exact absurd (congrArg List.length e2) (by show 0≠2;decide)
inductive Tab:List Gr->List Tr->Prop where
 | nil:Tab [] []
 | snoc {gs:List Gr} {ts:List Tr} {g:Gr} {t:Tr}:Tab gs ts->GrT ts g t->Tab (gs++[g]) (ts++[t])
theorem Tab.len {gs:List Gr} {ts:List Tr} (h:Tab gs ts):gs.length=ts.length:=by
 induction h with
 | nil=>rfl
 | snoc _ _ ih=>rw [List.length_append,List.length_append,ih];rfl
theorem Tab.at {gs:List Gr} {ts:List Tr} (h:Tab gs ts):∀{i:Nat} {g:Gr},gs[i]?=some g->∃ t,ts[i]?=some t/\GrT ts g t:=by
 induction h with
 | nil=>intro i g e;cases e
 | @snoc gs ts g0 t0 h0 r ih =>
  intro i g e
  by_cases z:i < gs.length
  ·rw [List.getElem?_append_left z] at e;obtain ⟨t,e1,e2⟩:=ih e;exact ⟨t,nY e1,e2.more⟩
  ·have z0:i=gs.length:=by
    have:=(List.getElem?_eq_some_iff.mp e).1;rw [List.length_append] at this;simp at this;omega
   subst z0;rw [List.getElem?_concat_length] at e;cases e
   refine ⟨t0,?_,r.more⟩;rw [h0.len,List.getElem?_concat_length]
theorem Tab.push {gs:List Gr} {ts:List Tr} {g:Gr} {t:Tr} (h:Tab gs ts) (r:GrT ts g t):∃ gs' ts',(bA (gs.map Gr.rw) g.rw).1=gs'.map Gr.rw/\Tab gs' ts'/\ts'[(bA (gs.map Gr.rw) g.rw).2]?=some t/\((t∈ts/\ts'=ts)\/ts'=ts++[t]):=by
 unfold bA;cases z:idx (gs.map Gr.rw) g.rw with
 | some i =>
  have e:=wg z;rw [List.getElem?_map] at e;cases y:gs[i]? with
  | none=>rw [y] at e;cases e
  | some k =>
   rw [y] at e;have ek:k=g:=zA (Option.some.inj e);subst ek;obtain ⟨t',e1,e2⟩:=h.at y;have et:=e2.uniq r;subst et;exact ⟨gs,ts,rfl,h,e1,.inl ⟨List.mem_of_getElem? e1,rfl⟩⟩
 | none =>
  refine ⟨gs++[g],ts++[t],by rw [List.map_append];rfl,.snoc h r,?_,.inr rfl⟩;show (ts++[t])[(gs.map Gr.rw).length]?=some t;rw [List.length_map,h.len,List.getElem?_concat_length]
theorem mS (n x y:Int) (g:Gr):∀(a:List Gr) (ws:List Int),aR n x y (a++[g]) ws=aR n x y a ws++[g.worth n x y (aR n x y a ws)]
 | [],ws=>rfl
 | b::r,ws=>mS n x y g r _
theorem GrT.ok {ts:List Tr} {g:Gr} {t:Tr} (h:GrT ts g t):oo ts.length g:=by
 intro k hk;cases g with
 | no i =>
  cases t <;> first | exact h.elim | skip
  rw [show k=i by simpa [Gr.nums] using hk];exact (List.getElem?_eq_some_iff.mp h).1
 | fold u i j =>
  cases t <;> first | exact h.elim | skip
  obtain ⟨_,h1,h2⟩:=h;have z:k=i\/k=j:=by simpa [Gr.nums] using hk
  rcases z with rfl | rfl
  ·exact (List.getElem?_eq_some_iff.mp h1).1
  ·exact (List.getElem?_eq_some_iff.mp h2).1
 | ne=>exact nomatch hk
 | al=>exact nomatch hk
 | p=>exact nomatch hk
 | q=>exact nomatch hk
theorem Tab.ok {gs:List Gr} {ts:List Tr} (h:Tab gs ts):vp gs:=by
 induction h with
 | nil=>intro k g e;cases e
 | @snoc gs ts g0 t0 h0 r ih =>
  intro k g e
  by_cases z:k < gs.length
  ·rw [List.getElem?_append_left z] at e;exact ih k g e
  ·have z0:k=gs.length:=by
    have:=(List.getElem?_eq_some_iff.mp e).1;rw [List.length_append] at this;simp at this;omega
   subst z0;rw [List.getElem?_concat_length] at e;cases e
   rw [h0.len];exact r.ok
theorem oQ (t:Tr):t∈t.post:=by cases t <;> simp [Tr.post]
theorem gK:∀(t x:Tr),x∈t.post->x.size<=t.size
 | .no t,x,h=>by
  rcases List.mem_append.mp (show x∈t.post++[.no t] from h) with h | h
  ·exact Nat.le_succ_of_le (gK t x h)
  ·rw [List.mem_singleton.mp h];exact Nat.le_refl _
 | .fold u a b,x,h=>by
  rcases List.mem_append.mp (show x∈a.post++b.post++[.fold u a b] from h) with h | h
  ·rcases List.mem_append.mp h with h | h
   ·have:=gK a x h;show _<=a.size+b.size+1;omega
   ·have:=gK b x h;show _<=a.size+b.size+1;omega
  ·rw [List.mem_singleton.mp h];exact Nat.le_refl _
 | .never,x,h=>by rw [List.mem_singleton.mp h];exact Nat.le_refl _
 | .always,x,h=>by rw [List.mem_singleton.mp h];exact Nat.le_refl _
 | .lp,x,h=>by rw [List.mem_singleton.mp h];exact Nat.le_refl _
 | .lq,x,h=>by rw [List.mem_singleton.mp h];exact Nat.le_refl _
theorem Fh:∀(t:Tr) {gs:List Gr} {ts:List Tr},Tab gs ts->∃ gs' e,(t.putR (gs.map Gr.rw)).1=gs'.map Gr.rw/\Tab gs' (ts++e)/\(ts++e)[(t.putR (gs.map Gr.rw)).2]?=some t/\(∀ x∈e,x∈t.post)/\(t ∉ ts->∃ e',e=e'++[t]):=by
 have leaf:∀(t:Tr) (g:Gr) {gs:List Gr} {ts:List Tr},Tab gs ts->GrT ts g t->∃ gs' e,(bA (gs.map Gr.rw) g.rw).1=gs'.map Gr.rw/\Tab gs' (ts++e)/\(ts++e)[(bA (gs.map Gr.rw) g.rw).2]?=some t/\(∀ x∈e,x∈t.post)/\(t ∉ ts->∃ e',e=e'++[t]):=by
  intro t g gs ts h r;obtain ⟨gs',ts',e1,e2,e3,e4⟩:=h.push r;rcases e4 with ⟨m,rfl⟩ | rfl
  ·exact ⟨gs',[],e1,by rw [List.append_nil];exact e2,by rw [List.append_nil];exact e3,(λ_ z=>by cases z),λz=>absurd m z⟩
  ·exact ⟨gs',[t],e1,e2,e3,λx z=>by rw [List.mem_singleton.mp z];exact oQ t,λ_=>⟨[],rfl⟩⟩
 intro t
 induction t with
 | never=>intro gs ts h;exact leaf .never .ne h trivial
 | always=>intro gs ts h;exact leaf .always .al h trivial
 | lp=>intro gs ts h;exact leaf .lp .p h trivial
 | lq=>intro gs ts h;exact leaf .lq .q h trivial
 | no t ih =>
  intro gs ts h;obtain ⟨gs1,e,a1,a2,a3,a4,_⟩:=ih h;obtain ⟨gs2,ts2,b1,b2,b3,b4⟩:=a2.push (g:=.no (t.putR (gs.map Gr.rw)).2) (t:=.no t) a3;have key:(Tr.no t).putR (gs.map Gr.rw)=bA (gs1.map Gr.rw) (Gr.rw (.no (t.putR (gs.map Gr.rw)).2)):=by rw [<- a1];rfl
  rw [key];have up:∀ x∈t.post,x∈(Tr.no t).post:=λx z=>List.mem_append.mpr (.inl z);rcases b4 with ⟨m,rfl⟩ | rfl
  ·refine ⟨gs2,e,b1,b2,b3,λx z=>up x (a4 x z),λz=>?_⟩;rcases List.mem_append.mp m with m | m
   ·exact absurd m z
   ·exact absurd (gK _ _ (a4 _ m)) (by show ¬t.size+1<=t.size;omega)
  ·refine ⟨gs2,e++[.no t],b1,by rw [<- List.append_assoc];exact b2,by rw [<- List.append_assoc];exact b3,λx z=>?_,λ_=>⟨e,rfl⟩⟩;rcases List.mem_append.mp z with z | z
   ·exact up x (a4 x z)
   ·rw [List.mem_singleton.mp z];exact oQ _
 | fold u a b iha ihb =>
  intro gs ts h;obtain ⟨gs1,e,a1,a2,a3,a4,_⟩:=iha h;obtain ⟨gs2,f,c1,c2,c3,c4,_⟩:=ihb a2;have a3':=nY (e:=f) a3;obtain ⟨gs3,ts3,b1,b2,b3,b4⟩:=c2.push (g:=.fold u (a.putR (gs.map Gr.rw)).2 (b.putR (gs1.map Gr.rw)).2) (t:=.fold u a b) ⟨rfl,a3',c3⟩
  have key:(Tr.fold u a b).putR (gs.map Gr.rw)=bA (gs2.map Gr.rw) (Gr.rw (.fold u (a.putR (gs.map Gr.rw)).2 (b.putR (gs1.map Gr.rw)).2)):=by
   show bA (b.putR (a.putR (gs.map Gr.rw)).1).1 (eQ u.str [(a.putR (gs.map Gr.rw)).2,(b.putR (a.putR (gs.map Gr.rw)).1).2])=_;rw [a1,c1];rfl
  rw [key];have ua:∀ x∈a.post,x∈(Tr.fold u a b).post:=λx z=>List.mem_append.mpr (.inl (List.mem_append.mpr (.inl z)));have ub:∀ x∈b.post,x∈(Tr.fold u a b).post:=λx z=>List.mem_append.mpr (.inl (List.mem_append.mpr (.inr z)))
  have sz:∀ x∈e++f,x.size<=a.size+b.size/\x∈(Tr.fold u a b).post:=λx z=>by
   rcases List.mem_append.mp z with z | z
   ·exact ⟨Nat.le_trans (gK _ _ (a4 x z)) (Nat.le_add_right _ _),ua x (a4 x z)⟩
   ·exact ⟨Nat.le_trans (gK _ _ (c4 x z)) (Nat.le_add_left _ _),ub x (c4 x z)⟩
  rw [List.append_assoc] at b4;rcases b4 with ⟨m,rfl⟩ | rfl
  ·refine ⟨gs3,e++f,b1,b2,b3,λx z=>(sz x z).2,λz=>?_⟩;rcases List.mem_append.mp m with m | m
   ·exact absurd m z
   ·exact absurd (sz _ m).1 (by show ¬a.size+b.size+1<=a.size+b.size;omega)
  ·refine ⟨gs3,e++f++[.fold u a b],b1,by rw [<- List.append_assoc];exact b2,by rw [<- List.append_assoc];exact b3,λx z=>?_,λ_=>⟨e++f,rfl⟩⟩;rcases List.mem_append.mp z with z | z
   ·exact (sz x z).2
   ·rw [List.mem_singleton.mp z];exact oQ _
theorem Fc (t:Tr):∃ gs ts,t.rows=gs.map Gr.rw/\Tab gs (ts++[t])/\(∀ x∈ts++[t],x∈t.post)/\gs.length<=t.size:=by
 obtain ⟨gs,e,a1,a2,a3,a4,a5⟩:=Fh t (gs:=[]) (ts:=[]) .nil;obtain ⟨e',rfl⟩:=a5 (λz=>nomatch z);have hl:=nH t [];rw [show (t.putR []).1=gs.map Gr.rw from a1,List.length_map] at hl;exact ⟨gs,e',a1,by simpa using a2,a4,by simpa using hl⟩
end Mine
namespace L2
open PySem PySem.Spec PyProof.Rows
variable {X:Cx}
theorem pe_bm0K {K:W.Frag} {T id:String} {name:Str} {r:V->List V->Hp->VK->Prop} {o:Expr} {to:TE} {apos cpos:Pos} (eK:X.K=K) (pa:PlainAttrs T) (slot:Slot T name id) (hty:typeOf (.builtin id)=pure (.type "method_descriptor")) (hm:MtR X id r) (ho:PE X o to)
  (hbase:attributeBase o name X.env (eval o X.env)=eval o X.env:=by rfl) (hline:(apos.endLine == cpos.line)=true:=by rfl):PE X (.Call (.Attribute o name apos) [] [] cpos) (tBM0 K T r to):=eK ▸ mH pa slot hty hm ho hbase hline
def tDead:TS:=λ_ _ _=>False
theorem qB {X:Cx} {s:Stmt}:PS X s tDead:=λ_ _ _ _ _ _ h=>h.elim
theorem vf {X:Cx} (hc:X.calm=true):jI X (.builtin "sum") (λxs H Q=>∃(l:Addr) (ns:List Int),xs=[.ref l]/\SqL X.K H l (ns.map V.int)/\Q (.int ns.sum) H):=by
 intro pins s σ H xs us Q I r h;obtain ⟨l,ns,rfl,hq,q⟩:=h;obtain ⟨u,rfl,rx⟩:=vals1 r;cases rx
 obtain ⟨its,rv,pl,_⟩:=I.list hq;have hi:IntsAre its ns:=intsAre_of rv;have hl:=pl.isList;obtain ⟨ys,e⟩:=hi.allInts.items;have en:ns=ys.toList.map (·.1):=by rw [<- hi.numsOf,<- nums_intItems,<- e]
 rw [e] at hl;refine sum_intListG (I.ok.hd hc) hl λh' tk t' hk=>?_;have es:preSum (numAt ys) ys.size=ns.sum:=by rw [preSum_eq,<- en,List.take_of_length_le (by rw [en];simp)]
 rw [es];exact ⟨.int ns.sum,H,I.kept hk,⟨t',rfl⟩,q⟩
structure oh (K:W.Frag) (mg:Str->Option Value) (x:Str) (D:List (Str×Int)):Prop where
 ex:∃ a o es ep,mg x=some (.ref a)/\(a == sysModules)=false/\K.lookup a=some o/\o.ExactDict/\o.data=.dict es ep/\KTD.Rows (λ(n:Int) v=>∃ t,v=Value.int n t) es.toList D
theorem zj {K:W.Frag} {h:Heap} {mg:Str->Option Value} {x:Str} {a:Addr} {es:Array DictEntry} {ep:Nat} {D:List (Str×Int)} (X:K.In h) (G:h.Ns mainGlobals mg)
  (e:PySem.W.nsIn K mainGlobals x=some (some (.ref a))) (l:K.lookup a=some ⟨.type "dict",none,.dict es ep,#[]⟩) (hs:(a == sysModules)=false) (r:KTD.Rows (λ(n:Int) v=>∃ t,v=Value.int n t) es.toList D):oh K mg x D:=
 ⟨a,_,es,ep,PySem.W.mg_of X G e,hs,l,⟨rfl,rfl,rfl⟩,rfl,r⟩
def tTGet (D:List (Str×Int)) (ty:TE):TE:=λσ H Q=>ty σ H λy H1=>∃ k,y=.str k/\Q (match KTD.datumAt k D with | some n=>.int n | none=>.non) H1
theorem pe_tget {X:Cx} {x:Str} {D:List (Str×Int)} {e:Expr} {p apos cpos:Pos} {ty:TE} (T:oh X.K X.mg x D) (hg:Gl X x) (he:PE X e ty) (m:M1 X (.Name x p) "get" apos e cpos) (hdb:(x == ("__debug__":Str))=false:=by decide) :
  PE X (.Call (.Attribute (.Name x p) "get" apos) [e] [] cpos) (tTGet D ty):=by
 intro pins s σ H Q I h;obtain ⟨a,o,es,ep,hm,hs,lk,xd,dt,rw'⟩:=T.ex
 have tab:∀{s1:Shared} {H1:Hp},Inv X pins σ H1 s1->KTD.TextTab s1.heap a (D.map λq=>(q.1,KTD.Dat.flat (.int q.2))):=λ{s1 H1} I1 =>
  ⟨hs,o,es,ep,I1.kIn _ _ lk,xd,dt,KTD.Rows.mono (R':=KTD.Dat.At s1.heap) (f:=λn=>KTD.Dat.flat (.int n)) (λn v z=>by obtain ⟨t,rfl⟩:=z;exact PyProof.V.Flat.int n t) rw'⟩
 refine wpAny_Call_method m.base m.few m.line PySem.F.plainAttrs_dict PySem.F.slot_dict_get PySem.F.type_dict_get (iz I hg hm ?_ hdb);have T1:KTD.Here s.heap s.heap a _:=⟨tab I,λ_ _ z=>z⟩;refine ⟨T1.typeIs,T1.noDict,?_⟩;rw [m.trees];refine Calls.callWith_builtin rfl (Calls.evalArgs_plain (Calls.spliced_cons (thn (he pins s σ H _ I h) λiv s2 zz=>?_)));obtain ⟨y,H2,I2,ry,k,ek,q2⟩:=zz;refine Calls.spliced_nil ?_;subst ek;obtain ⟨t,rfl⟩:=ry;have T2:KTD.Here s2.heap s2.heap a _:=⟨tab I2,λ_ _ z=>z⟩
 have dm:∀ D':List (Str×Int),KTD.datumAt k (D'.map λq=>(q.1,KTD.Dat.flat (.int q.2)))=(KTD.datumAt k D').map λn=>KTD.Dat.flat (.int n):=by
  intro D'
  induction D' with
  | nil=>rfl
  | cons c D' ih =>
   show (if decide (k=c.1)=true then _ else KTD.datumAt k (D'.map _))=Option.map _ (if decide (k=c.1)=true then _ else KTD.datumAt k D');split
   ·rfl
   ·exact ih
 refine call_meetsIn PySem.F.slot_dict_get T2.typeIs PySem.F.entry_dict_get (PySem.F.args_dict_get_2 _ _) KTD.meets_get1 ⟨T2,λd v e1 e2=>?_,λe1=>?_⟩
 ·rw [dm] at e1;cases hn:KTD.datumAt k D with
  | none=>rw [hn] at e1;cases e1
  | some n =>
   rw [hn] at e1 q2;cases e1
   obtain ⟨t',rfl⟩:=PyProof.V.Flat.int_inv e2;exact ⟨.int n,H2,I2.tok _,⟨t',rfl⟩,q2⟩
 ·rw [dm] at e1;cases hn:KTD.datumAt k D with
  | none =>
   rw [hn] at q2;exact ⟨.non,H2,I2.tok _,rfl,q2⟩
  | some n=>rw [hn] at e1;cases e1
def cw (X:Cx) (xs:List Str) (js:List Nat):List Str:=xs++js.map λj=>X.N.getD j ""
section
variable {X:Cx} {pins:List (Addr×Obj)} {σ:St} {H:Hp} {s:Shared} {scope:Scope} {cl:List (Str×Addr)} {xs:List Str} {js:List Nat} {fp:List Addr} {N:List Str}
theorem Hj (I:Inv X pins σ H s) (hk:scope.kind=.function) (hcell:∀ y∈scope.names,y.2≠.cell)
  (hcl1:∀ y c,cl.lookup y=some c->X.env.cells.lookup y=some c) (hcl2:∀ y,(y,NameKind.free)∈scope.names->∃ c,cl.lookup y=some c)
  (hf:∀ b∈fp,jJ X pins H b) (hlt:∀ b∈fp,b < s.heap.objs.size):(br X scope cl N s H fp).Ok where
 mod:=I.ok.mod
 kind:=hk
 glob:=I.ok.glob
 blt:=I.ok.blt
 above:=Nat.le_refl _
 inj:=λy z c h1 h2=>I.ok.inj y z c (hcl1 y c h1) (hcl1 z c h2)
 has:=λy hy=>by
  have hy':(relabel scope X.env).names.lookup y=some .cell\/(relabel scope X.env).names.lookup y=some .free:=hy;rcases hy' with h | h
  ·obtain ⟨k',m,q⟩:=cN h;rcases q with q | ⟨_,q⟩
   ·exact absurd q (hcell _ m)
   ·subst q;exact hcl2 y m
  ·obtain ⟨k',m,q⟩:=cN h;rcases q with q | ⟨q,_⟩
   ·subst q;exact hcl2 y m
   ·cases q
 cab:=λy c h _=>by cases h
 hd:=I.ok.hd
 frames:=I.ok.frames
 stk:=.inl rfl
 exf:=λb hb=>⟨Nat.ne_of_lt (hlt b hb),λy c h=>(hf b hb).2.2.2.2.1 y c (hcl1 y c h)⟩
 bs:=I.bs
 bsz:=Nat.le_trans I.ok.bsz I.sz
 noex:=λb o e hb=>by
  rcases (hf b hb).2.2.2.1 with z | z
  ·exact I.ok.noex b o e z
  ·exact absurd (Nat.lt_of_lt_of_le (Heap.lt_size e) (Nat.le_trans I.ok.bsz z)) (Nat.lt_irrefl _)
 exfs:=λb hb hz=>(List.mem_cons.mp (I.stkSub b hz)).elim (hf b hb).2.1 (hf b hb).2.2.1
 funs:=I.stack
 frf:=I.stkFree
theorem yG {h₁:Heap} {tk:Nat} (I:Inv X pins σ H s) (hk:scope.kind=.function) (hcell:∀ y∈scope.names,y.2≠.cell)
  (hcl1:∀ y c,cl.lookup y=some c->X.env.cells.lookup y=some c) (hcl2:∀ y,(y,NameKind.free)∈scope.names->∃ c,cl.lookup y=some c) (hjs:fN X scope js)
  (hf:∀ b∈fp,jJ X pins H b) (hlt:∀ b∈fp,b < s.heap.objs.size) {m:Str->Option Value} (hn:h₁.Ns s.heap.objs.size m) (hkeep:∀ b o,s.heap.get? b=some o->h₁.get? b=some o) :
  Inv (br X scope cl (cw X xs js) s H fp) [] (List.replicate xs.length none++dj js σ) H {s with heap:=h₁,toks:=tk} where
 ok:=Hj I hk hcell hcl1 hcl2 hf hlt
 os:=rfl
 bare:=I.bare
 base:=Un.kept hkeep
 loc:=by
  refine ⟨m,hn,λi y v h1 h2 h3=>?_⟩
  by_cases hik:i < xs.length
  ·rw [List.getElem?_append_left (by simpa using hik),List.getElem?_replicate_of_lt hik] at h2;cases h2
  ·generalize hkk:i - xs.length=k
   have h1':(js.map λj=>X.N.getD j "")[k]?=some y:=by
    have q:(xs++js.map λj=>X.N.getD j "")[i]?=some y:=h1;rw [List.getElem?_append_right (by omega),hkk] at q;exact q
   have h2':(js.map λj=>(σ[j]?).getD none)[k]?=some (some v):=by
    rw [List.getElem?_append_right (by simp;omega),List.length_replicate,hkk] at h2;exact h2
   rw [List.getElem?_map] at h1' h2';cases hj:js[k]? with
   | none=>rw [hj] at h1';cases h1'
   | some j =>
    rw [hj] at h1' h2';have e1:X.N.getD j ""=y:=Option.some.inj h1';have e2:(σ[j]?).getD none=some v:=Option.some.inj h2';obtain ⟨y',n1,n2,n3,n4⟩:=hjs.all j (List.mem_of_getElem? hj);have e3:y'=y:=by rw [<- e1,List.getD_eq_getElem?_getD,n1];rfl
    subst e3
    have e4:σ[j]?=some (some v):=by
     cases q:σ[j]? with
     | none=>rw [q] at e2;cases e2
     | some a=>rw [q] at e2;exact congrArg some e2
    obtain ⟨m0,_,hl⟩:=I.loc;obtain ⟨u,r,l⟩:=hl j y' v n1 e4 (n2.elim (λz=>Or.inr (Or.inl z)) λz=>Or.inr (Or.inr z));refine ⟨u,r,.inr ⟨n4,?_⟩⟩;rcases l with ⟨l,_⟩ | ⟨_,c,hc,hi⟩
    ·exfalso;rcases n2 with z | z <;> (rw [z] at l;cases l)
    ·obtain ⟨c',hc'⟩:=hcl2 y' n3;have e5:=hcl1 y' c' hc';rw [hc] at e5;have e6:=Option.some.inj e5;subst e6;obtain ⟨o,ho,hd⟩:=hi;exact ⟨c,hc',o,hkeep c o ho,hd⟩
 cell:=λy c h=>by
  obtain ⟨v,o,ho,hd⟩:=I.cell y c (hcl1 y c h);exact ⟨v,o,hkeep c o ho,hd⟩
 free:=I.hok.fresh (Nat.le_refl _)
 freeC:=λy c h=>I.freeC y c (hcl1 y c h)
 pin:=λp hp=>absurd (show p∈([]:List (Addr×Obj)) from hp) (by simp)
 hok:=I.hok.kept hkeep
 len:=by
  show (List.replicate xs.length none++dj js σ).length=(cw X xs js).length;simp [dj,cw]
end
def zl (n:Nat) (wi:TI) (g:TG) (te:TE) (js:List Nat):TE:=λσ H Q=>wi σ H λJ H1=>∀ D,H1 D=none->
 ∃ W:Nat->Nat->Hp->Prop,(∃ m,W 0 m (upd H1 D (.lst [])))/\∀ i m H2,W i m H2->(J.stop i H2/\Q (.ref D) H2)\/
  (J.go i H2/\∀ o:St,o.length=n->∀ v H3,J.yld i H2 v H3->g v (o++dj js σ) H3 λσ4 H4=>∃ o',o'.length=n/\σ4=o'++dj js σ/\te (o'++dj js σ) H4 λy H5 =>
   ∃ ys,H5 D=some (.lst ys)/\ys.length < sizeLine/\∃ m',m' < m/\W (i+1) m' (upd H5 D (.lst (ys++[y]))))
section
variable {X:Cx} {elt iter:Expr} {xs:List Str} {elts:List Expr} {kk:Nat} {tp pos:Pos} {scope:Scope} {cl:List (Str×Addr)} {wi:TI} {g:TG} {te:TE} {js:List Nat}
theorem Az {use:Option (Value->Sem Unit)} {Qv:Value->Shared->Prop} {pins:List (Addr×Obj)} {s:Shared} {σ:St} {H:Hp} {Q:VK}
  (hc:X.calm=true) (hi:PI X (.Tuple elts kk tp) iter wi) (hk:scope.kind=.function) (hcell:∀ y∈scope.names,y.2≠.cell)
  (hcl1:∀ y c,cl.lookup y=some c->X.env.cells.lookup y=some c) (hcl2:∀ y,(y,NameKind.free)∈scope.names->∃ c,cl.lookup y=some c) (hjs:fN X scope js) (hnd:(cw X xs js).Nodup)
  (hg:∀ s' H' fp,PG (br X scope cl (cw X xs js) s' H' fp) (.Tuple elts kk tp) g) (he:∀ s' H' fp,PE (br X scope cl (cw X xs js) s' H' fp) elt te)
  (I:Inv X pins σ H s) (h:zl xs.length wi g te js σ H Q)
  (fin:∀(D C:Addr) (H':Hp) (s':Shared),Inv X pins σ H' s'->jJ X pins H' C->(∃ m,s'.heap.Ns C m)->Q (.ref D) H'->compPost (model X.prog X.w) X.A X.xe use Qv (.ref D) C (.ok .next) s') :
  wpAny (model X.prog X.w) X.A (eval iter X.env) (λxv s₁=>wpAny (model X.prog X.w) X.A (pyIter xv) (λit s₂=>wpAny (model X.prog X.w) X.A (newList []) (λacc s₃ =>
   wpAny (model X.prog X.w) X.A (newFunctionEnv scope X.env.globals cl [] X.env.qual none .none (some X.env)) (λcenv s₄ =>
    codeAny (model X.prog X.w) X.A (.compStart (.ListComp elt [⟨.Tuple elts kk tp,iter,[],0⟩] scope pos) 0 it acc {cenv with scope:=relabel scope X.env})
     (compPost (model X.prog X.w) X.A X.xe use Qv acc cenv.locals) s₄) X.xe s₃) X.xe s₂) X.xe s₁) X.xe s:=by
 refine thn (hi pins s σ H _ I h) λv s1 h1=>thn h1 λitv s2 h2=>?_;obtain ⟨it,fp,tn,J,H2,e,I2,T,st2,f2,hW⟩:=h2;subst e;obtain ⟨W,⟨m0,w0⟩,turn⟩:=hW s2.heap.objs.size (I2.hok.fresh (Nat.le_refl _));have hlt2:∀ b∈fp,b < s2.heap.objs.size:=λb hb=>let ⟨_,e,_⟩:=T.obj _ _ st2 b hb;Heap.lt_size e
 have I3:Inv X pins σ (upd H2 s2.heap.objs.size (.lst [])) {s2 with heap:=s2.heap.push {cls:=.type "list",data:=.seq ([]:List Value).toArray} }:=
  I2.lnew (t':=s2.toks) (its:=[]) .nil (Nat.zero_le _)
 refine wpAny_newObj_type ?_;have k23:∀ b o,s2.heap.get? b=some o->(s2.heap.push {cls:=.type "list",data:=.seq ([]:List Value).toArray}).get? b=some o:=λb o e=>Heap.get?_push_of_some _ e;have sz3:(s2.heap.push {cls:=.type "list",data:=.seq ([]:List Value).toArray}).objs.size=s2.heap.objs.size+1:=Heap.size_push ..;generalize hs3:({s2 with heap:=s2.heap.push {cls:=.type "list",data:=.seq ([]:List Value).toArray} }:Shared)=s3 at I3
 have hs3':s3.heap=s2.heap.push {cls:=.type "list",data:=.seq ([]:List Value).toArray}:=by rw [<- hs3]
 have hlt3:∀ b∈fp,b < s3.heap.objs.size:=λb hb=>by rw [hs3',sz3];exact Nat.lt_succ_of_lt (hlt2 b hb)
 have f3:∀ b∈fp,jJ X pins (upd H2 s2.heap.objs.size (.lst [])) b:=λb hb=>⟨by rw [aq (Nat.ne_of_lt (hlt2 b hb))];exact (f2 b hb).1,(f2 b hb).2⟩;refine wpAny_newFunctionEnv hcell (by intro y hy;simp at hy) (λh₁ hns hsb=>?_) hk;have k34:∀ b o,s3.heap.get? b=some o->h₁.get? b=some o:=λb o e=>hsb.extBut b o (Nat.ne_of_lt (Heap.lt_size e)) (Heap.get?_push_of_some _ e);have I4:=yG (xs:=xs) (js:=js) (tk:=s3.toks+([]:List (Str×Value)).length) I3 hk hcell hcl1 hcl2 hjs f3 hlt3 hns k34;have st4:tn 0 h₁:=T.keep 0 _ _ st2 λb hb o e=>k34 b o (by rw [hs3'];exact k23 b o e)
 have stat:∀{H':Hp},(∀ b∈fp,H' b=none)->∀ b∈fp,jJ (br X scope cl (cw X xs js) s3 (upd H2 s2.heap.objs.size (.lst [])) fp) [] H' b:=λhn b hb =>
  ⟨hn b hb,Nat.ne_of_lt (hlt3 b hb),λhz=>(List.mem_cons.mp (I3.stkSub b hz)).elim (f2 b hb).2.1 (f2 b hb).2.2.1,.inl hb,λy c q=>(f2 b hb).2.2.2.2.1 y c (hcl1 y c q),λp hp=>absurd (show p∈([]:List (Addr×Obj)) from hp) (by simp)⟩
 have back:∀{σ':St} {H':Hp} {s':Shared},Inv (br X scope cl (cw X xs js) s3 (upd H2 s2.heap.objs.size (.lst [])) fp) [] σ' H' s'->Inv X pins σ H' s':=λ{σ' H' s'} J' =>
  I3.call' (ch:=fp) J'.os J'.base J'.hok J'.bare λb hb=>⟨(f2 b hb).2.2.2.1,(f2 b hb).2.1,(f2 b hb).2.2.2.2.1,(f2 b hb).2.2.2.2.2⟩
 have loop:codeAny (model X.prog X.w) X.A (.compLoop (.ListComp elt [⟨.Tuple elts kk tp,iter,[],0⟩] scope pos) 0 (.ref it) (.ref s2.heap.objs.size) (compEnvC scope cl s3.heap.objs.size X.env))
   (compPost (model X.prog X.w) X.A X.xe use Qv (.ref s2.heap.objs.size) s3.heap.objs.size) {s3 with heap:=h₁,toks:=s3.toks+([]:List (Str×Value)).length}:=by
  refine PyProof.Rows.LCp.codeAny_compLoop_pair (λn s'=>∃(i:Nat) (o:St) (H':Hp),o.length=xs.length/\Inv (br X scope cl (cw X xs js) s3 (upd H2 s2.heap.objs.size (.lst [])) fp) [] (o++dj js σ) H' s'/\tn i s'.heap/\(∀ b∈fp,H' b=none)/\W i n H') ?_ m0
   ⟨0,_,_,List.length_replicate,I4,st4,λb hb=>(f3 b hb).1,w0⟩
  rintro n s5 ⟨i,o,H5,ho,I5,st5,fr5,w5⟩
  rcases turn i n H5 w5 with ⟨stop,q⟩ | ⟨go,step⟩
  ·refine thn (T.done (br X scope cl (cw X xs js) s3 (upd H2 s2.heap.objs.size (.lst [])) fp) rfl rfl rfl hc i [] s5 _ H5 _ I5 (stat fr5) st5 stop) λr s6 zz=>?_;obtain ⟨hr,I6⟩:=zz;subst hr;exact fin _ _ H5 s6 (back I6) (I3.fpOk (Nat.le_refl _) I6.free) (let ⟨m,hm,_⟩:=I6.loc;⟨m,hm⟩) q
  ·refine thn (T.item (br X scope cl (cw X xs js) s3 (upd H2 s2.heap.objs.size (.lst [])) fp) rfl rfl rfl hc i [] s5 _ H5 _ I5 (stat fr5) st5 go) λr s6 zz=>?_;obtain ⟨u,hr,h6⟩:=zz;subst hr;refine wpAny_mono h6 (λ_ s6' q6=>?_) (λ_ _ f=>f);obtain ⟨v,H6,I6,r6,y6,st6,fr6⟩:=q6;have I6':=I6.pinned (stat fr6) (T.obj _ _ st6);refine wpAny_mono (hg s3 _ fp _ s6' _ H6 v u _ I6' r6 (step o ho v H6 y6)) (λ_ s7 q7=>?_) (λ_ _ f=>False.elim f);obtain ⟨σ7,H7,I7,o7,ho7,e7,q7⟩:=q7;subst e7;refine wpAny_mono (he s3 _ fp _ s7 _ H7 _ I7 q7) (λy s9 q9=>?_) (λ_ _ f=>False.elim f);obtain ⟨yv,H9,I9,r9,ys,hD,hl,m',hm,w9⟩:=q9;refine wpAny_mono (bw (X:=br X scope cl (cw X xs js) s3 (upd H2 s2.heap.objs.size (.lst [])) fp) _ s9 _ H9 (.ref s2.heap.objs.size) [yv] (.ref s2.heap.objs.size) [y] (λ_ H'=>H'=upd H9 s2.heap.objs.size (.lst (ys++[yv]))) I9 rfl (.cons r9 .nil) ⟨_,ys,yv,rfl,rfl,hD,hl,rfl⟩) (λ_ s10 q10=>?_) (λ_ _ f=>False.elim f);obtain ⟨_,H10,I10,_,e10⟩:=q10;subst e10;refine ⟨m',hm,i+1,o7,_,ho7,I10.unpinned,T.keep _ _ _ st6 λb hb o e=>(I10.pin (b,o) (List.mem_append_right _ (List.mem_append_right _ (fG hb e)))).1,λb hb=>?_,w9⟩;obtain ⟨o,e,d⟩:=T.obj _ _ st6 b hb;exact (I10.pin (b,o) (List.mem_append_right _ (List.mem_append_right _ (fG hb e)))).2.1
 exact codeAny_compStart_list loop (T.self _ 0 _ _ _ st4 loop)
theorem Fw (hc:X.calm=true) (hi:PI X (.Tuple elts kk tp) iter wi) (hk:scope.kind=.function) (hcell:∀ y∈scope.names,y.2≠.cell) (hnames:∀ y∈scope.names,y.2=.local->scope.names.lookup y.1=some .local)
  (hclos:closureFor scope X.env=pure cl) (hcl1:∀ y c,cl.lookup y=some c->X.env.cells.lookup y=some c) (hcl2:∀ y,(y,NameKind.free)∈scope.names->∃ c,cl.lookup y=some c) (hjs:fN X scope js) (hnd:(cw X xs js).Nodup)
  (hg:∀ s' H' fp,PG (br X scope cl (cw X xs js) s' H' fp) (.Tuple elts kk tp) g) (he:∀ s' H' fp,PE (br X scope cl (cw X xs js) s' H' fp) elt te)
  (hs:∀ x,foldedSetIterable iter X.env x=pure x:=by intro _;rfl):PE X (.ListComp elt [⟨.Tuple elts kk tp,iter,[],0⟩] scope pos) (zl xs.length wi g te js):=by
 intro pins s σ H Q I h;rw [eval_ListComp];refine wpAny_comprehension_free (use:=none) rfl hs hclos hk hnames (Az hc hi hk hcell hcl1 hcl2 hjs hnd hg he I h λD C H' s' I' fC hC q=>?_);obtain ⟨m,hm⟩:=hC;refine ⟨m,hm,λh' sb=>?_⟩;obtain ⟨f0,f1,f2,f3,f4,f5⟩:=fC;exact ⟨.ref D,H',I'.turned (t':=s'.toks) (λb o hb e=>(sb.2 b hb).trans e) f0 f1 f3 f4 f5,rfl,q⟩
theorem lh (hc:X.calm=true) (hi:PI X (.Tuple elts kk tp) iter wi) (hk:scope.kind=.function) (hcell:∀ y∈scope.names,y.2≠.cell) (hnames:∀ y∈scope.names,y.2=.local->scope.names.lookup y.1=some .local)
  (hf:∀ p∈scope.names,p.2=.free->X.env.kindOf p.1=some .cell\/X.env.kindOf p.1=some .free) (hjs:fN X scope js) (hnd:(cw X xs js).Nodup)
  (hg:∀ cl s' H' fp,PG (br X scope cl (cw X xs js) s' H' fp) (.Tuple elts kk tp) g) (he:∀ cl s' H' fp,PE (br X scope cl (cw X xs js) s' H' fp) elt te)
  (hs:∀ x,foldedSetIterable iter X.env x=pure x:=by intro _;rfl):PE X (.ListComp elt [⟨.Tuple elts kk tp,iter,[],0⟩] scope pos) (zl xs.length wi g te js):=by
 intro pins s σ H Q I h;obtain ⟨cl,e,p1,p2⟩:=AB (wq (js:=js) I λy hy=>hf (y,.free) hy rfl);exact Fw hc hi hk hcell hnames e p1 p2 hjs hnd (hg cl) (he cl) hs pins s σ H Q I h
end
end L2
namespace Mine
namespace Ln
def bef (M:List St4):Nat->Int×Int
 | 0=>(0,1)
 | i+1=>match M[i]? with
  | some s=>(s.p,s.q)
  | none=>(0,1)
def cD (A:List St4) (s:St4):List St4:=match A.getLast? with
 | some t=>if t.m=s.m/\t.h=s.h then A.dropLast++[s] else A++[s]
 | none=>A++[s]
def jn (M:List St4):List St4:=M.foldl cD []
theorem jn_snoc (M:List St4) (t:St4):jn (M++[t])=cD (jn M) t:=by
 unfold jn;rw [List.foldl_append];rfl
theorem Ah {A:List St4} {s:St4} (h:∀ t,A.getLast?=some t->t.m≠s.m):cD A s=A++[s]:=by
 unfold cD;cases e:A.getLast? with
 | none=>rfl
 | some t=>simp [h t e]
theorem yw {A:List St4} {t s:St4} (h1:t.m=s.m) (h2:t.h=s.h):cD (A++[t]) s=A++[s]:=by
 unfold cD;rw [List.getLast?_append,List.getLast?_singleton,Option.some_or];simp [h1,h2]
theorem jq {x y:Int} {m n:Nat} (hx:x.natAbs < 2 ^ m) (hy:y.natAbs < 2 ^ n):(x*y).natAbs < 2 ^ (m+n):=by
 rw [Int.natAbs_mul,Nat.pow_add];exact Nat.mul_lt_mul'' hx hy
end Ln
namespace Ln
def OkB (n:Nat) (s:St4):Prop:=0 < s.p/\s.p<=s.q/\Lo.gc s.p s.q=1/\s.q.natAbs < 2 ^ n/\s.m.natAbs < 2 ^ n/\s.h.natAbs < 2 ^ n
theorem OkB.mono {n k:Nat} {s:St4} (h:OkB n s) (e:n<=k):OkB k s:=by
 have:=Nat.pow_le_pow_right (show 0 < 2 by decide) e;obtain ⟨h1,h2,h3,h4,h5,h6⟩:=h;exact ⟨h1,h2,h3,by omega,by omega,by omega⟩
def AdjW (s t:St4):Prop:=s.p*t.q < t.p*s.q/\(t.m - s.m)*s.p+(t.h - s.h)*s.q=0
def ChW:List St4->Prop
 | []=>True
 | [_]=>True
 | s::t::r=>AdjW s t/\ChW (t::r)
def tK (L:List St4):Prop:=∃ s,L.getLast?=some s/\s.p=1/\s.q=1
structure Way (n:Nat) (L:List St4):Prop where
 ok:∀ s∈L,OkB n s
 ch:ChW L
 last:tK L
structure aM (n:Nat) (L:List St4):Prop where
 ok:∀ s∈L,OkB n s
 ch:Ch L
 last:tK L
theorem Ch.way:∀{L:List St4},Ch L->ChW L
 | [],_=>trivial
 | [_],_=>trivial
 | _::_::_,h=>⟨⟨h.1.1,h.1.2.1⟩,Ch.way h.2⟩
theorem aM.way {n:Nat} {L:List St4} (l:aM n L):Way n L:=⟨l.ok,l.ch.way,l.last⟩
theorem tK.tail {s t:St4} {r:List St4} (h:tK (s::t::r)):tK (t::r):=by
 obtain ⟨u,h1,h2⟩:=h;rw [List.getLast?_cons_cons] at h1;exact ⟨u,h1,h2⟩
theorem Way.tail {n:Nat} {s t:St4} {r:List St4} (w:Way n (s::t::r)):Way n (t::r):=⟨λu hu=>w.ok u (List.mem_cons_of_mem _ hu),w.ch.2,w.last.tail⟩
theorem Way.one {n:Nat} {s:St4} (w:Way n [s]):s.p=1/\s.q=1:=by
 obtain ⟨u,h1,h2⟩:=w.last;cases h1
 exact h2
theorem Way.hd {n:Nat} {s:St4} {r:List St4} (w:Way n (s::r)):OkB n s:=w.ok s List.mem_cons_self
theorem Way.ne {n:Nat} (w:Way n []):False:=by
 obtain ⟨u,h1,_⟩:=w.last;cases h1
theorem Way.more {n:Nat} {s:St4} {r:List St4} (w:Way n (s::r)) {p q:Int} (hpq:p<=q) (c:s.p*q < p*s.q):∃ t r',r=t::r':=by
 cases r with
 | nil =>
  obtain ⟨e1,e2⟩:=w.one;rw [e1,e2] at c;omega
 | cons t r'=>exact ⟨t,r',rfl⟩
theorem bq {s:St4} {r:List St4} {p q:Int} (h:s.p*q < p*s.q):pk (s::r) p q=pk r p q:=by
 unfold pk;rw [List.find?_cons];simp only [decide_eq_true h,Bool.not_true]
theorem aV {s:St4} {r:List St4} {p q:Int} (h:¬s.p*q < p*s.q):pk (s::r) p q=some s:=by
 unfold pk;rw [List.find?_cons];simp only [decide_eq_false h,Bool.not_false]
theorem lC {a b c d e f:Int} (hb:0 < b) (hd:0 < d) (hf:0 < f) (h1:a*d < c*b) (h2:¬a*f < e*b):¬c*f < e*d:=by
 intro h;exact h2 (dr hb hd hf h1 h)
theorem OkB.q0 {n:Nat} {s:St4} (h:OkB n s):0 < s.q:=by have:=h.1;have:=h.2.1;omega
theorem Ca {p q a b:Int} (hq:0 < q) (hb:0 < b) (g1:Lo.gc p q=1) (g2:Lo.gc a b=1) (e:p*b=a*q):p=a/\q=b:=by
 obtain ⟨z1,z2⟩:=Lo.BO hq g1;obtain ⟨z3,z4⟩:=Lo.BO hb g2;have t1:=Lo.ym (f:=b) (by omega) p (b:=q) (by omega);have t2:=Lo.yn (f:=b) (by omega) p (b:=q) (by omega);have t3:=Lo.ym (f:=q) (by omega) a (b:=b) (by omega);have t4:=Lo.yn (f:=q) (by omega) a (b:=b) (by omega);have e1:b*p=q*a:=by rw [Int.mul_comm,e,Int.mul_comm]
 rw [e1,Int.mul_comm b q] at t1 t2;exact ⟨by rw [<- z1,<- t1,t3,z3],by rw [<- z2,<- t2,t4,z4]⟩
def jnR:List St4->List St4
 | []=>[]
 | [s]=>[s]
 | s::t::r=>if s.m=t.m/\s.h=t.h then jnR (t::r) else s::jnR (t::r)
theorem wc:∀(r:List St4) (A:List St4) (s:St4),r.foldl cD (A++[s])=A++jnR (s::r)
 | [],_,_=>rfl
 | t::r,A,s=>by
  rw [List.foldl_cons]
  by_cases c:s.m=t.m/\s.h=t.h
  ·rw [yw c.1 c.2,wc r A t];show _=A++(if s.m=t.m/\s.h=t.h then jnR (t::r) else s::jnR (t::r));rw [if_pos c]
  ·have e:cD (A++[s]) t=(A++[s])++[t]:=by
    unfold cD;rw [List.getLast?_append,List.getLast?_singleton,Option.some_or];simp only [c,if_false]
   rw [e,wc r (A++[s]) t];show _=A++(if s.m=t.m/\s.h=t.h then jnR (t::r) else s::jnR (t::r));rw [if_neg c,List.append_assoc];rfl
theorem BW:∀(M:List St4),jn M=jnR M
 | []=>rfl
 | s::r=>by
  have:=wc r [] s;rw [List.nil_append,List.nil_append] at this;rw [<- this];rfl
theorem sO {n:Nat}:∀{s:St4} {r:List St4},Way n (s::r)->∃ u v,jnR (s::r)=u::v/\u.m=s.m/\u.h=s.h/\(u=s\/s.p*u.q < u.p*s.q)/\OkB n u
 | s,[],w=>⟨s,[],rfl,rfl,rfl,.inl rfl,w.hd⟩
 | s,t::r,w=>by
  by_cases c:s.m=t.m/\s.h=t.h
  ·obtain ⟨u,v,e,e1,e2,e3,o⟩:=sO w.tail;refine ⟨u,v,?_,e1.trans c.1.symm,e2.trans c.2.symm,.inr ?_,o⟩
   ·show (if s.m=t.m/\s.h=t.h then jnR (t::r) else s::jnR (t::r))=_;rw [if_pos c,e]
   ·have a:=w.ch.1.1;rcases e3 with rfl | e3
    ·exact a
    ·exact dr w.hd.q0 w.tail.hd.q0 o.q0 a e3
  ·refine ⟨s,jnR (t::r),?_,rfl,rfl,.inl rfl,w.hd⟩;show (if s.m=t.m/\s.h=t.h then jnR (t::r) else s::jnR (t::r))=_;rw [if_neg c]
theorem sN {n:Nat}:∀{M:List St4},Way n M->aM n (jnR M)
 | [],w=>w.ne.elim
 | [s],w=>⟨w.ok,trivial,w.last⟩
 | s::t::r,w=>by
  have L:=sN w.tail
  by_cases c:s.m=t.m/\s.h=t.h
  ·have e:jnR (s::t::r)=jnR (t::r):=by
    show (if s.m=t.m/\s.h=t.h then jnR (t::r) else s::jnR (t::r))=_;rw [if_pos c]
   rw [e];exact L
  ·have e:jnR (s::t::r)=s::jnR (t::r):=by
    show (if s.m=t.m/\s.h=t.h then jnR (t::r) else s::jnR (t::r))=_;rw [if_neg c]
   obtain ⟨u,v,e0,e1,e2,e3,o⟩:=sO w.tail;rw [e];rw [e0] at L ⊢;have a:=w.ch.1;refine ⟨λx hx=>?_,⟨⟨?_,?_,?_⟩,L.ch⟩,?_⟩
   ·rcases List.mem_cons.mp hx with z | z
    ·rw [z];exact w.hd
    ·exact L.ok x z
   ·rcases e3 with rfl | e3
    ·exact a.1
    ·exact dr w.hd.q0 w.tail.hd.q0 o.q0 a.1 e3
   ·rw [e1,e2];exact a.2
   ·intro q;rw [e1] at q;apply c;refine ⟨q.symm,?_⟩;have a2:=a.2;rw [q,Int.sub_self,Int.zero_mul,Int.zero_add] at a2;rcases Int.mul_eq_zero.mp a2 with z | z
    ·omega
    ·have:=w.hd.q0;omega
   ·obtain ⟨x,h1,h2⟩:=L.last;exact ⟨x,by rw [List.getLast?_cons_cons];exact h1,h2⟩
theorem sM {n:Nat} {p q:Int} (hq:0 < q) (hpq:p<=q):∀{M:List St4},Way n M->∃ s u,pk M p q=some s/\pk (jnR M) p q=some u/\u.m=s.m/\u.h=s.h
 | [],w=>w.ne.elim
 | [s],w=>by
  obtain ⟨e1,e2⟩:=w.one;have:pk [s] p q=some s:=aV (by rw [e1,e2];omega);exact ⟨s,s,this,this,rfl,rfl⟩
 | s::t::r,w=>by
  by_cases c:s.m=t.m/\s.h=t.h
  ·have e:jnR (s::t::r)=jnR (t::r):=by
    show (if s.m=t.m/\s.h=t.h then jnR (t::r) else s::jnR (t::r))=_;rw [if_pos c]
   rw [e]
   by_cases l:s.p*q < p*s.q
   ·rw [bq l];exact sM hq hpq w.tail
   ·obtain ⟨u,v,e0,e1,e2,e3,o⟩:=sO w.tail;refine ⟨s,u,aV l,?_,e1.trans c.1.symm,e2.trans c.2.symm⟩;rw [e0];refine aV ?_
    have lt:s.p*u.q < u.p*s.q:=by
     rcases e3 with rfl | e3
     ·exact w.ch.1.1
     ·exact dr w.hd.q0 w.tail.hd.q0 o.q0 w.ch.1.1 e3
    exact lC w.hd.q0 o.q0 hq lt l
  ·have e:jnR (s::t::r)=s::jnR (t::r):=by
    show (if s.m=t.m/\s.h=t.h then jnR (t::r) else s::jnR (t::r))=_;rw [if_neg c]
   rw [e]
   by_cases l:s.p*q < p*s.q
   ·rw [bq l,bq l];exact sM hq hpq w.tail
   ·exact ⟨s,s,aV l,aV l,rfl,rfl⟩
end Ln
namespace Ln
structure Pc where
 p:Int
 q:Int
 a:St4
 b:St4
def sbA (a:St4) (f:List St4->List Pc):List St4->List Pc
 | []=>[]
 | b::B =>
  if a.p*b.q < b.p*a.q then ⟨a.p,a.q,a,b⟩::f (b::B)
  else if a.p=b.p/\a.q=b.q then ⟨b.p,b.q,a,b⟩::f B
  else ⟨b.p,b.q,a,b⟩::sbA a f B
def sb0:List St4->List St4->List Pc
 | [] => λ_=>[]
 | a::A => sbA a (sb0 A)
@[irreducible] def sbs (A B:List St4):List Pc:=sb0 A B
theorem sbI {a b:St4} {A B:List St4}:sbs (a::A) (b::B)=if a.p*b.q < b.p*a.q then ⟨a.p,a.q,a,b⟩::sbs A (b::B) else if a.p=b.p/\a.q=b.q then ⟨b.p,b.q,a,b⟩::sbs A B else ⟨b.p,b.q,a,b⟩::sbs (a::A) B:=by unfold sbs;rfl
theorem nA (B:List St4):sbs [] B=[]:=by unfold sbs;rfl
theorem rM:∀(A:List St4),sbs A []=[]
 | []=>by unfold sbs;rfl
 | _::_=>by unfold sbs;rfl
theorem rN {a b:St4} {A B:List St4} (h:a.p*b.q < b.p*a.q):sbs (a::A) (b::B)=⟨a.p,a.q,a,b⟩::sbs A (b::B):=by rw [sbI,if_pos h]
theorem rQ {a b:St4} {A B:List St4} (e:a.p=b.p/\a.q=b.q):sbs (a::A) (b::B)=⟨b.p,b.q,a,b⟩::sbs A B:=by rw [sbI,if_neg (by rw [e.1,e.2];omega),if_pos e]
theorem rP {a b:St4} {A B:List St4} (h:¬a.p*b.q < b.p*a.q) (e:¬ (a.p=b.p/\a.q=b.q)):sbs (a::A) (b::B)=⟨b.p,b.q,a,b⟩::sbs (a::A) B:=by rw [sbI,if_neg h,if_neg e]
theorem jw {n:Nat} {a b:St4} (ha:OkB n a) (hb:OkB n b):a.p*b.q < b.p*a.q\/(a.p=b.p/\a.q=b.q)\/(b.p*a.q < a.p*b.q/\¬a.p*b.q < b.p*a.q/\¬ (a.p=b.p/\a.q=b.q)):=by
 rcases Int.lt_trichotomy (a.p*b.q) (b.p*a.q) with h | h | h
 ·exact .inl h
 ·exact .inr (.inl (Ca ha.q0 hb.q0 ha.2.2.1 hb.2.2.1 h))
 ·refine .inr (.inr ⟨h,by omega,λe=>?_⟩);rw [e.1,e.2] at h;omega
theorem kU:∀(A B:List St4),(sbs A B).length<=A.length+B.length
 | [],B=>by rw [nA];exact Nat.zero_le _
 | _::_,[]=>by rw [rM];exact Nat.zero_le _
 | a::A,b::B=>by
  by_cases h:a.p*b.q < b.p*a.q
  ·rw [rN h];have:=kU A (b::B);simp only [List.length_cons] at *;omega
  ·by_cases e:a.p=b.p/\a.q=b.q
   ·rw [rQ e];have:=kU A B;simp only [List.length_cons] at *;omega
   ·rw [rP h e];have:=kU (a::A) B;simp only [List.length_cons] at *;omega
termination_by A B=>A.length+B.length
def pkP (P:List Pc) (p q:Int):Option Pc:=P.find? λc=>!decide (c.p*q < p*c.q)
theorem rV {c:Pc} {r:List Pc} {p q:Int} (h:c.p*q < p*c.q):pkP (c::r) p q=pkP r p q:=by
 unfold pkP;rw [List.find?_cons];simp only [decide_eq_true h,Bool.not_true]
theorem oR {c:Pc} {r:List Pc} {p q:Int} (h:¬c.p*q < p*c.q):pkP (c::r) p q=some c:=by
 unfold pkP;rw [List.find?_cons];simp only [decide_eq_false h,Bool.not_false]
theorem rL {n:Nat} {p q:Int} (hq:0 < q) (hpq:p<=q):∀(A B:List St4),Way n A->Way n B->∃ c,pkP (sbs A B) p q=some c/\pk A p q=some c.a/\pk B p q=some c.b
 | [],_,w,_=>w.ne.elim
 | _::_,[],_,w=>w.ne.elim
 | a::A,b::B,wa,wb=>by
  rcases jw wa.hd wb.hd with h | h | ⟨h,h1,h2⟩
  ·rw [rN h]
   by_cases l:a.p*q < p*a.q
   ·obtain ⟨t,A',rfl⟩:=wa.more hpq l;rw [rV (c:=⟨a.p,a.q,a,b⟩) l,bq (s:=a) l];exact rL hq hpq (t::A') (b::B) wa.tail wb
   ·exact ⟨⟨a.p,a.q,a,b⟩,oR (c:=⟨a.p,a.q,a,b⟩) l,aV l,aV (lC wa.hd.q0 wb.hd.q0 hq h l)⟩
  ·rw [rQ h]
   by_cases l:b.p*q < p*b.q
   ·have la:a.p*q < p*a.q:=by rw [h.1,h.2];exact l
    obtain ⟨t,A',rfl⟩:=wa.more hpq la;obtain ⟨u,B',rfl⟩:=wb.more hpq l;rw [rV (c:=⟨b.p,b.q,a,b⟩) l,bq (s:=a) la,bq (s:=b) l];exact rL hq hpq (t::A') (u::B') wa.tail wb.tail
   ·have la:¬a.p*q < p*a.q:=by rw [h.1,h.2];exact l
    exact ⟨⟨b.p,b.q,a,b⟩,oR (c:=⟨b.p,b.q,a,b⟩) l,aV la,aV l⟩
  ·rw [rP h1 h2]
   by_cases l:b.p*q < p*b.q
   ·obtain ⟨u,B',rfl⟩:=wb.more hpq l;rw [rV (c:=⟨b.p,b.q,a,b⟩) l,bq (s:=b) l];exact rL hq hpq (a::A) (u::B') wa wb.tail
   ·exact ⟨⟨b.p,b.q,a,b⟩,oR (c:=⟨b.p,b.q,a,b⟩) l,aV (lC wb.hd.q0 wa.hd.q0 hq h l),aV l⟩
termination_by A B=>A.length+B.length
def HL (c d:Pc):Prop:=c.p*d.q < d.p*c.q/\(d.a.m - c.a.m)*c.p+(d.a.h - c.a.h)*c.q=0/\(d.b.m - c.b.m)*c.p+(d.b.h - c.b.h)*c.q=0
def ChP:List Pc->Prop
 | []=>True
 | [_]=>True
 | c::d::r=>HL c d/\ChP (d::r)
theorem ChP.cons {c:Pc} {r:List Pc} (h:ChP r) (k:∀ d r',r=d::r'->HL c d):ChP (c::r):=by
 cases r with
 | nil=>trivial
 | cons d r'=>exact ⟨k d r' rfl,h⟩
structure wC (n:Nat) (c:Pc):Prop where
 a:OkB n c.a
 b:OkB n c.b
 e:0 < c.p/\c.p<=c.q/\Lo.gc c.p c.q=1/\c.q.natAbs < 2 ^ n
theorem rO {n:Nat} {a b:St4} {A B:List St4} (ha:OkB n a) (hb:OkB n b):∃ c r,sbs (a::A) (b::B)=c::r/\c.a=a/\c.b=b/\((c.p=a.p/\c.q=a.q)\/(c.p=b.p/\c.q=b.q)):=by
 rcases jw ha hb with h | h | ⟨h,h1,h2⟩
 ·exact ⟨_,_,rN h,rfl,rfl,.inl ⟨rfl,rfl⟩⟩
 ·exact ⟨_,_,rQ h,rfl,rfl,.inr ⟨rfl,rfl⟩⟩
 ·exact ⟨_,_,rP h1 h2,rfl,rfl,.inr ⟨rfl,rfl⟩⟩
theorem self0 (s:St4) (p q:Int):(s.m - s.m)*p+(s.h - s.h)*q=0:=by
 rw [Int.sub_self,Int.sub_self,Int.zero_mul,Int.zero_mul];rfl
theorem Way.only {n:Nat} {s:St4} {r:List St4} (w:Way n (s::r)) (e:s.p=s.q):r=[]:=by
 cases r with
 | nil=>rfl
 | cons t r' =>
  exfalso;have h:=w.ch.1.1;have o:=w.tail.hd;have q0:=w.hd.q0;rw [e] at h;have h2:s.q*t.q < s.q*t.p:=by rw [Int.mul_comm s.q t.p];exact h
  have:=Int.lt_of_mul_lt_mul_left h2 (by omega);have:=o.2.1;omega
theorem kT {n:Nat}:∀(A B:List St4),Way n A->Way n B->(∀ c∈sbs A B,wC n c)/\ChP (sbs A B)/\∃ c,(sbs A B).getLast?=some c/\c.p=1/\c.q=1
 | [],_,w,_=>w.ne.elim
 | _::_,[],_,w=>w.ne.elim
 | a::A,b::B,wa,wb=>by
  have oa:=wa.hd;have ob:=wb.hd;have okA:∀{p q:Int},p=a.p->q=a.q->wC n ⟨p,q,a,b⟩:=λe1 e2=>by subst e1 e2;exact ⟨oa,ob,oa.1,oa.2.1,oa.2.2.1,oa.2.2.2.1⟩
  have okB:∀{p q:Int},p=b.p->q=b.q->wC n ⟨p,q,a,b⟩:=λe1 e2=>by subst e1 e2;exact ⟨oa,ob,ob.1,ob.2.1,ob.2.2.1,ob.2.2.2.1⟩
  have lastc:∀{c:Pc} {r:List Pc},(∃ d,r.getLast?=some d/\d.p=1/\d.q=1)->∃ d,(c::r).getLast?=some d/\d.p=1/\d.q=1:=λ{c r} ⟨d,h1,h2⟩=>by
   cases r with
   | nil=>cases h1
   | cons x r'=>exact ⟨d,by rw [List.getLast?_cons_cons];exact h1,h2⟩
  have allc:∀{c:Pc} {r:List Pc},wC n c->(∀ d∈r,wC n d)->∀ d∈c::r,wC n d:=λh1 h2 d hd=>by
   rcases List.mem_cons.mp hd with e | e
   ·rw [e];exact h1
   ·exact h2 d e
  rcases jw oa ob with h | h | ⟨h,h1,h2⟩
  ·obtain ⟨t,A',rfl⟩:=wa.more ob.2.1 h;obtain ⟨i1,i2,i3⟩:=kT (t::A') (b::B) wa.tail wb;rw [rN h];refine ⟨allc (okA rfl rfl) i1,i2.cons λd r' e=>?_,lastc i3⟩;obtain ⟨c,r,e0,e1,e2,e3⟩:=rO (A:=A') (B:=B) wa.tail.hd ob;rw [e0] at e;cases e
   refine ⟨?_,?_,?_⟩
   ·show a.p*d.q < d.p*a.q;rcases e3 with ⟨z1,z2⟩ | ⟨z1,z2⟩
    ·rw [z1,z2];exact wa.ch.1.1
    ·rw [z1,z2];exact h
   ·show (d.a.m - a.m)*a.p+(d.a.h - a.h)*a.q=0;rw [e1];exact wa.ch.1.2
   ·show (d.b.m - b.m)*a.p+(d.b.h - b.h)*a.q=0;rw [e2];exact self0 b _ _
  ·rw [rQ h];cases A with
   | nil =>
    obtain ⟨z1,z2⟩:=wa.one;have eb:B=[]:=wb.only (by rw [<- h.1,<- h.2,z1,z2]);subst eb;rw [nA];exact ⟨allc (okB rfl rfl) (λ_ h=>nomatch h),trivial,⟨⟨b.p,b.q,a,b⟩,rfl,by show b.p=1;rw [<- h.1];exact z1,by show b.q=1;rw [<- h.2];exact z2⟩⟩
   | cons t A' =>
    have lb:b.p*t.q < t.p*b.q:=by have:=wa.ch.1.1;rw [h.1,h.2] at this;exact this
    obtain ⟨u,B',rfl⟩:=wb.more wa.tail.hd.2.1 lb;obtain ⟨i1,i2,i3⟩:=kT (t::A') (u::B') wa.tail wb.tail;refine ⟨allc (okB rfl rfl) i1,i2.cons λd r' e=>?_,lastc i3⟩;obtain ⟨c,r,e0,e1,e2,e3⟩:=rO (A:=A') (B:=B') wa.tail.hd wb.tail.hd;rw [e0] at e;cases e
    refine ⟨?_,?_,?_⟩
    ·show b.p*d.q < d.p*b.q;rcases e3 with ⟨z1,z2⟩ | ⟨z1,z2⟩
     ·rw [z1,z2];exact lb
     ·rw [z1,z2];exact wb.ch.1.1
    ·show (d.a.m - a.m)*b.p+(d.a.h - a.h)*b.q=0;rw [e1,<- h.1,<- h.2];exact wa.ch.1.2
    ·show (d.b.m - b.m)*b.p+(d.b.h - b.h)*b.q=0;rw [e2];exact wb.ch.1.2
  ·obtain ⟨u,B',rfl⟩:=wb.more oa.2.1 h;obtain ⟨i1,i2,i3⟩:=kT (a::A) (u::B') wa wb.tail;rw [rP h1 h2];refine ⟨allc (okB rfl rfl) i1,i2.cons λd r' e=>?_,lastc i3⟩;obtain ⟨c,r,e0,e1,e2,e3⟩:=rO (A:=A) (B:=B') oa wb.tail.hd;rw [e0] at e;cases e
   refine ⟨?_,?_,?_⟩
   ·show b.p*d.q < d.p*b.q;rcases e3 with ⟨z1,z2⟩ | ⟨z1,z2⟩
    ·rw [z1,z2];exact h
    ·rw [z1,z2];exact wb.ch.1.1
   ·show (d.a.m - a.m)*b.p+(d.a.h - a.h)*b.q=0;rw [e1];exact self0 a _ _
   ·show (d.b.m - b.m)*b.p+(d.b.h - b.h)*b.q=0;rw [e2];exact wb.ch.1.2
termination_by A B=>A.length+B.length
end Ln
def St4.at (u:St4) (p q:Int):Int:=u.m*p+u.h*q
namespace Ln
def ad (P:List Pc):List St4:=P.map λc=>⟨c.p,c.q,c.a.m+c.b.m,c.a.h+c.b.h⟩
theorem ad_ch:∀{P:List Pc},ChP P->ChW (ad P)
 | [],_=>trivial
 | [_],_=>trivial
 | c::d::r,h=>by
  refine ⟨⟨h.1.1,?_⟩,ad_ch (P:=d::r) h.2⟩;have h1:=h.1.2.1;have h2:=h.1.2.2;show (d.a.m+d.b.m - (c.a.m+c.b.m))*c.p+(d.a.h+d.b.h - (c.a.h+c.b.h))*c.q=0;grind
theorem ad_pk {p q:Int}:∀{P:List Pc} {c:Pc},pkP P p q=some c->pk (ad P) p q=some ⟨c.p,c.q,c.a.m+c.b.m,c.a.h+c.b.h⟩
 | [],_,h=>by cases h
 | d::r,c,h=>by
  by_cases l:d.p*q < p*d.q
  ·rw [rV l] at h;show pk (⟨d.p,d.q,d.a.m+d.b.m,d.a.h+d.b.h⟩::ad r) p q=_;rw [bq (s:=⟨d.p,d.q,d.a.m+d.b.m,d.a.h+d.b.h⟩) l];exact ad_pk h
  ·rw [oR l] at h;cases h
   exact aV (s:=⟨d.p,d.q,d.a.m+d.b.m,d.a.h+d.b.h⟩) l
theorem Ht {n:Nat} {A B:List St4} (wa:Way n A) (wb:Way n B):Way (n+1) (ad (sbs A B)):=by
 obtain ⟨h1,h2,c,h3,h4⟩:=kT A B wa wb;refine ⟨λs hs=>?_,ad_ch h2,⟨_,by unfold ad;rw [List.getLast?_map,h3];rfl,h4⟩⟩;obtain ⟨c,hc,rfl⟩:=List.mem_map.mp hs;obtain ⟨⟨_,_,_,_,a5,a6⟩,⟨_,_,_,_,b5,b6⟩,e1,e2,e3,e4⟩:=h1 c hc;have:2 ^ (n+1)=2 ^ n+2 ^ n:=by rw [Nat.pow_succ];omega
 exact ⟨e1,e2,e3,by show c.q.natAbs < 2 ^ (n+1);omega,by show (c.a.m+c.b.m).natAbs < 2 ^ (n+1);omega,by show (c.a.h+c.b.h).natAbs < 2 ^ (n+1);omega⟩
theorem mL {n:Nat} {A B:List St4} (wa:Way n A) (wb:Way n B):aM (n+1) (jn (ad (sbs A B))):=by rw [BW];exact sN (Ht wa wb)
theorem Hs {n:Nat} {A B:List St4} (wa:Way n A) (wb:Way n B) {p q:Int} (hq:0 < q) (hpq:p<=q) :
  ∃ s t u,pk A p q=some s/\pk B p q=some t/\pk (jn (ad (sbs A B))) p q=some u/\u.at p q=s.at p q+t.at p q:=by
 obtain ⟨c,h1,h2,h3⟩:=rL hq hpq A B wa wb;obtain ⟨v,u,h4,h5,h6,h7⟩:=sM hq hpq (Ht wa wb);rw [ad_pk h1] at h4;cases h4
 refine ⟨c.a,c.b,u,h2,h3,by rw [BW];exact h5,?_⟩;unfold St4.at;rw [h6,h7];show (c.a.m+c.b.m)*p+(c.a.h+c.b.h)*q=_;rw [Int.add_mul,Int.add_mul];omega
theorem Ac {f:St4->St4} (h:∀ s,(f s).p=s.p/\(f s).q=s.q) {p q:Int}:∀(L:List St4),pk (L.map f) p q=(pk L p q).map f
 | []=>rfl
 | s::r=>by
  rw [List.map_cons]
  by_cases l:s.p*q < p*s.q
  ·rw [bq l,bq (by rw [(h s).1,(h s).2];exact l)];exact Ac h r
  ·rw [aV l,aV (by rw [(h s).1,(h s).2];exact l)];rfl
theorem Gw {f:St4->St4} (h:∀ s t,Adj s t->Adj (f s) (f t)):∀{L:List St4},Ch L->Ch (L.map f)
 | [],_=>trivial
 | [_],_=>trivial
 | _::b::r,c=>⟨h _ _ c.1,Gw h (L:=b::r) c.2⟩
theorem yl {f:St4->St4} {n k:Nat} {L:List St4} (h:∀ s,(f s).p=s.p/\(f s).q=s.q) (ha:∀ s t,Adj s t->Adj (f s) (f t)) (hb:∀ s,OkB n s->OkB k (f s)) (l:aM n L):aM k (L.map f):=by
 refine ⟨λs hs=>?_,Gw ha l.ch,?_⟩
 ·obtain ⟨t,ht,rfl⟩:=List.mem_map.mp hs;exact hb t (l.ok t ht)
 ·obtain ⟨s,h1,h2,h3⟩:=l.last;exact ⟨f s,by rw [List.getLast?_map,h1];rfl,by rw [(h s).1];exact h2,by rw [(h s).2];exact h3⟩
def tnS (s:St4):St4:=⟨s.p,s.q,-s.m,-s.h⟩
def rsS (k:Int) (s:St4):St4:=⟨s.p,s.q,s.m,s.h+k⟩
theorem bP {n:Nat} {L:List St4} (l:aM n L):aM n (L.map tnS):=by
 refine yl (λs=>⟨rfl,rfl⟩) (λs t a=>⟨a.1,?_,?_⟩) (λs o=>⟨o.1,o.2.1,o.2.2.1,o.2.2.2.1,?_,?_⟩) l
 ·have:=a.2.1;show (-t.m - -s.m)*s.p+(-t.h - -s.h)*s.q=0;grind
 ·have:=a.2.2;show -t.m≠-s.m;omega
 ·have:=o.2.2.2.2.1;show (-s.m).natAbs < _;omega
 ·have:=o.2.2.2.2.2;show (-s.h).natAbs < _;omega
theorem jZ {n:Nat} {k:Int} {L:List St4} (hk:k.natAbs < 2 ^ n) (l:aM n L):aM (n+1) (L.map (rsS k)):=by
 have e:2 ^ (n+1)=2 ^ n+2 ^ n:=by rw [Nat.pow_succ];omega
 refine yl (λs=>⟨rfl,rfl⟩) (λs t a=>⟨a.1,?_,a.2.2⟩) (λs o=>⟨o.1,o.2.1,o.2.2.1,?_,?_,?_⟩) l
 ·have:=a.2.1;show (t.m - s.m)*s.p+(t.h+k - (s.h+k))*s.q=0;rw [show t.h+k - (s.h+k)=t.h - s.h by omega];exact this
 ·have:=o.2.2.2.1;show s.q.natAbs < _;omega
 ·have:=o.2.2.2.2.1;show s.m.natAbs < _;omega
 ·have:=o.2.2.2.2.2;show (s.h+k).natAbs < _;omega
theorem CB {L:List St4} {p q:Int} {s:St4} (h:pk L p q=some s):pk (L.map tnS) p q=some (tnS s)/\(tnS s).at p q = -(s.at p q):=by
 refine ⟨by rw [Ac (f:=tnS) (λs=>⟨rfl,rfl⟩),h];rfl,?_⟩;show -s.m*p + -s.h*q = -(s.m*p+s.h*q);rw [Int.neg_mul,Int.neg_mul];omega
theorem CO {L:List St4} {k p q:Int} {s:St4} (h:pk L p q=some s):pk (L.map (rsS k)) p q=some (rsS k s)/\(rsS k s).at p q=s.at p q+k*q:=by
 refine ⟨by rw [Ac (f:=rsS k) (λs=>⟨rfl,rfl⟩),h];rfl,?_⟩;show s.m*p+(s.h+k)*q=s.m*p+s.h*q+k*q;rw [Int.add_mul];omega
theorem aM.mono {n k:Nat} {L:List St4} (l:aM n L) (e:n<=k):aM k L:=⟨λs h=>(l.ok s h).mono e,l.ch,l.last⟩
end Ln
namespace Ln
theorem interp (p q p1 q1 p2 q2 s h:Int):(p2*q1 - p1*q2)*(s*p+h*q)=(p2*q - p*q2)*(s*p1+h*q1)+(p*q1 - p1*q)*(s*p2+h*q2):=by grind
theorem between {p q p1 q1 p2 q2 s h:Int} (l:p1*q2 < p2*q1) (l1:p1*q<=p*q1) (l2:p*q2<=p2*q) (d1:0<=s*p1+h*q1) (d2:0<=s*p2+h*q2):0<=s*p+h*q:=by
 have e:=interp p q p1 q1 p2 q2 s h;have z1:0<=(p2*q - p*q2)*(s*p1+h*q1):=Int.mul_nonneg (by omega) d1;have z2:0<=(p*q1 - p1*q)*(s*p2+h*q2):=Int.mul_nonneg (by omega) d2;rcases fJ (s*p+h*q) 0 with z | z
 ·exfalso;have:=Int.mul_neg_of_pos_of_neg (show 0 < p2*q1 - p1*q2 by omega) z;omega
 ·exact z
theorem kE {p q p1 q1 p2 q2 s h:Int} (l:p1*q2 < p2*q1) (l1:p1*q<=p*q1) (l2:p*q2<=p2*q) (d1:s*p1+h*q1<=0) (d2:s*p2+h*q2<=0):s*p+h*q<=0:=by
 have n:∀ x y:Int,-s*x + -h*y = -(s*x+h*y):=λx y=>by rw [Int.neg_mul,Int.neg_mul];omega
 have:=between (s:=-s) (h:=-h) l l1 l2 (by rw [n];omega) (by rw [n];omega);rw [n] at this;omega
theorem BN {p1 q1 p2 q2 x y s h:Int} (hq1:0 < q1) (hq2:0 < q2) (hy:0 < y) (l:p1*q2 < p2*q1) (e:s*x+h*y=0) (d1:0 < s*p1+h*q1) (d2:s*p2+h*q2 < 0):p1*y < x*q1/\x*q2 < p2*y:=by
 refine ⟨?_,?_⟩
 ·rcases fJ (p1*y) (x*q1) with z | z
  ·exact z
  ·exfalso
   have l3:x*q2 < p2*y:=by
    rcases fJ (x*q1) (p1*y) with z' | z'
    ·exact dr hy hq1 hq2 z' l
    ·have e1:x*q1=p1*y:=by omega
     have z1:y*(p1*q2) < y*(p2*q1):=Int.mul_lt_mul_of_pos_left l hy
     have z2:y*(p1*q2)=q1*(x*q2):=by
      rw [<- Int.mul_assoc,Int.mul_comm y p1,<- e1,Int.mul_comm x q1,Int.mul_assoc]
     have z3:y*(p2*q1)=q1*(p2*y):=by rw [Int.mul_comm y,Int.mul_comm p2 q1,Int.mul_assoc]
     rw [z2,z3] at z1;exact Int.lt_of_mul_lt_mul_left z1 (by omega)
   have:=kE (p:=p1) (q:=q1) (p1:=x) (q1:=y) (p2:=p2) (q2:=q2) (s:=s) (h:=h) l3 z (by omega) (by omega) (by omega);omega
 ·rcases fJ (x*q2) (p2*y) with z | z
  ·exact z
  ·exfalso
   have l3:p1*y < x*q1:=by
    rcases fJ (p2*y) (x*q2) with z' | z'
    ·exact dr hq1 hq2 hy l z'
    ·have e1:x*q2=p2*y:=by omega
     have z1:y*(p1*q2) < y*(p2*q1):=Int.mul_lt_mul_of_pos_left l hy;have z2:y*(p1*q2)=q2*(p1*y):=by rw [Int.mul_comm y,Int.mul_comm p1 q2,Int.mul_assoc]
     have z3:y*(p2*q1)=q2*(x*q1):=by
      rw [<- Int.mul_assoc,Int.mul_comm y p2,<- e1,Int.mul_comm x q2,Int.mul_assoc]
     rw [z2,z3] at z1;exact Int.lt_of_mul_lt_mul_left z1 (by omega)
   have:=between (p:=p2) (q:=q2) (p1:=p1) (q1:=q1) (p2:=x) (q2:=y) (s:=s) (h:=h) l3 (by omega) z (by omega) (by omega);omega
theorem Gv {p1 q1 p2 q2 x y s h:Int} (hq1:0 < q1) (hq2:0 < q2) (hy:0 < y) (l:p1*q2 < p2*q1) (e:s*x+h*y=0) (d:(s*p1+h*q1)*(s*p2+h*q2) < 0):p1*y < x*q1/\x*q2 < p2*y:=by
 have n:∀ x y:Int,-s*x + -h*y = -(s*x+h*y):=λx y=>by rw [Int.neg_mul,Int.neg_mul];omega
 rcases Int.lt_trichotomy (s*p1+h*q1) 0 with z | z | z
 ·have z2:0 < s*p2+h*q2:=by
   rcases fJ 0 (s*p2+h*q2) with w | w
   ·exact w
   ·have:=Int.mul_nonneg_of_nonpos_of_nonpos (a:=s*p1+h*q1) (b:=s*p2+h*q2) (by omega) w;omega
  exact BN (s:=-s) (h:=-h) hq1 hq2 hy l (by rw [n];omega) (by rw [n];omega) (by rw [n];omega)
 ·rw [z,Int.zero_mul] at d;omega
 ·have z2:s*p2+h*q2 < 0:=by
   rcases fJ (s*p2+h*q2) 0 with w | w
   ·exact w
   ·have:=Int.mul_nonneg (a:=s*p1+h*q1) (b:=s*p2+h*q2) (by omega) w;omega
  exact BN hq1 hq2 hy l e z z2
noncomputable def gs (sp sq:Int) (c:Pc):List St4:=
 if ((c.a.m - c.b.m)*sp+(c.a.h - c.b.h)*sq)*((c.a.m - c.b.m)*c.p+(c.a.h - c.b.h)*c.q) < 0 then
  [⟨Lo.dw (-(c.a.h - c.b.h)) (c.a.m - c.b.m),Lo.di (-(c.a.h - c.b.h)) (c.a.m - c.b.m),(if 0 < (c.a.m - c.b.m)*sp+(c.a.h - c.b.h)*sq then c.a else c.b).m,(if 0 < (c.a.m - c.b.m)*sp+(c.a.h - c.b.h)*sq then c.a else c.b).h⟩,
  ⟨c.p,c.q,(if 0 < (c.a.m - c.b.m)*c.p+(c.a.h - c.b.h)*c.q then c.a else c.b).m,(if 0 < (c.a.m - c.b.m)*c.p+(c.a.h - c.b.h)*c.q then c.a else c.b).h⟩]
 else if (c.a.m - c.b.m)*sp+(c.a.h - c.b.h)*sq=0 then
  [⟨c.p,c.q,(if 0 < (c.a.m - c.b.m)*c.p+(c.a.h - c.b.h)*c.q then c.a else c.b).m,(if 0 < (c.a.m - c.b.m)*c.p+(c.a.h - c.b.h)*c.q then c.a else c.b).h⟩]
 else [⟨c.p,c.q,(if 0 < (c.a.m - c.b.m)*sp+(c.a.h - c.b.h)*sq then c.a else c.b).m,(if 0 < (c.a.m - c.b.m)*sp+(c.a.h - c.b.h)*sq then c.a else c.b).h⟩]
def mx (c:Pc) (p q:Int):Int:=max (c.a.at p q) (c.b.at p q)
theorem kC (c:Pc) (p q:Int):(c.a.m - c.b.m)*p+(c.a.h - c.b.h)*q=c.a.at p q - c.b.at p q:=by
 unfold St4.at;rw [Int.sub_mul,Int.sub_mul];omega
theorem Cr (p' q':Int) (u:St4) (p q:Int):(St4.mk p' q' u.m u.h).at p q=u.at p q:=rfl
theorem gs_spec {n:Nat} {sp sq:Int} {c:Pc} (hc:wC n c) (h0:0<=sp) (hs:0 < sq) (l:sp*c.q < c.p*sq) :
  (∃ u,gs sp sq c=[u]/\OkB (n+1) u/\u.p=c.p/\u.q=c.q/\∀ p q,sp*q<=p*sq->p*c.q<=c.p*q->u.at p q=mx c p q)\/
  (∃ v u,gs sp sq c=[v,u]/\OkB (n+1) v/\OkB (n+1) u/\u.p=c.p/\u.q=c.q/\sp*v.q < v.p*sq/\AdjW v u/\(∀ p q,sp*q<=p*sq->p*v.q<=v.p*q->v.at p q=mx c p q)/\∀ p q,v.p*q<=p*v.q->p*c.q<=c.p*q->u.at p q=mx c p q):=by
 obtain ⟨⟨_,_,_,_,a5,a6⟩,⟨_,_,_,_,b5,b6⟩,e1,e2,e3,e4⟩:=hc;have cq:0 < c.q:=by omega
 have pw:2 ^ (n+1)=2 ^ n+2 ^ n:=by rw [Nat.pow_succ];omega
 have okE:∀ g:St4,g=c.a\/g=c.b->OkB (n+1) ⟨c.p,c.q,g.m,g.h⟩:=λg hg=>by
  refine ⟨e1,e2,e3,by show c.q.natAbs < _;omega,?_,?_⟩
  ·show g.m.natAbs < _;rcases hg with rfl | rfl <;> omega
  ·show g.h.natAbs < _;rcases hg with rfl | rfl <;> omega
 have pick:∀(b:Prop) [Decidable b],(if b then c.a else c.b)=c.a\/(if b then c.a else c.b)=c.b:=λb _=>by split;exact .inl rfl;exact .inr rfl
 unfold gs;generalize hd1:(c.a.m - c.b.m)*sp+(c.a.h - c.b.h)*sq=d1;generalize hd2:(c.a.m - c.b.m)*c.p+(c.a.h - c.b.h)*c.q=d2
 by_cases k:d1*d2 < 0
 ·rw [if_pos k];right
  have sl:c.a.m - c.b.m≠0:=by
   intro z;rw [z,Int.zero_mul,Int.zero_add] at hd1 hd2;subst hd1 hd2
   have:0<=((c.a.h - c.b.h)*(c.a.h - c.b.h))*(sq*c.q):=Int.mul_nonneg (by
    rcases fJ (c.a.h - c.b.h) 0 with w | w
    ·exact Int.mul_nonneg_of_nonpos_of_nonpos (by omega) (by omega)
    ·exact Int.mul_nonneg w w) (Int.mul_nonneg (by omega) (by omega))
   have e:(c.a.h - c.b.h)*sq*((c.a.h - c.b.h)*c.q)=((c.a.h - c.b.h)*(c.a.h - c.b.h))*(sq*c.q):=by
    generalize c.a.h - c.b.h=z;grind
   omega
  have mq:=Lo.Gz (t:=-(c.a.h - c.b.h)) sl;have ml:=Lo.BP (t:=-(c.a.h - c.b.h)) sl;have mg:=Lo.low_gc (t:=-(c.a.h - c.b.h)) sl;have mr:=rule_at (m:=-(c.a.h - c.b.h)) sl;generalize Lo.dw (-(c.a.h - c.b.h)) (c.a.m - c.b.m)=x at *;generalize Lo.di (-(c.a.h - c.b.h)) (c.a.m - c.b.m)=y at *;have me:(c.a.m - c.b.m)*x+(c.a.h - c.b.h)*y=0:=by rw [mr,Int.neg_mul];omega
  obtain ⟨m1,m2⟩:=Gv hs cq mq l me (by rw [hd1,hd2];exact k)
  have xp:0 < x:=by
   rcases fJ 0 x with z | z
   ·exact z
   ·exfalso;have z1:0<=sp*y:=Int.mul_nonneg h0 (by omega);have z2:x*sq<=0:=Int.mul_nonpos_of_nonpos_of_nonneg z (by omega);omega
  have xy:x < y:=by
   have z1:c.p*y<=c.q*y:=Int.mul_le_mul_of_nonneg_right e2 (by omega);have z2:c.q*x < c.q*y:=by rw [Int.mul_comm c.q x];omega
   exact Int.lt_of_mul_lt_mul_left z2 (by omega)
  have sg1:(0 < d1/\d2 < 0)\/(d1 < 0/\0 < d2):=by
   rcases Int.lt_trichotomy d1 0 with z | z | z
   ·right
    refine ⟨z,?_⟩;rcases fJ 0 d2 with w | w
    ·exact w
    ·have:=Int.mul_nonneg_of_nonpos_of_nonpos (a:=d1) (b:=d2) (by omega) w;omega
   ·rw [z,Int.zero_mul] at k;omega
   ·left
    refine ⟨z,?_⟩;rcases fJ d2 0 with w | w
    ·exact w
    ·have:=Int.mul_nonneg (a:=d1) (b:=d2) (by omega) w;omega
  refine ⟨_,_,rfl,⟨xp,by show x<=y;omega,mg,by show y.natAbs < _;omega,?_,?_⟩,okE _ (pick _),rfl,rfl,m1,⟨m2,?_⟩,?_,?_⟩
  ·show (if 0 < d1 then c.a else c.b).m.natAbs < _;rcases pick (0 < d1) with e | e <;> rw [e] <;> omega
  ·show (if 0 < d1 then c.a else c.b).h.natAbs < _;rcases pick (0 < d1) with e | e <;> rw [e] <;> omega
  ·show ((if 0 < d2 then c.a else c.b).m - (if 0 < d1 then c.a else c.b).m)*x+((if 0 < d2 then c.a else c.b).h - (if 0 < d1 then c.a else c.b).h)*y=0;rcases sg1 with ⟨z1,z2⟩ | ⟨z1,z2⟩
   ·rw [if_neg (by omega),if_pos z1]
    have:(c.b.m - c.a.m)*x+(c.b.h - c.a.h)*y = -((c.a.m - c.b.m)*x+(c.a.h - c.b.h)*y):=by
     rw [show c.b.m - c.a.m = -(c.a.m - c.b.m) by omega,show c.b.h - c.a.h = -(c.a.h - c.b.h) by omega,Int.neg_mul,Int.neg_mul];omega
    rw [this,me];rfl
   ·rw [if_pos z2,if_neg (by omega)];exact me
  ·intro p q hp1 hp2;rw [Cr];unfold mx;rcases sg1 with ⟨z1,z2⟩ | ⟨z1,z2⟩
   ·rw [if_pos z1];have:=between (p:=p) (q:=q) (s:=c.a.m - c.b.m) (h:=c.a.h - c.b.h) m1 hp1 hp2 (by omega) (by omega);rw [kC] at this;omega
   ·rw [if_neg (by omega)];have:=kE (p:=p) (q:=q) (s:=c.a.m - c.b.m) (h:=c.a.h - c.b.h) m1 hp1 hp2 (by omega) (by omega);rw [kC] at this;omega
  ·intro p q hp1 hp2;rw [Cr];unfold mx;rcases sg1 with ⟨z1,z2⟩ | ⟨z1,z2⟩
   ·rw [if_neg (by omega)];have:=kE (p:=p) (q:=q) (s:=c.a.m - c.b.m) (h:=c.a.h - c.b.h) m2 hp1 hp2 (by omega) (by omega);rw [kC] at this;omega
   ·rw [if_pos z2];have:=between (p:=p) (q:=q) (s:=c.a.m - c.b.m) (h:=c.a.h - c.b.h) m2 hp1 hp2 (by omega) (by omega);rw [kC] at this;omega
 ·rw [if_neg k];left
  by_cases z0:d1=0
  ·rw [if_pos z0];refine ⟨_,rfl,okE _ (pick _),rfl,rfl,λp q hp1 hp2=>?_⟩;rw [Cr];unfold mx
   by_cases z:0 < d2
   ·rw [if_pos z];have:=between (p:=p) (q:=q) (s:=c.a.m - c.b.m) (h:=c.a.h - c.b.h) l hp1 hp2 (by omega) (by omega);rw [kC] at this;omega
   ·rw [if_neg z];have:=kE (p:=p) (q:=q) (s:=c.a.m - c.b.m) (h:=c.a.h - c.b.h) l hp1 hp2 (by omega) (by omega);rw [kC] at this;omega
  ·rw [if_neg z0];refine ⟨_,rfl,okE _ (pick _),rfl,rfl,λp q hp1 hp2=>?_⟩;rw [Cr];unfold mx
   by_cases z:0 < d1
   ·rw [if_pos z]
    have w:0<=d2:=by
     rcases fJ d2 0 with w | w
     ·have:=Int.mul_neg_of_pos_of_neg z w;omega
     ·exact w
    have:=between (p:=p) (q:=q) (s:=c.a.m - c.b.m) (h:=c.a.h - c.b.h) l hp1 hp2 (by omega) (by omega);rw [kC] at this;omega
   ·rw [if_neg z]
    have w:d2<=0:=by
     rcases fJ 0 d2 with w | w
     ·have:=Int.mul_neg_of_neg_of_pos (show d1 < 0 by omega) w;omega
     ·exact w
    have:=kE (p:=p) (q:=q) (s:=c.a.m - c.b.m) (h:=c.a.h - c.b.h) l hp1 hp2 (by omega) (by omega);rw [kC] at this;omega
end Ln
namespace Ln
def gr:Int->Int->List Pc->List St4
 | _,_,[]=>[]
 | sp,sq,c::r=>gs sp sq c++gr c.p c.q r
theorem sY {s t:St4}:(t.m - s.m)*s.p+(t.h - s.h)*s.q=t.at s.p s.q - s.at s.p s.q:=by
 unfold St4.at;rw [Int.sub_mul,Int.sub_mul];omega
theorem HL.mx {c d:Pc} (h:HL c d):mx d c.p c.q=mx c c.p c.q:=by
 have h1:=h.2.1;have h2:=h.2.2
 have z1:d.a.at c.p c.q=c.a.at c.p c.q:=by
  have:(d.a.m - c.a.m)*c.p+(d.a.h - c.a.h)*c.q=d.a.at c.p c.q - c.a.at c.p c.q:=by
   unfold St4.at;rw [Int.sub_mul,Int.sub_mul];omega
  omega
 have z2:d.b.at c.p c.q=c.b.at c.p c.q:=by
  have:(d.b.m - c.b.m)*c.p+(d.b.h - c.b.h)*c.q=d.b.at c.p c.q - c.b.at c.p c.q:=by
   unfold St4.at;rw [Int.sub_mul,Int.sub_mul];omega
  omega
 unfold Ln.mx;rw [z1,z2]
theorem BY {n:Nat}:∀(P:List Pc) (c:Pc) (sp sq:Int),0<=sp->0 < sq->sp*c.q < c.p*sq->(∀ d∈c::P,wC n d)->ChP (c::P)->(∃ d,(c::P).getLast?=some d/\d.p=1/\d.q=1)->
  (∀ s∈gr sp sq (c::P),OkB (n+1) s)/\ChW (gr sp sq (c::P))/\tK (gr sp sq (c::P))/\
  (∃ u r,gr sp sq (c::P)=u::r/\sp*u.q < u.p*sq/\u.at sp sq=mx c sp sq)/\
  ∀ p q,0 < q->p<=q->sp*q<=p*sq->∃ d u,pkP (c::P) p q=some d/\pk (gr sp sq (c::P)) p q=some u/\u.at p q=mx d p q
 | P,c,sp,sq,h0,hs,l,ok,ch,last=>by
  have oc:=ok c List.mem_cons_self;have cq:0 < c.q:=by have:=oc.e.1;have:=oc.e.2.1;omega
  have rest:(P=[]/\c.p=1/\c.q=1)\/∃ d r,P=d::r/\HL c d/\
    (∀ s∈gr c.p c.q P,OkB (n+1) s)/\ChW (gr c.p c.q P)/\tK (gr c.p c.q P)/\
    (∃ u r,gr c.p c.q P=u::r/\c.p*u.q < u.p*c.q/\u.at c.p c.q=mx c c.p c.q)/\
    ∀ p q,0 < q->p<=q->c.p*q<=p*c.q->∃ d u,pkP P p q=some d/\pk (gr c.p c.q P) p q=some u/\u.at p q=mx d p q:=by
   cases P with
   | nil =>
    obtain ⟨d,h1,h2⟩:=last;cases h1
    exact .inl ⟨rfl,h2⟩
   | cons d r =>
    right
    have i:=BY r d c.p c.q (by have:=oc.e.1;omega) cq ch.1.1 (λx hx=>ok x (List.mem_cons_of_mem _ hx)) ch.2 (by
     obtain ⟨x,h1,h2⟩:=last;rw [List.getLast?_cons_cons] at h1;exact ⟨x,h1,h2⟩)
    obtain ⟨i1,i2,i3,⟨u,r',i4,i5,i6⟩,i7⟩:=i;exact ⟨d,r,rfl,ch.1,i1,i2,i3,⟨u,r',i4,i5,by rw [i6];exact ch.1.mx⟩,i7⟩
  have joinE:∀ u:St4,OkB (n+1) u->u.p=c.p->u.q=c.q->u.at c.p c.q=mx c c.p c.q->
    (∀ s∈u::gr c.p c.q P,OkB (n+1) s)/\ChW (u::gr c.p c.q P)/\tK (u::gr c.p c.q P):=λu ou e1 e2 e3=>by
   rcases rest with ⟨rfl,z1,z2⟩ | ⟨d,r,_,_,i1,i2,i3,⟨v,r',i4,i5,i6⟩,_⟩
   ·refine ⟨λs hs=>?_,trivial,⟨u,rfl,e1.trans z1,e2.trans z2⟩⟩;rw [List.mem_singleton.mp hs];exact ou
   ·rw [i4] at i1 i2 i3 ⊢;refine ⟨λs hs=>?_,⟨⟨by rw [e1,e2];exact i5,?_⟩,i2⟩,?_⟩
    ·rcases List.mem_cons.mp hs with z | z
     ·rw [z];exact ou
     ·exact i1 s z
    ·rw [sY,e1,e2,i6,e3];omega
    ·obtain ⟨x,h1,h2⟩:=i3;exact ⟨x,by rw [List.getLast?_cons_cons];exact h1,h2⟩
  have nle:∀{a b:Int},¬a < b->b<=a:=λh=>by omega
  have pkR:∀(u:St4),u.p=c.p->u.q=c.q->∀ p q,0 < q->p<=q->(p*c.q<=c.p*q->u.at p q=mx c p q)->
    ∃ d w,pkP (c::P) p q=some d/\pk (u::gr c.p c.q P) p q=some w/\w.at p q=mx d p q:=λu e1 e2 p q hq hpq hm=>by
   by_cases k:c.p*q < p*c.q
   ·rcases rest with ⟨rfl,z1,z2⟩ | ⟨d,r,_,_,_,_,_,_,i7⟩
    ·rw [z1,z2] at k;omega
    ·rw [rV k,bq (s:=u) (by rw [e1,e2];exact k)];exact i7 p q hq hpq (by omega)
   ·exact ⟨c,u,oR k,aV (by rw [e1,e2];exact k),hm (nle k)⟩
  rcases gs_spec oc h0 hs l with ⟨u,g,ou,e1,e2,hm⟩ | ⟨v,u,g,ov,ou,e1,e2,lv,av,hv,hm⟩
  ·have e:gr sp sq (c::P)=u::gr c.p c.q P:=by
    show gs sp sq c++gr c.p c.q P=_;rw [g];rfl
   rw [e];obtain ⟨j1,j2,j3⟩:=joinE u ou e1 e2 (hm _ _ (by omega) (by omega));exact ⟨j1,j2,j3,⟨u,_,rfl,by rw [e1,e2];exact l,hm _ _ (by omega) (by omega)⟩,λp q hq hpq hsp=>pkR u e1 e2 p q hq hpq λz=>hm p q hsp z⟩
  ·have e:gr sp sq (c::P)=v::u::gr c.p c.q P:=by
    show gs sp sq c++gr c.p c.q P=_;rw [g];rfl
   rw [e];have vu:v.p*c.q < c.p*v.q:=by have:=av.1;rw [e1,e2] at this;exact this
   obtain ⟨j1,j2,j3⟩:=joinE u ou e1 e2 (hm _ _ (by omega) (by omega));refine ⟨λs hs=>?_,⟨av,j2⟩,?_,⟨v,_,rfl,lv,hv _ _ (by omega) (by omega)⟩,λp q hq hpq hsp=>?_⟩
   ·rcases List.mem_cons.mp hs with z | z
    ·rw [z];exact ov
    ·exact j1 s z
   ·obtain ⟨x,h1,h2⟩:=j3;exact ⟨x,by rw [List.getLast?_cons_cons];exact h1,h2⟩
   ·by_cases k:v.p*q < p*v.q
    ·rw [bq k];exact pkR u e1 e2 p q hq hpq λz=>hm p q (by omega) z
    ·refine ⟨c,v,oR (lC ov.q0 cq hq vu k),aV k,hv p q hsp (nle k)⟩
theorem pX {n:Nat} {A B:List St4} (wa:Way n A) (wb:Way n B):Way (n+1) (gr 0 1 (sbs A B))/\∀ p q,0 < q->0<=p->p<=q->
  ∃ s t u,pk A p q=some s/\pk B p q=some t/\pk (gr 0 1 (sbs A B)) p q=some u/\u.at p q=max (s.at p q) (t.at p q):=by
 obtain ⟨h1,h2,h3⟩:=kT A B wa wb;cases e:sbs A B with
 | nil =>
  rw [e] at h3;obtain ⟨_,z,_⟩:=h3;cases z
 | cons c P =>
  rw [e] at h1 h2 h3;have oc:=h1 c List.mem_cons_self;obtain ⟨i1,i2,i3,_,i5⟩:=BY P c 0 1 (by omega) (by omega) (by have:=oc.e.1;omega) h1 h2 h3;refine ⟨⟨i1,i2,i3⟩,λp q hq h0 hpq=>?_⟩;obtain ⟨d,u,k1,k2,k3⟩:=i5 p q hq hpq (by omega);obtain ⟨d',k4,k5,k6⟩:=rL hq hpq A B wa wb;rw [e,k1] at k4;cases k4
  exact ⟨d.a,d.b,u,k5,k6,k2,k3⟩
theorem wk {n:Nat} {A B:List St4} (wa:Way n A) (wb:Way n B):aM (n+1) (jn (gr 0 1 (sbs A B))):=by rw [BW];exact sN (pX wa wb).1
theorem Al {n:Nat} {A B:List St4} (wa:Way n A) (wb:Way n B) {p q:Int} (hq:0 < q) (h0:0<=p) (hpq:p<=q) :
  ∃ s t u,pk A p q=some s/\pk B p q=some t/\pk (jn (gr 0 1 (sbs A B))) p q=some u/\u.at p q=max (s.at p q) (t.at p q):=by
 obtain ⟨w,h⟩:=pX wa wb;obtain ⟨s,t,v,h1,h2,h3,h4⟩:=h p q hq h0 hpq;obtain ⟨v',u,h5,h6,h7,h8⟩:=sM hq hpq w;rw [h3] at h5;cases h5
 refine ⟨s,t,u,h1,h2,by rw [BW];exact h6,?_⟩;rw [<- h4];unfold St4.at;rw [h7,h8]
theorem gs_len (sp sq:Int) (c:Pc):(gs sp sq c).length<=2:=by
 unfold gs;split
 ·exact Nat.le_refl _
 ·split <;> exact Nat.le_succ _
end Ln
namespace Ln
structure bU (L:List St4):Prop where
 b:aM 45 L
 few:L.length<=1000
theorem bU.ok {L:List St4} (l:bU L):∀ s∈L,OkB 45 s:=l.b.ok
theorem bU.way {L:List St4} (l:bU L):Way 45 L:=l.b.way
theorem bU.at {L:List St4} (l:bU L) {i:Nat} {s:St4} (h:L[i]?=some s):OkB 45 s:=l.ok s (List.mem_of_getElem? h)
theorem EO {A B:List St4} {i j:Nat} {a b:St4} (ha:A[i]?=some a) (hb:B[j]?=some b) :
  sbs (A.drop i) (B.drop j)=if a.p*b.q < b.p*a.q then ⟨a.p,a.q,a,b⟩::sbs (A.drop (i+1)) (B.drop j) else if a.p=b.p/\a.q=b.q then ⟨b.p,b.q,a,b⟩::sbs (A.drop (i+1)) (B.drop (j+1)) else ⟨b.p,b.q,a,b⟩::sbs (A.drop i) (B.drop (j+1)):=by
 obtain ⟨h1,e1⟩:=List.getElem?_eq_some_iff.mp ha;obtain ⟨h2,e2⟩:=List.getElem?_eq_some_iff.mp hb;have d1:A.drop i=a::A.drop (i+1):=by rw [List.drop_eq_getElem_cons h1,e1]
 have d2:B.drop j=b::B.drop (j+1):=by rw [List.drop_eq_getElem_cons h2,e2]
 by_cases c:a.p*b.q < b.p*a.q
 ·rw [if_pos c,d1];rw [show sbs (a::A.drop (i+1)) (B.drop j)=sbs (a::A.drop (i+1)) (b::B.drop (j+1)) by rw [d2],rN c,d2]
 ·rw [if_neg c]
  by_cases e:a.p=b.p/\a.q=b.q
  ·rw [if_pos e,d1,d2,rQ e]
  ·rw [if_neg e,d2,d1,rP c e]
theorem EN {A B:List St4} {i j:Nat} (h:A.length<=i\/B.length<=j):sbs (A.drop i) (B.drop j)=[]:=by
 rcases h with h | h
 ·rw [List.drop_eq_nil_of_le h,nA]
 ·rw [List.drop_eq_nil_of_le h,rM]
end Ln
namespace Ln
theorem lin0 {a b sp sq ep eq:Int} (he:0 < eq) (l:sp*eq < ep*sq) (h1:a*ep+b*eq=0) (h2:a*(sp+ep)+b*(sq+eq)=0):a=0/\b=0:=by
 have h3:a*sp+b*sq=0:=by grind
 have h4:a*(sp*eq - ep*sq)=0:=by grind
 have a0:a=0:=by
  rcases Int.mul_eq_zero.mp h4 with z | z
  ·exact z
  ·omega
 subst a0;have h5:b*eq=0:=by omega
 rcases Int.mul_eq_zero.mp h5 with z | z
 ·exact ⟨rfl,z⟩
 ·omega
theorem EY {s t:St4} {sp sq ep eq:Int} (he:0 < eq) (l:sp*eq < ep*sq) (h1:s.at ep eq=t.at ep eq) (h2:s.at (sp+ep) (sq+eq)=t.at (sp+ep) (sq+eq)):s.m=t.m/\s.h=t.h:=by
 have e1:s.m*ep+s.h*eq=t.m*ep+t.h*eq:=h1;have e2:s.m*(sp+ep)+s.h*(sq+eq)=t.m*(sp+ep)+t.h*(sq+eq):=h2;obtain ⟨z1,z2⟩:=lin0 (a:=s.m - t.m) (b:=s.h - t.h) he l (by grind) (by grind);omega
theorem med {sp sq ep eq:Int} (hs:0 < sq) (he:0 < eq) (l:sp*eq < ep*sq):0 < sq+eq/\sp*(sq+eq) < (sp+ep)*sq/\(sp+ep)*eq < ep*(sq+eq):=by
 refine ⟨by omega,?_,?_⟩ <;> grind
theorem jv {n m:Nat} {s t:St4} {L M:List St4} {sp sq:Int} (hs:0 < sq) (os:OkB n s) (ot:OkB m t) (l1:sp*s.q < s.p*sq) (l2:sp*t.q < t.p*sq) (hle:s.p*t.q<=t.p*s.q)
  (H:∀ p q,0 < q->sp*q < p*sq->p<=q->∀ a b,pk (s::L) p q=some a->pk (t::M) p q=some b->a.at p q=b.at p q):s.m=t.m/\s.h=t.h:=by
 have hq:=os.q0;have tq:=ot.q0;obtain ⟨m0,m1,m2⟩:=med hs hq l1;have pq:=os.2.1;refine EY hq l1 ?_ ?_
 ·refine H s.p s.q hq l1 pq s t (aV (by omega)) (aV (by omega))
 ·have n1:¬s.p*(sq+s.q) < (sp+s.p)*s.q:=by omega
  have n2:¬t.p*(sq+s.q) < (sp+s.p)*t.q:=by
   intro z;have:=dr (a:=t.p) (b:=t.q) (c:=sp+s.p) (d:=sq+s.q) (e:=s.p) (f:=s.q) tq m0 hq z m2;omega
  refine H (sp+s.p) (sq+s.q) m0 m1 ?_ s t (aV n1) (aV n2);have:(sp+s.p)*s.q < s.p*(sq+s.q):=m2;rcases Int.lt_or_le (sq+s.q) (sp+s.p) with z | z
  ·exfalso;have y1:s.p*(sq+s.q)<=s.q*(sq+s.q):=Int.mul_le_mul_of_nonneg_right pq (by omega);have y2:s.q*(sq+s.q) < s.q*(sp+s.p):=Int.mul_lt_mul_of_pos_left z hq;rw [Int.mul_comm s.q (sp+s.p)] at y2;omega
  ·exact z
theorem wK {n m:Nat}:∀(L M:List St4) (sp sq:Int),0 < sq->(∀ s∈L,OkB n s)->(∀ t∈M,OkB m t)->Ch L->Ch M->tK L->tK M->(∀ s,L.head?=some s->sp*s.q < s.p*sq)->(∀ t,M.head?=some t->sp*t.q < t.p*sq)->
  (∀ p q,0 < q->sp*q < p*sq->p<=q->∀ a b,pk L p q=some a->pk M p q=some b->a.at p q=b.at p q)->L=M
 | [],_,_,_,_,_,_,_,_,e,_,_,_,_=>by obtain ⟨s,h,_⟩:=e;cases h
 | _::_,[],_,_,_,_,_,_,_,_,e,_,_,_=>by obtain ⟨s,h,_⟩:=e;cases h
 | s::L,t::M,sp,sq,hs,oL,oM,cL,cM,eL,eM,lL,lM,H=>by
  have os:=oL s List.mem_cons_self;have ot:=oM t List.mem_cons_self;have sq0:=os.q0;have tq0:=ot.q0;have l1:=lL s rfl;have l2:=lM t rfl
  have ends:∀{n m:Nat} {s t:St4} {L M:List St4},(∀ a∈s::L,OkB n a)->(∀ a∈t::M,OkB m a)->Ch (s::L)->tK (s::L)->s.m=t.m->(∀ p q,0 < q->sp*q < p*sq->p<=q->∀ a b,pk (s::L) p q=some a->pk (t::M) p q=some b->a.at p q=b.at p q)->sp*s.q < s.p*sq->¬s.p*t.q < t.p*s.q:=by
   intro n m s t L M oL oM cL eL em H l1 z;have os:=oL s List.mem_cons_self;have ot:=oM t List.mem_cons_self;have sq0:=os.q0;have tq0:=ot.q0;cases L with
   | nil =>
    obtain ⟨u,hu,u1,u2⟩:=eL;have e:s=u:=by simpa using hu
    subst e;rw [u1,u2] at z;have:=ot.2.1;omega
   | cons u r =>
    have ou:=oL u (List.mem_cons_of_mem _ List.mem_cons_self);have ad:=cL.1;have uq0:=ou.q0;have up:∀ p q,0 < q->s.p*q < p*s.q->sp*q < p*sq:=λp q hq hl=>dr hs sq0 hq l1 hl;have H2:∀ p q,0 < q->s.p*q < p*s.q->p<=q->∀ a b,pk (u::r) p q=some a->pk (t::M) p q=some b->a.at p q=b.at p q:=λp q hq hl hpq a b ha hb=>H p q hq (up p q hq hl) hpq a b (by rw [bq hl];exact ha) hb
    have ru:u.m=t.m:=by
     rcases Int.lt_or_le (t.p*u.q) (u.p*t.q) with y | y
     ·exact (jv (s:=t) (t:=u) (L:=M) (M:=r) sq0 ot ou z ad.1 (by omega) λp q hq hl hpq a b ha hb=>(H2 p q hq hl hpq b a hb ha).symm).1.symm
     ·exact (jv (s:=u) (t:=t) (L:=r) (M:=M) sq0 ou ot ad.1 z (by omega) H2).1
    exact ad.2.2 (by omega)
  have rr:s.m=t.m/\s.h=t.h:=by
   rcases Int.lt_or_le (t.p*s.q) (s.p*t.q) with y | y
   ·have:=jv (s:=t) (t:=s) (L:=M) (M:=L) hs ot os l2 l1 (by omega) λp q hq hl hpq a b ha hb=>(H p q hq hl hpq b a hb ha).symm;exact ⟨this.1.symm,this.2.symm⟩
   ·exact jv hs os ot l1 l2 y H
  have n1:=ends oL oM cL eL rr.1 H l1;have n2:=ends oM oL cM eM rr.1.symm (λp q hq hl hpq a b ha hb=>(H p q hq hl hpq b a hb ha).symm) l2;obtain ⟨e1,e2⟩:=Ca sq0 tq0 os.2.2.1 ot.2.2.1 (show s.p*t.q=t.p*s.q by omega)
  have est:s=t:=by
   obtain ⟨a,b,c,d⟩:=s;obtain ⟨a',b',c',d'⟩:=t;simp only at e1 e2 rr;rw [e1,e2,rr.1,rr.2]
  subst est;congr 1;cases L with
  | nil =>
   cases M with
   | nil=>rfl
   | cons u r =>
    exfalso;obtain ⟨v,hv,v1,v2⟩:=eL;have e:s=v:=by simpa using hv
    subst e;have ad:=cM.1;have ou:=oM u (List.mem_cons_of_mem _ List.mem_cons_self);have:=ad.1;have:=ou.2.1;rw [v1,v2] at *;omega
  | cons u r =>
   cases M with
   | nil =>
    exfalso;obtain ⟨v,hv,v1,v2⟩:=eM;have e:s=v:=by simpa using hv
    subst e;have ad:=cL.1;have ou:=oL u (List.mem_cons_of_mem _ List.mem_cons_self);have:=ad.1;have:=ou.2.1;rw [v1,v2] at *;omega
   | cons v k =>
    refine wK (u::r) (v::k) s.p s.q sq0 (λa ha=>oL a (List.mem_cons_of_mem _ ha)) (λa ha=>oM a (List.mem_cons_of_mem _ ha)) cL.2 cM.2 eL.tail eM.tail (λa ha=>?_) (λa ha=>?_) λp q hq hl hpq a b ha hb=>?_
    ·have e:u=a:=by simpa using ha
     subst e;exact cL.1.1
    ·have e:v=a:=by simpa using ha
     subst e;exact cM.1.1
    ·exact H p q hq (dr hs sq0 hq l1 hl) hpq a b (by rw [bq hl];exact ha) (by rw [bq hl];exact hb)
theorem uniq {n m:Nat} {L M:List St4} (hL:aM n L) (hM:aM m M) (H:∀ p q,0 < q->0<=p->p<=q->∀ a b,pk L p q=some a->pk M p q=some b->a.at p q=b.at p q):L=M:=
 wK L M 0 1 (by decide) hL.ok hM.ok hL.ch hM.ch hL.last hM.last (λs h=>by have:=(hL.ok s (List.mem_of_head? h)).1;omega) (λs h=>by have:=(hM.ok s (List.mem_of_head? h)).1;omega) λp q hq hl hpq=>H p q hq (by omega) hpq
end Ln
def hAt (L:List St4) (p q:Int):Int:=match Ln.pk L p q with
 | some s=>s.at p q
 | none=>0
theorem cy {L:List St4} {p q:Int} {s:St4} (h:Ln.pk L p q=some s):hAt L p q=s.at p q:=by unfold hAt;rw [h]
theorem sR {n:Nat} {L:List St4} (w:Ln.Way n L) {p q:Int} (hq:0 < q) (hpq:p<=q):∃ s,Ln.pk L p q=some s:=by
 obtain ⟨s,u,h,_⟩:=Ln.sM hq hpq w;exact ⟨s,h⟩
theorem yp {n m:Nat} {L M:List St4} (hL:Ln.aM n L) (hM:Ln.aM m M) (H:∀ p q,0 < q->0<=p->p<=q->hAt L p q=hAt M p q):L=M:=
 Ln.uniq hL hM λp q hq h0 hpq a b ha hb=>by
  have:=H p q hq h0 hpq
  rwa [cy ha,cy hb] at this
def up (A B:List St4):List St4:=Ln.jn (Ln.gr 0 1 (Ln.sbs A B))
def le (A B:List St4):List St4:=(up (A.map Ln.tnS) (B.map Ln.tnS)).map Ln.tnS
theorem qr {n:Nat} {A B:List St4} (a:Ln.aM n A) (b:Ln.aM n B):Ln.aM (n+1) (up A B):=Ln.wk a.way b.way
theorem Ek {n:Nat} {A B:List St4} (a:Ln.aM n A) (b:Ln.aM n B) {p q:Int} (hq:0 < q) (h0:0<=p) (hpq:p<=q):hAt (up A B) p q=max (hAt A p q) (hAt B p q):=by
 obtain ⟨s,t,u,h1,h2,h3,h4⟩:=Ln.Al a.way b.way hq h0 hpq;unfold up;rw [cy h1,cy h2,cy h3];exact h4
theorem wM {n:Nat} {A:List St4} (a:Ln.aM n A) {p q:Int} (hq:0 < q) (hpq:p<=q):hAt (A.map Ln.tnS) p q = - hAt A p q:=by
 obtain ⟨s,h1⟩:=sR a.way hq hpq;obtain ⟨h2,h3⟩:=Ln.CB h1;rw [cy h1,cy h2];omega
theorem BQ {n:Nat} {A B:List St4} (a:Ln.aM n A) (b:Ln.aM n B):Ln.aM (n+1) (le A B):=Ln.bP (qr (Ln.bP a) (Ln.bP b))
theorem le_at {n:Nat} {A B:List St4} (a:Ln.aM n A) (b:Ln.aM n B) {p q:Int} (hq:0 < q) (h0:0<=p) (hpq:p<=q):hAt (le A B) p q=min (hAt A p q) (hAt B p q):=by
 have e:=wM (qr (Ln.bP a) (Ln.bP b)) hq hpq;have e2:=Ek (Ln.bP a) (Ln.bP b) hq h0 hpq;rw [wM a hq hpq,wM b hq hpq] at e2;show hAt ((up (A.map Ln.tnS) (B.map Ln.tnS)).map Ln.tnS) p q=_;rw [e,e2];omega
def St1 (h:Int):List St4:=[⟨1,1,0,h⟩]
theorem wU {h:Int} (hh:h.natAbs < 2 ^ 40):Ln.aM 40 (St1 h):=
 ⟨λs hs=>by rw [List.mem_singleton.mp hs];exact ⟨show (0:Int) < 1 by decide,show (1:Int)<=1 by decide,show Lo.gc 1 1=1 by decide,show (1:Int).natAbs < 2 ^ 40 by decide,show (0:Int).natAbs < 2 ^ 40 by decide,hh⟩,trivial,⟨_,rfl,rfl,rfl⟩⟩
theorem gm {h p q:Int} (hpq:p<=q):hAt (St1 h) p q=h*q:=by
 have:Ln.pk (St1 h) p q=some ⟨1,1,0,h⟩:=Ln.aV (by show ¬1*q < p*1;omega);rw [cy this];show 0*p+h*q=_;omega
def cut (A:List St4):List St4:=le (up A (St1 0)) (St1 1)
theorem vD {n:Nat} (h:40<=n):Ln.aM n (St1 0):=(wU (by decide)).mono h
theorem vC {n:Nat} (h:40<=n):Ln.aM n (St1 1):=(wU (by decide)).mono h
theorem qU {n:Nat} {A:List St4} (h:40<=n) (a:Ln.aM n A):Ln.aM (n+1) (up A (St1 0)):=qr a (vD h)
theorem Hf {n:Nat} {A:List St4} (h:40<=n) (a:Ln.aM n A):Ln.aM (n+2) (cut A):=BQ (qU h a) (vC (by omega))
theorem El {n:Nat} {A:List St4} (h:40<=n) (a:Ln.aM n A) {p q:Int} (hq:0 < q) (h0:0<=p) (hpq:p<=q):hAt (up A (St1 0)) p q=max (hAt A p q) 0:=by
 rw [Ek a (vD h) hq h0 hpq,gm hpq,Int.zero_mul]
theorem Hg {n:Nat} {A:List St4} (h:40<=n) (a:Ln.aM n A) {p q:Int} (hq:0 < q) (h0:0<=p) (hpq:p<=q):hAt (cut A) p q=min (max (hAt A p q) 0) q:=by
 unfold cut;rw [le_at (qU h a) (vC (by omega)) hq h0 hpq,El h a hq h0 hpq,gm hpq,Int.one_mul]
def Inn (A:List St4):Prop:=∀ p q,0 < q->0<=p->p<=q->0<=hAt A p q/\hAt A p q<=q
theorem cut_inn {n:Nat} {A:List St4} (h:40<=n) (a:Ln.aM n A):Inn (cut A):=λp q hq h0 hpq=>by
 rw [Hg h a hq h0 hpq];omega
namespace Ln
theorem aM.rise {n:Nat} {L:List St4} (l:aM n L):∀{k i:Nat} {s t:St4},L[i]?=some s->L[i+k+1]?=some t->s.p*t.q < t.p*s.q
 | 0,_,_,_,h,g=>(l.ch.get h g).1
 | k+1,i,s,t,h,g=>by
  have hl:i+k+1 < L.length:=by have:=(List.getElem?_eq_some_iff.mp g).1;omega
  have hu:L[i+k+1]?=some (L[i+k+1]):=List.getElem?_eq_getElem hl;have r1:=l.rise (k:=k) h hu;have r2:=(l.ch.get (i:=i+k+1) hu g).1;have o1:=l.ok _ (List.mem_of_getElem? h);have o2:=l.ok _ (List.mem_of_getElem? hu);have o3:=l.ok _ (List.mem_of_getElem? g);exact dr o1.q0 o2.q0 o3.q0 r1 r2
theorem aM.own {n:Nat} {L:List St4} (l:aM n L) {s:St4} (h:s∈L):pk L s.p s.q=some s:=by
 obtain ⟨i,hi,e⟩:=List.mem_iff_getElem.mp h;have h:L[i]?=some s:=by rw [List.getElem?_eq_getElem hi,e]
 refine xJ (k:=i) (λj hj t ht=>?_) h (by omega);have e:i=j+(i - j - 1)+1:=by omega
 rw [e] at h;exact l.rise ht h
end Ln
end Mine
set_option maxHeartbeats 1000000
namespace Mine
namespace Ln
theorem Ai {A:List St4} {s t:St4} (h:t∈cD A s):t∈A\/t=s:=by
 unfold cD at h;split at h
 ·split at h
  ·rcases List.mem_append.mp h with h | h
   ·exact .inl ((List.dropLast_sublist A).subset h)
   ·exact .inr (List.mem_singleton.mp h)
  ·rcases List.mem_append.mp h with h | h
   ·exact .inl h
   ·exact .inr (List.mem_singleton.mp h)
 ·rcases List.mem_append.mp h with h | h
  ·exact .inl h
  ·exact .inr (List.mem_singleton.mp h)
theorem sL:∀(M A:List St4) (t:St4),t∈M.foldl cD A->t∈A\/t∈M
 | [],A,t,h=>.inl h
 | s::M,A,t,h=>by
  rcases sL M (cD A s) t h with h | h
  ·rcases Ai h with h | h
   ·exact .inl h
   ·exact .inr (by rw [h];simp)
  ·exact .inr (List.mem_cons_of_mem _ h)
theorem GH {M:List St4} {t:St4} (h:t∈jn M):t∈M:=by
 rcases sL M [] t h with h | h
 ·cases h
 ·exact h
theorem nB:∀(n:Nat) (A B:List St4),A.length+B.length<=n->∀ c∈sbs A B,c.a∈A/\c.b∈B
 | 0,A,B,h,c,hc=>by
  have:A=[]:=List.length_eq_zero_iff.mp (by omega);subst this;rw [nA] at hc;cases hc
 | n+1,[],B,h,c,hc=>by rw [nA] at hc;cases hc
 | n+1,a::A,[],h,c,hc=>by rw [rM] at hc;cases hc
 | n+1,a::A,b::B,h,c,hc=>by
  have h':A.length+1+(B.length+1)<=n+1:=h;rw [sbI] at hc;split at hc
  ·rcases List.mem_cons.mp hc with rfl | hc
   ·exact ⟨by simp,by simp⟩
   ·obtain ⟨x,y⟩:=nB n A (b::B) (by simp;omega) c hc;exact ⟨List.mem_cons_of_mem _ x,y⟩
  ·split at hc
   ·rcases List.mem_cons.mp hc with rfl | hc
    ·exact ⟨by simp,by simp⟩
    ·obtain ⟨x,y⟩:=nB n A B (by omega) c hc;exact ⟨List.mem_cons_of_mem _ x,List.mem_cons_of_mem _ y⟩
   ·rcases List.mem_cons.mp hc with rfl | hc
    ·exact ⟨by simp,by simp⟩
    ·obtain ⟨x,y⟩:=nB n (a::A) B (by simp;omega) c hc;exact ⟨x,List.mem_cons_of_mem _ y⟩
theorem gs_m {sp sq:Int} {c:Pc} {s:St4} (h:s∈gs sp sq c):s.m=c.a.m\/s.m=c.b.m:=by
 have ite:∀(P:Prop) [Decidable P],(if P then c.a else c.b).m=c.a.m\/(if P then c.a else c.b).m=c.b.m:=λP _=>by
  by_cases z:P
  ·rw [if_pos z];exact .inl rfl
  ·rw [if_neg z];exact .inr rfl
 unfold gs at h;split at h
 ·rcases List.mem_cons.mp h with rfl | h
  ·exact ite _
  ·rw [List.mem_singleton.mp h];exact ite _
 ·split at h
  ·rw [List.mem_singleton.mp h];exact ite _
  ·rw [List.mem_singleton.mp h];exact ite _
theorem gr_m:∀(P:List Pc) (sp sq:Int) (s:St4),s∈gr sp sq P->∃ c∈P,s.m=c.a.m\/s.m=c.b.m
 | [],_,_,s,h=>by cases h
 | c::P,sp,sq,s,h=>by
  rcases List.mem_append.mp h with h | h
  ·exact ⟨c,by simp,gs_m h⟩
  ·obtain ⟨d,hd,e⟩:=gr_m P c.p c.q s h;exact ⟨d,List.mem_cons_of_mem _ hd,e⟩
def Slp (n:Nat) (L:List St4):Prop:=∀ s∈L,s.m.natAbs<=n
theorem Slp.mono {n k:Nat} {L:List St4} (h:Slp n L) (e:n<=k):Slp k L:=λs hs=>Nat.le_trans (h s hs) e
theorem vy {n k:Nat} {A B:List St4} (a:Slp n A) (b:Slp k B):Slp (max n k) (up A B):=λs hs=>by
 obtain ⟨c,hc,e⟩:=gr_m _ _ _ _ (GH hs);obtain ⟨h1,h2⟩:=nB _ A B (Nat.le_refl _) c hc;have:=a _ h1;have:=b _ h2;rcases e with e | e <;> rw [e] <;> omega
theorem rn {n:Nat} {A:List St4} (a:Slp n A):Slp n (A.map tnS):=λs hs=>by
 obtain ⟨t,ht,rfl⟩:=List.mem_map.mp hs;have:=a t ht;show (-t.m).natAbs<=n;omega
theorem zt {n:Nat} {k:Int} {A:List St4} (a:Slp n A):Slp n (A.map (rsS k)):=λs hs=>by
 obtain ⟨t,ht,rfl⟩:=List.mem_map.mp hs;exact a t ht
theorem EG {n k:Nat} {A B:List St4} (a:Slp n A) (b:Slp k B):Slp (max n k) (le A B):=rn (vy (rn a) (rn b))
theorem zu {n k:Nat} {A B:List St4} (a:Slp n A) (b:Slp k B):Slp (n+k) (jn (ad (sbs A B))):=λs hs=>by
 obtain ⟨c,hc,rfl⟩:=List.mem_map.mp (GH hs);obtain ⟨h1,h2⟩:=nB _ A B (Nat.le_refl _) c hc;have:=a _ h1;have:=b _ h2;show (c.a.m+c.b.m).natAbs<=n+k;omega
theorem rq (h:Int):Slp 0 (St1 h):=λs hs=>by rw [List.mem_singleton.mp hs];exact Nat.le_refl _
theorem slp_cut {n:Nat} {A:List St4} (a:Slp n A):Slp n (cut A):=(EG (vy a (rq 0)) (rq 1)).mono (by omega)
theorem uO {α:Type} [DecidableEq α]:∀(l m:List α),l.Nodup->(∀ x∈l,x∈m)->l.length<=m.length
 | [],_,_,_=>Nat.zero_le _
 | x::l,m,h,hs=>by
  have hx:=hs x (by simp);have hn:=List.nodup_cons.mp h
  have ih:=uO l (m.erase x) hn.2 λy hy=>by
   have hne:y≠x:=λz=>hn.1 (z ▸ hy);exact (List.mem_erase_of_ne hne).mpr (hs y (List.mem_cons_of_mem _ hy))
  have e:=List.length_erase_of_mem hx;have:0 < m.length:=List.length_pos_of_mem hx;simp only [List.length_cons];omega
def far (n:Nat):List (Int×Int):=(List.range n).flatMap λ(q:Nat)=>((List.range (q+1)).filter λ(p:Nat)=>decide (Lo.gc ((p:Int)+1) ((q:Int)+1)=1)).map λ(p:Nat)=>(((p:Int)+1),((q:Int)+1))
theorem far_mem {n:Nat} {p q:Int} (h1:0 < p) (h2:p<=q) (h3:q<=n) (g:Lo.gc p q=1):(p,q)∈far n:=by
 refine List.mem_flatMap.mpr ⟨(q - 1).toNat,List.mem_range.mpr (by omega),List.mem_map.mpr ⟨(p - 1).toNat,List.mem_filter.mpr ⟨List.mem_range.mpr (by omega),?_⟩,?_⟩⟩
 ·have e1:(((p - 1).toNat:Nat):Int)+1=p:=by omega
  have e2:(((q - 1).toNat:Nat):Int)+1=q:=by omega
  rw [e1,e2];exact decide_eq_true g
 ·have e1:(((p - 1).toNat:Nat):Int)+1=p:=by omega
  have e2:(((q - 1).toNat:Nat):Int)+1=q:=by omega
  rw [e1,e2]
theorem far_len:(far 50).length<=800:=by decide+kernel
theorem adj_q {n k:Nat} {s t:St4} (os:OkB k s) (a:Adj s t) (hs:s.m.natAbs<=n) (ht:t.m.natAbs<=n):s.q<=2*n:=by
 obtain ⟨_,e,ne⟩:=a;have q0:=os.q0;have g:Int.gcd s.p s.q=1:=by have:=os.2.2.1;unfold Lo.gc at this;exact_mod_cast this
 have d:s.q∣(t.m - s.m)*s.p:=⟨-(t.h - s.h),by grind⟩
 have d2:s.q.natAbs∣(t.m - s.m).natAbs:=by
  have d':=Int.natAbs_dvd_natAbs.mpr d;rw [Int.natAbs_mul] at d'
  have c:Nat.Coprime s.q.natAbs s.p.natAbs:=by
   show Nat.gcd s.q.natAbs s.p.natAbs=1;rw [Nat.gcd_comm];exact g
  exact c.dvd_of_dvd_mul_right d'
 have:=Nat.le_of_dvd (by omega) d2;omega
theorem As {n k:Nat} (hn:1<=n):∀{L:List St4},aM k L->Slp n L->∀ s∈L,s.q<=2*n
 | [],_,_,s,h=>by cases h
 | [u],l,_,s,h=>by
  rw [List.mem_singleton.mp h];obtain ⟨v,e1,e2,e3⟩:=l.last;have e:some u=some v:=e1;cases e
  rw [e3];omega
 | u::v::r,l,sl,s,h=>by
  rcases List.mem_cons.mp h with rfl | h
  ·exact adj_q (l.ok _ (by simp)) l.ch.1 (sl _ (by simp)) (sl _ (by simp))
  ·exact As hn ⟨λx hx=>l.ok x (List.mem_cons_of_mem _ hx),l.ch.2,l.last.tail⟩ (λx hx=>sl x (List.mem_cons_of_mem _ hx)) s h
theorem Au {k:Nat} {L:List St4} (l:aM k L):(L.map λs=>(s.p,s.q)).Nodup:=by
 rw [List.nodup_iff_pairwise_ne,List.pairwise_iff_getElem];intro i j hi hj hij e;rw [List.length_map] at hi hj;rw [List.getElem_map,List.getElem_map] at e;obtain ⟨d,rfl⟩:∃ d,j=i+d+1:=⟨j - i - 1,by omega⟩;have:=l.rise (List.getElem?_eq_getElem hi) (List.getElem?_eq_getElem hj);have e1:=congrArg Prod.fst e;have e2:=congrArg Prod.snd e;simp only at e1 e2;rw [e1,e2] at this;omega
theorem few {k:Nat} {L:List St4} (l:aM k L) (sl:Slp 25 L):L.length<=800:=by
 have h:=uO (L.map λs=>(s.p,s.q)) (far 50) (Au l) λx hx=>by
  obtain ⟨s,hs,rfl⟩:=List.mem_map.mp hx;have o:=l.ok s hs;exact far_mem o.1 o.2.1 (As (by decide) l sl s hs) o.2.2.1
 rw [List.length_map] at h;exact Nat.le_trans h far_len
def Hgt (b:Nat) (L:List St4):Prop:=∀ p q,0 < q->0<=p->p<=q->(hAt L p q).natAbs<=b*q.natAbs
theorem uq {k b:Nat} {L:List St4} (l:aM k L) (sl:Slp 25 L) (ht:Hgt b L) (hb:b<=25):aM 10 L:=by
 refine ⟨λs hs=>?_,l.ch,l.last⟩;have o:=l.ok s hs;have q1:=As (by decide) l sl s hs;have m1:=sl s hs;have q0:=o.q0;refine ⟨o.1,o.2.1,o.2.2.1,by omega,by omega,?_⟩;have h1:=ht s.p s.q q0 (by have:=o.1;omega) o.2.1;rw [cy (l.own hs)] at h1;have e:s.at s.p s.q=s.m*s.p+s.h*s.q:=rfl;rw [e] at h1
 have h2:(s.h*s.q).natAbs<=b*s.q.natAbs+25*s.q.natAbs:=by
  have a1:(s.m*s.p).natAbs<=25*s.q.natAbs:=by
   rw [Int.natAbs_mul];exact Nat.mul_le_mul m1 (by have:=o.1;have:=o.2.1;omega)
  omega
 rw [Int.natAbs_mul,<- Nat.add_mul] at h2;have h3:s.h.natAbs<=b+25:=Nat.le_of_mul_le_mul_right h2 (by omega);omega
end Ln
open Ln
structure Gd (n:Nat) (L:List St4):Prop where
 b:aM 10 L
 s:Slp n L
 i:Inn L
theorem k_of {k b:Nat} {L:List St4} (l:aM k L) (sl:Slp 25 L) (ht:Hgt b L) (hb:b<=25):bU L:=⟨(uq l sl ht hb).mono (by decide),Nat.le_trans (few l sl) (by decide)⟩
theorem Gd.k {n:Nat} {L:List St4} (g:Gd n L) (h:n<=25):bU L:=⟨g.b.mono (by decide),Nat.le_trans (few g.b (g.s.mono h)) (by decide)⟩
theorem Gd.len {n:Nat} {L:List St4} (g:Gd n L) (h:n<=25):L.length<=800:=few g.b (g.s.mono h)
theorem qM {L:List St4} (i:Inn L):Hgt 1 L:=λp q hq h0 hpq=>by
 obtain ⟨a,b⟩:=i p q hq h0 hpq;omega
def fq (A B:List St4):List St4:=jn (ad (sbs A B))
theorem sZ {n:Nat} {A B:List St4} (a:aM n A) (b:aM n B) {p q:Int} (hq:0 < q) (hpq:p<=q):hAt (fq A B) p q=hAt A p q+hAt B p q:=by
 obtain ⟨s,t,u,h1,h2,h3,h4⟩:=Hs a.way b.way hq hpq;rw [cy h1,cy h2];unfold fq;rw [cy h3,h4]
theorem xI {n:Nat} {A:List St4} (a:aM n A) (k:Int) {p q:Int} (hq:0 < q) (hpq:p<=q):hAt (A.map (rsS k)) p q=hAt A p q+k*q:=by
 obtain ⟨s,h⟩:=sR a.way hq hpq;obtain ⟨h1,h2⟩:=CO (k:=k) h;rw [cy h,cy h1,h2]
structure Cy (X:List St4):Prop where
 k:bU X
 u:bU (up X (St1 0))
 c:(cut X).length<=1000
theorem pj {k n b:Nat} {X:List St4} (l:aM k X) (s:Slp n X) (hn:n<=25) (h:Hgt b X) (hb:b<=25):Cy X/\Gd n (cut X)/\∀ p q,0 < q->0<=p->p<=q->hAt (cut X) p q=min (max (hAt X p q) 0) q:=by
 have t:=uq l (s.mono hn) h hb;have t40:aM 40 X:=t.mono (by decide);have ul:=qU (by decide) t40;have us:Slp 25 (up X (St1 0)):=(vy s (rq 0)).mono (by omega)
 have uh:Hgt b (up X (St1 0)):=λp q hq h0 hpq=>by
  rw [El (by decide) t40 hq h0 hpq];have:=h p q hq h0 hpq;omega
 have cl:=Hf (by decide) t40;have cs:Slp n (cut X):=slp_cut s;have ci:Inn (cut X):=cut_inn (by decide) t40;have ct:=uq cl (cs.mono hn) (qM ci) (by decide);exact ⟨⟨k_of l (s.mono hn) h hb,k_of ul us uh hb,Nat.le_trans (few cl (cs.mono hn)) (by decide)⟩,⟨ct,cs,ci⟩,λp q hq h0 hpq=>Hg (by decide) t40 hq h0 hpq⟩
theorem Gd.at {n:Nat} {L:List St4} (g:Gd n L) {p q:Int} (hq:0 < q) (h0:0<=p) (hpq:p<=q):0<=hAt L p q/\hAt L p q<=q:=g.i p q hq h0 hpq
def W5.steep:W5->Nat->Nat->Nat
 | .greater,n,k=>max n k
 | .lesser,n,k=>max n k
 | _,n,k=>n+k
def dO:W5->List St4->List St4->List St4
 | .more,A,B=>cut (fq A B)
 | .less,A,B=>cut ((fq A B).map (rsS (-1)))
 | .greater,A,B=>up A B
 | .lesser,A,B=>le A B
 | .leads,A,B=>cut ((fq (A.map tnS) B).map (rsS 1))
def tJ:W5->List St4->List St4->Prop
 | .more,A,B=>bU A/\bU B/\Cy (fq A B)
 | .less,A,B=>bU A/\bU B/\(fq A B).length<=1000/\Cy ((fq A B).map (rsS (-1)))
 | .greater,A,B=>bU A/\bU B
 | .lesser,A,B=>bU A/\bU B/\(le A B).length<=1000
 | .leads,A,B=>A.length<=1000/\bU (A.map tnS)/\bU B/\(fq (A.map tnS) B).length<=1000/\Cy ((fq (A.map tnS) B).map (rsS 1))
theorem fK {n k:Nat} {A B:List St4} (u:W5) (a:Gd n A) (b:Gd k B) (h:u.steep n k<=25) :
  tJ u A B/\Gd (u.steep n k) (dO u A B)/\∀ p q,0 < q->0<=p->p<=q->hAt (dO u A B) p q=u.worth q (hAt A p q) (hAt B p q):=by
 have hn:n<=25:=by cases u <;> simp only [W5.steep] at h <;> omega
 have hk:k<=25:=by cases u <;> simp only [W5.steep] at h <;> omega
 have ka:=a.k hn;have kb:=b.k hk;cases u with
 | more =>
  have h':n+k<=25:=h
  have hg:Hgt 2 (fq A B):=λp q hq h0 hpq=>by
   rw [sZ a.b b.b hq hpq];have:=a.at hq h0 hpq;have:=b.at hq h0 hpq;omega
  obtain ⟨c1,c2,c3⟩:=pj (mL a.b.way b.b.way) (zu a.s b.s) h' hg (by decide);refine ⟨⟨ka,kb,c1⟩,c2,λp q hq h0 hpq=>?_⟩;have x:=a.at hq h0 hpq;have y:=b.at hq h0 hpq;show hAt (cut (fq A B)) p q=min (hAt A p q+hAt B p q) q;have e:=c3 p q hq h0 hpq;unfold fq at *;rw [e,show hAt (jn (ad (sbs A B))) p q=hAt A p q+hAt B p q from sZ a.b b.b hq hpq];omega
 | less =>
  have h':n+k<=25:=h;have al:=mL a.b.way b.b.way;have as:=zu a.s b.s
  have hg:Hgt 3 ((fq A B).map (rsS (-1))):=λp q hq h0 hpq=>by
   rw [xI (show aM 11 (fq A B) from al) _ hq hpq,sZ a.b b.b hq hpq];have:=a.at hq h0 hpq;have:=b.at hq h0 hpq;omega
  obtain ⟨c1,c2,c3⟩:=pj (jZ (k:=-1) (by decide) (show aM 11 (fq A B) from al)) (zt (show Slp (n+k) (fq A B) from as)) h' hg (by decide);refine ⟨⟨ka,kb,Nat.le_trans (few al (as.mono h')) (by decide),c1⟩,c2,λp q hq h0 hpq=>?_⟩;have x:=a.at hq h0 hpq;have y:=b.at hq h0 hpq;show hAt (cut ((fq A B).map (rsS (-1)))) p q=max (hAt A p q+hAt B p q - q) 0;rw [c3 p q hq h0 hpq,xI (show aM 11 (fq A B) from al) _ hq hpq,sZ a.b b.b hq hpq];omega
 | greater =>
  have h':max n k<=25:=h;have at_:∀ p q,0 < q->0<=p->p<=q->hAt (up A B) p q=max (hAt A p q) (hAt B p q):=λp q hq h0 hpq=>Ek a.b b.b hq h0 hpq
  have inn:Inn (up A B):=λp q hq h0 hpq=>by
   rw [at_ p q hq h0 hpq];have:=a.at hq h0 hpq;have:=b.at hq h0 hpq;omega
  have sl:=vy a.s b.s;exact ⟨⟨ka,kb⟩,⟨uq (qr a.b b.b) (sl.mono h') (qM inn) (by decide),sl,inn⟩,at_⟩
 | lesser =>
  have h':max n k<=25:=h;have at_:∀ p q,0 < q->0<=p->p<=q->hAt (le A B) p q=min (hAt A p q) (hAt B p q):=λp q hq h0 hpq=>le_at a.b b.b hq h0 hpq
  have inn:Inn (le A B):=λp q hq h0 hpq=>by
   rw [at_ p q hq h0 hpq];have:=a.at hq h0 hpq;have:=b.at hq h0 hpq;omega
  have sl:=EG a.s b.s;have ll:=BQ a.b b.b;exact ⟨⟨ka,kb,Nat.le_trans (few ll (sl.mono h')) (by decide)⟩,⟨uq ll (sl.mono h') (qM inn) (by decide),sl,inn⟩,at_⟩
 | leads =>
  have h':n+k<=25:=h;have tl:=bP a.b;have ts:=rn a.s;have th:∀ p q,0 < q->p<=q->hAt (A.map tnS) p q = - hAt A p q:=λp q hq hpq=>wM a.b hq hpq;have al:=mL tl.way b.b.way;have as:=zu ts b.s;have ah:∀ p q,0 < q->p<=q->hAt (fq (A.map tnS) B) p q = - hAt A p q+hAt B p q:=λp q hq hpq=>by rw [sZ tl b.b hq hpq,th p q hq hpq]
  have hg:Hgt 2 ((fq (A.map tnS) B).map (rsS 1)):=λp q hq h0 hpq=>by
   rw [xI (show aM 11 (fq (A.map tnS) B) from al) _ hq hpq,ah p q hq hpq];have:=a.at hq h0 hpq;have:=b.at hq h0 hpq;omega
  have hgt:Hgt 1 (A.map tnS):=λp q hq h0 hpq=>by
   rw [th p q hq hpq];have:=a.at hq h0 hpq;omega
  obtain ⟨c1,c2,c3⟩:=pj (jZ (k:=1) (by decide) (show aM 11 (fq (A.map tnS) B) from al)) (zt (show Slp (n+k) (fq (A.map tnS) B) from as)) h' hg (by decide);refine ⟨⟨Nat.le_trans (a.len hn) (by decide),k_of tl (ts.mono hn) hgt (by decide),kb,Nat.le_trans (few al (as.mono h')) (by decide),c1⟩,c2,λp q hq h0 hpq=>?_⟩;have x:=a.at hq h0 hpq;have y:=b.at hq h0 hpq;show hAt (cut ((fq (A.map tnS) B).map (rsS 1))) p q=min (q - hAt A p q+hAt B p q) q;rw [c3 p q hq h0 hpq,xI (show aM 11 (fq (A.map tnS) B) from al) _ hq hpq,ah p q hq hpq];omega
def lineNo (A:List St4):List St4:=(A.map tnS).map (rsS 1)
theorem kj {n:Nat} {A:List St4} (a:Gd n A) (hn:n<=25):A.length<=1000/\Gd n (lineNo A)/\∀ p q,0 < q->0<=p->p<=q->hAt (lineNo A) p q=q - hAt A p q:=by
 have tl:=bP a.b
 have at_:∀ p q,0 < q->0<=p->p<=q->hAt (lineNo A) p q=q - hAt A p q:=λp q hq h0 hpq=>by
  unfold lineNo;rw [xI tl _ hq hpq,wM a.b hq hpq];omega
 have inn:Inn (lineNo A):=λp q hq h0 hpq=>by
  rw [at_ p q hq h0 hpq];have:=a.at hq h0 hpq;omega
 have sl:Slp n (lineNo A):=zt (rn a.s);exact ⟨Nat.le_trans (a.len hn) (by decide),⟨uq (jZ (k:=1) (by decide) tl) (sl.mono hn) (qM inn) (by decide),sl,inn⟩,at_⟩
def fZ:List St4:=[⟨1,1,1,0⟩]
theorem p_line:aM 10 fZ:=⟨λs hs=>by rw [List.mem_singleton.mp hs];exact ⟨by decide,by decide,by decide,by decide,by decide,by decide⟩,trivial,⟨_,rfl,rfl,rfl⟩⟩
theorem FD {p q:Int} (hpq:p<=q):hAt fZ p q=p:=by
 have e:pk fZ p q=some ⟨1,1,1,0⟩:=aV (s:=⟨1,1,1,0⟩) (by show ¬1*q < p*1;omega);rw [cy e];show 1*p+0*q=p;omega
theorem FC:Gd 1 fZ:=⟨p_line,λs hs=>by rw [List.mem_singleton.mp hs];exact Nat.le_refl _,λp q hq h0 hpq=>by rw [FD hpq];omega⟩
theorem Ew {h:Int} (hh:h=0\/h=1):Gd 0 (St1 h):=by
 refine ⟨?_,rq h,λp q hq h0 hpq=>?_⟩
 ·exact ⟨λs hs=>by rw [List.mem_singleton.mp hs];rcases hh with rfl | rfl <;> exact ⟨by decide,by decide,by decide,by decide,by decide,by decide⟩,trivial,⟨_,rfl,rfl,rfl⟩⟩
 ·rw [gm hpq];rcases hh with rfl | rfl <;> omega
def Tr.steep:Tr->Nat
 | .never=>0 | .always=>0 | .lp=>1 | .lq=>1
 | .no t=>t.steep
 | .fold u a b=>u.steep a.steep b.steep
def eP:Tr->List St4
 | .never=>St1 0 | .always=>St1 1 | .lp=>fZ | .lq=>fZ
 | .no t=>lineNo (eP t)
 | .fold u a b=>dO u (eP a) (eP b)
def Tr.noq:Tr->Bool
 | .lq=>false
 | .no t=>t.noq
 | .fold _ a b=>a.noq && b.noq
 | _=>true
theorem kP (u:W5) (n k:Nat):n<=u.steep n k/\k<=u.steep n k:=by cases u <;> simp only [W5.steep] <;> omega
theorem dZ:∀ t:Tr,t.steep<=25->Gd t.steep (eP t)
 | .never,_=>Ew (.inl rfl)
 | .always,_=>Ew (.inr rfl)
 | .lp,_=>FC
 | .lq,_=>FC
 | .no t,h=>(kj (dZ t h) h).2.1
 | .fold u a b,h=>by
  have s:=kP u a.steep b.steep;have h':u.steep a.steep b.steep<=25:=h;exact (fK u (dZ a (by omega)) (dZ b (by omega)) h).2.1
theorem nN:∀ t:Tr,t.steep<=25->t.noq=true->∀ p q y,0 < q->0<=p->p<=q->hAt (eP t) p q=t.worth q p y
 | .never,_,_,p,q,y,hq,h0,hpq=>by
  show hAt (St1 0) p q=0;rw [gm hpq];omega
 | .always,_,_,p,q,y,hq,h0,hpq=>by
  show hAt (St1 1) p q=q;rw [gm hpq];omega
 | .lp,_,_,p,q,y,hq,h0,hpq=>FD hpq
 | .lq,_,h,_,_,_,_,_,_=>by cases h
 | .no t,h,hn,p,q,y,hq,h0,hpq=>by
  have e:=(kj (dZ t h) h).2.2 p q hq h0 hpq;rw [nN t h hn p q y hq h0 hpq] at e;exact e
 | .fold u a b,h,hn,p,q,y,hq,h0,hpq=>by
  have s:=kP u a.steep b.steep;have h':u.steep a.steep b.steep<=25:=h;have hn':(a.noq && b.noq)=true:=hn;rw [Bool.and_eq_true] at hn';have e:=(fK u (dZ a (by omega)) (dZ b (by omega)) h).2.2 p q hq h0 hpq;rw [nN a (by omega) hn'.1 p q y hq h0 hpq,nN b (by omega) hn'.2 p q y hq h0 hpq] at e;exact e
end Mine
set_option maxHeartbeats 4000000
namespace L2
open PySem PySem.Spec PySem.Calls PyProof.Rows PySem.W
section
variable {P:Program} {w:World} {K:W.Frag} {mg:Str->Option Value} {base:Heap} {N:List Str} {qual:Str} {scope:Scope} {f:Addr} {cd:Value} {A:Around} {outer:List Env} {s:Shared} {H:Hp} {E:XK}
end
variable {X:Cx}
def plainArg (e:Expr):Bool:=match e with
 | .Starred _ _=>false
 | _=>true
theorem zm {e:Expr} {es:List Expr} {env:Env} (h:plainArg e=true):starEach (e::es) env=(false,eval e env)::starEach es env:=by
 cases e <;> first | rfl | cases h
theorem paS {e:Expr} {es:List Expr} {te:TE} {t:TA} (ha:PE X e te) (hr:PA X es t) (h:plainArg e=true:=by rfl):PA X (e::es) (Bd te t):=aa ha hr (zm h)
def XAt (h:Heap) (C:Addr) (bmB:List Value) (newId:String) (fI:Addr):Prop:=
 ∃ nm qn N bs bm hd sn sub ab col dd k0 k1 k2 k3 k5 mN oI,h.get? C=some (excClassObj nm qn C N bs bm hd sn sub ab col dd k0 k1 k2 k3 k5 newId)/\h.Ns N mN/\mN "__init__"=some (.ref fI)/\OwnTail h bmB bm/\h.get? fI=some oI/\oI.cls=.type "function"
section
variable {prog:Program} {w:World} {A:Around} {E:Value->Shared->Prop} {h:Heap} {g:Array GenState} {d:Drawn} {t:Nat} {os:OsState}
variable {C fI:Addr} {bmB:List Value} {B newId initId:String}
abbrev withTup (h:Heap) (us:List Value):Heap:=h.push {cls:=.type "tuple",data:=.seq us.toArray}
abbrev withExc (h:Heap) (C:Addr) (us:List Value):Heap:=(withTup h us).push {cls:=.ref C,data:=.fields #[.ref h.objs.size,.none,.none,.none,.bool false,.none] }
theorem dX (us:List Value) {b:Addr} {o:Obj} (e:h.get? b=some o):(withExc h C us).get? b=some o:=Heap.get?_push_of_some _ (Heap.get?_push_of_some _ e)
theorem qS (us:List Value):(withExc h C us).get? (h.objs.size+1)=some {cls:=.ref C,data:=.fields #[.ref h.objs.size,.none,.none,.none,.bool false,.none] }:=by heap_get
theorem qV (F:ExcBaseFacts B newId initId bmB) {us:List Value} {Q:Fin->Shared->Prop} (x:XAt h C bmB newId fI) (hz:us.length<=sizeLine)
  (hq:wpAny (model prog w) A (call (.ref fI) (.ref (h.objs.size+1)::us)) (λr s'=>r=.none/\Q (.done (.ret (.ref (h.objs.size+1)))) s') E ⟨withExc h C us,g,d,t,os⟩) :
  wpAny (model prog w) A (Builtin.«type.__call__» ⟨.ref C::us,[]⟩) Q E ⟨h,g,d,t,os⟩:=by
 obtain ⟨nm,qn,N,bs,bm,hd,sn,sub,ab,col,dd,k0,k1,k2,k3,k5,mN,oI,hC,hn,hi,T,hfI,hfc⟩:=x;have hself:(Value.ref C::bm).contains (.ref C)=true:=by simp
 have hC2:=dX (C:=C) us hC;have hn2:(withExc h C us).Ns N mN:=hn.keeps λb o e=>dX us e;have T2:OwnTail (withExc h C us) bmB bm:=T.keeps λb o e=>dX us e;have he2:=qS (h:=h) (C:=C) us
 repeat (first | with_reducible refine wpAny_loadPart_at hC ?_ | with_reducible refine wpAny_madeBy_exc hC ?_ | wp_step)
 refine codeAny_call_builtin_code (Code.quiet_builtin _ F.quiet) (wpAny_check_new_subT F T hC (codeAny_exc_new_subT F T hC ?_ hz));show wpAny _ _ _ _ _ _;unfold isInstance
 repeat (first | with_reducible refine wpAny_loadPart_at he2 ?_ | (with_reducible refine wpAny_isSubtype_exc hC2 ?_;rw [hself]) | wp_step)
 show wpAny _ _ (typeLookup (.ref C) _) _ _ _;refine wpAny_typeLookup_tail hC2 hn2 T2 F.mroIs F.init.lookup ?_;rw [hi];refine wpAny_holding (wpAny_bind ?_);unfold bindSpecial;refine wpAny_bind (wpAny_typeOf (T:="function") ⟨_,dX us hfI,hfc⟩ ?_);rw [if_pos (by decide)];refine wpAny_pure (wpAny_bind (wpAny_mono hq (λr s' z=>?_) λ_ _ z=>z));obtain ⟨rfl,z⟩:=z
 wp_walk
 exact z
theorem DO (F:ExcBaseFacts B newId initId bmB) {us:List Value} {Q:Value->Shared->Prop} (x:XAt h C bmB newId fI) (hz:us.length<=sizeLine)
  (hq:wpAny (model prog w) (A.under (.builtin "type.__call__" ⟨.ref C::us,[]⟩)) (call (.ref fI) (.ref (h.objs.size+1)::us)) (λr s'=>r=.none/\Q (.ref (h.objs.size+1)) s') E ⟨withExc h C us,g,d,t,os⟩) :
  wpAny (model prog w) A (call (.ref C) us) Q E ⟨h,g,d,t,os⟩:=by
 obtain ⟨nm,qn,N,bs,bm,hd,sn,sub,ab,col,dd,k0,k1,k2,k3,k5,mN,oI,hC,r⟩:=id x;have f1:=tc_lookup;have f2:=tc_bind (.ref C);have hT:(⟨h,g,d,t,os⟩:Shared).TypeIs (.ref C) "type":=⟨_,hC,rfl⟩;refine wpAny_call (codeAny_of_tree ?_);show wpAny _ _ (callAny (.ref C) _) _ _ _
 repeat (any_goals (first | assumption | with_reducible refine wpAny_loadPart_at hC ?_ | wp_step))
 exact ⟨rfl,codeAny_call_builtin_at (Code.quiet_builtin _ (by decide+kernel)) entry_typeCall (wpAny_check_type_call_sub hC (qV F x hz hq))⟩
end
def XTr (g base:Heap) (e:Addr) (cl:Value) (dc:Option Addr) (fl:Value):Prop:=
 ∃ oe vs T oT ts,g.get? e=some oe/\(oe.cls=cl/\oe.dict=dc)/\oe.data=.fields vs/\vs[1]?=some (.ref T)/\base.get? T=none/\T≠e/\g.get? T=some oT/\oT.data=.fields ts/\ts[3]?=some fl
def Ct (base:Heap) (l:List Env) (e:Addr) (cl:Value) (dc:Option Addr) (fl:Value) (g g':Heap):Prop:=base.StaysIn g'/\g'.FunFrames base l/\XTr g' base e cl dc fl/\g.UpToSlots g'
def uc (base:Heap) (l:List Env) (e:Addr) (cl:Value) (dc:Option Addr) (fl:Value) (g:Heap):Prop:=base.StaysIn g/\base.get? e=none/\g.FunFrames base l/\XTr g base e cl dc fl
theorem fE {g:Heap} {e b:Addr} {oe o:Obj} {vs:Array Value} (he:g.get? e=some oe) (hd:oe.data=.fields vs) (hb:g.get? b=some o) (n:∀ ws,o.data≠.fields ws):b≠e:=λz=>by
 subst z;rw [he] at hb;cases hb
 exact n vs hd
theorem sV (f:Array Value->Array Value) (o:Obj):(Obj.mapFields f o).dict=o.dict:=by
 obtain ⟨c,d,dt,sl⟩:=o;cases dt <;> rfl
section
variable {M:Model} {A:Around} {E:Value->Shared->Prop} {s:Shared} {base:Heap} {env:Env} {outer l:List Env} {L e:Addr} {cl fl:Value} {dc:Option Addr} {Q:Unit->Shared->Prop}
theorem Cd {oe:Obj} {vs:Array Value} {hd0:Value} {more:Bool} (hfr:A.frames=some (env::outer)) (hl:s.heap.FunFrames base (env::outer)) (hf:env.frame=some L)
  (he:s.heap.get? e=some oe) (kb:base.StaysIn s.heap) (en:base.get? e=none) (hd:oe.data=.fields vs) (z1:1 < vs.size) (k:∀ g',Ct base (env::outer) e oe.cls oe.dict (rawInt L) s.heap g'->Q () {s with heap:=g' }) :
  wpAny M A (do let a <- frameOf env;let pl <- entryPlaceOf L more;let b <- EntryCells.newEntry hd0 a .none (rawInt L) .none pl;setField (.ref e) 1 b) Q E s:=by
 have nf:e ∉ (env::outer).filterMap (·.frame):=λhm=>by
  obtain ⟨_,o,ho,n⟩:=hl.mem hm;exact fE he hd ho n rfl
 refine wpAny_bind (wpAny_frameOf_fun hfr hl hf λg1 sm=>wpAny_bind (wpAny_entryPlaceOf λpl hpl=>?_));unfold EntryCells.newEntry newFields;refine wpAny_bind (wpAny_newObj_type ?_ (hpl.sizeOk5 _ _ _ _ _));have a1:g1.get? e=some oe:=(sm.2.1 e nf).trans he;have b1:base.StaysIn g1:=λb o z=>(sm.2.1 b λhm=>by rw [(hl.mem hm).1] at z;cases z).trans (kb b o z)
 have a2:=Heap.get?_push_of_some (h:=g1) {cls:=.type "traceback",dict:=none,data:=.fields ([hd0,.ref L,.none,rawInt L,.none]++(if pl.isEmpty then List.replicate 6 Value.none else pl)).toArray} a1;refine wpAny_setField a2 hd z1 (k _ ?_);have ne:g1.objs.size≠e:=Nat.ne_of_gt (Heap.lt_size a1);have d3:=Obj.data_mapFields hd (·.setIfInBounds 1 (Value.ref g1.objs.size));have a3:=Heap.get?_update_self (Obj.mapFields (·.setIfInBounds 1 (Value.ref g1.objs.size))) a2 (Obj.isFreed_of_fields d3)
 have t3:=(Heap.get?_update_other (g1.push {cls:=.type "traceback",dict:=none,data:=.fields ([hd0,.ref L,.none,rawInt L,.none]++(if pl.isEmpty then List.replicate 6 Value.none else pl)).toArray})
  (Obj.mapFields (·.setIfInBounds 1 (Value.ref g1.objs.size))) (Ne.symm ne)).trans (Heap.get?_push_size g1 rfl)
 have stay:∀ b o,b≠e->g1.get? b=some o->((g1.push {cls:=.type "traceback",dict:=none,data:=.fields ([hd0,.ref L,.none,rawInt L,.none]++(if pl.isEmpty then List.replicate 6 Value.none else pl)).toArray}).update e
   (Obj.mapFields (·.setIfInBounds 1 (Value.ref g1.objs.size)))).get? b=some o:=λb o z hb=>by
  rw [Heap.get?_update_other _ _ (Ne.symm z)];exact Heap.get?_push_of_some _ hb
 refine ⟨λb o z=>stay b o (λq=>by rw [q,en] at z;cases z) (b1 b o z),hl.of_keeps λb o hb n=>?_,?_,λb o hb n=>?_⟩
 ·obtain ⟨sl,z⟩:=sm.2.2 b o hb;exact ⟨_,stay b _ (fE he hd hb n) z,rfl⟩
 ·exact ⟨_,_,g1.objs.size,_,_,a3,⟨Obj.cls_mapFields _ _,sV _ _⟩,d3,by simp [z1],b1.fresh,ne,t3,rfl,by first | (simp;done) | (rcases hpl with rfl | ⟨_,_,_,_,_,_,_,rfl⟩ <;> simp)⟩
 ·obtain ⟨sl,z⟩:=sm.2.2 b o hb;exact ⟨sl,stay b _ (fE he hd hb n) z⟩
theorem zf (kb:base.StaysIn s.heap) (hl:s.heap.FunFrames base l) (ht:XTr s.heap base e cl dc fl) (k:∀ g',Ct base l e cl dc .none s.heap g'->Q () {s with heap:=g' }):wpAny M A (setFlight (.ref e) none) Q E s:=by
 obtain ⟨oe,vs,T,oT,ts,he,hc,hd,h1,nT,ne,hT,dT,h3⟩:=ht;have z3:3 < ts.size:=(Array.getElem?_eq_some_iff.mp h3).1;have other:∀ b,b≠T->(s.heap.update T (Obj.mapFields (·.setIfInBounds 3 ((none:Option Addr).elim Value.none λf=>rawInt f)))).get? b=s.heap.get? b:=λb z=>Heap.get?_update_other _ _ (Ne.symm z);unfold setFlight;refine wpAny_bind (wpAny_field he hd h1 ?_);rw [if_pos (show (Value.ref T != Value.none)=true by simp)];refine wpAny_setField hT dT z3 (k _ ⟨λb o z=>(other b λq=>by rw [q,nT] at z;cases z).trans (kb b o z),hl.of_keeps λb o hb n=>⟨o,(other b (fE hT dT hb n)).trans hb,rfl⟩,?_,λb o hb n=>⟨o.slots,(other b (fE hT dT hb n)).trans hb⟩⟩)
 exact ⟨oe,vs,T,_,_,(other e (Ne.symm ne)).trans he,hc,hd,h1,nT,ne,Heap.get?_update_self _ hT (Obj.isFreed_of_fields (Obj.data_mapFields dT _)),Obj.data_mapFields dT _,by simp [z3]⟩
theorem yc {oe:Obj} {vs:Array Value} (hfr:A.frames=some (env::outer)) (hl:s.heap.FunFrames base (env::outer)) (hf:env.frame=some L) (he:s.heap.get? e=some oe) (kb:base.StaysIn s.heap) (en:base.get? e=none)
  (hd:oe.data=.fields vs) (h1:vs[1]?=some .none) (k:∀ g',Ct base (env::outer) e oe.cls oe.dict (rawInt L) s.heap g'->Q () {s with heap:=g' }):wpAny M A (noteFrame (.ref e) env) Q E s:=by
 unfold noteFrame;simp only [hf];refine wpAny_bind (wpAny_field he hd h1 ?_);rw [if_neg (by decide)];exact Cd hfr hl hf he kb en hd (Array.getElem?_eq_some_iff.mp h1).1 k
theorem sf (hfr:A.frames=some (env::outer)) (hl:s.heap.FunFrames base (env::outer)) (hf:env.frame=some L) (ht:XTr s.heap base e cl dc .none) (kb:base.StaysIn s.heap) (en:base.get? e=none)
  (k:∀ g',Ct base (env::outer) e cl dc (rawInt L) s.heap g'->Q () {s with heap:=g' }):wpAny M A (noteFrame (.ref e) env) Q E s:=by
 obtain ⟨oe,vs,T,oT,ts,he,⟨rfl,rfl⟩,hd,h1,nT,ne,hT,dT,h3⟩:=ht;unfold noteFrame;simp only [hf];refine wpAny_bind (wpAny_field he hd h1 ?_);rw [if_pos (show (Value.ref T != Value.none)=true by simp)];refine wpAny_bind (wpAny_field hT dT h3 ?_);rw [if_neg (show ¬ ((Value.none == rawInt L)=true) by simp [rawInt])];refine wpAny_bind (wpAny_setField hT dT (Array.getElem?_eq_some_iff.mp h3).1 ?_);have other:∀ b,b≠T->(s.heap.update T (Obj.mapFields (·.setIfInBounds 3 Value.none))).get? b=s.heap.get? b:=λb z=>Heap.get?_update_other _ _ (Ne.symm z);refine Cd hfr (hl.of_keeps λb o hb n=>⟨o,(other b (fE hT dT hb n)).trans hb,rfl⟩) hf ((other e (Ne.symm ne)).trans he) (λb o z=>(other b λq=>by rw [q,nT] at z;cases z).trans (kb b o z)) en hd (Array.getElem?_eq_some_iff.mp h1).1 λg' x=>k g' ?_
 exact ⟨x.1,x.2.1,x.2.2.1,λb o hb n=>x.2.2.2 b o ((other b (fE hT dT hb n)).trans hb) n⟩
theorem vX {oe:Obj} {vs:Array Value} (hfr:A.frames=some (env::outer)) (hl:s.heap.FunFrames base (env::outer)) (hf:env.frame=some L) (he:s.heap.get? e=some oe) (kb:base.StaysIn s.heap) (en:base.get? e=none)
  (hd:oe.data=.fields vs) (h1:vs[1]?=some .none) (k:∀ g',uc base outer e oe.cls oe.dict .none g'->s.heap.UpToSlots g'->Q () {s with heap:=g' }):wpAny M A (leaving env (.ref e)) Q E s:=by
 unfold leaving;refine wpAny_bind (yc hfr hl hf he kb en hd h1 λg1 zz=>?_);obtain ⟨k1,k2,k3,k4⟩:=zz;refine zf (s:={s with heap:=g1}) k1 k2 k3 λg2 zz=>?_
 obtain ⟨j1,⟨_,_,j2⟩,j3,j4⟩:=zz;exact k g2 ⟨j1,en,j2,j3⟩ (k4.trans j4)
theorem yq (hfr:A.frames=some (env::outer)) (hf:env.frame=some L) (x:uc base (env::outer) e cl dc .none s.heap) (k:∀ g',uc base outer e cl dc .none g'->s.heap.UpToSlots g'->Q () {s with heap:=g' }):wpAny M A (leaving env (.ref e)) Q E s:=by
 obtain ⟨f1,f2,f3,f4⟩:=x;unfold leaving;refine wpAny_bind (sf hfr f3 hf f4 f1 f2 λg1 zz=>?_);obtain ⟨k1,k2,k3,k4⟩:=zz;refine zf (s:={s with heap:=g1}) k1 k2 k3 λg2 zz=>?_
 obtain ⟨j1,⟨_,_,j2⟩,j3,j4⟩:=zz;exact k g2 ⟨j1,f2,j2,j3⟩ (k4.trans j4)
theorem looked (hfr:A.frames=some (env::outer)) (hf:env.frame=some L) (x:uc base (env::outer) e cl dc .none s.heap) (k:∀ g',uc base (env::outer) e cl dc (rawInt L) g'->s.heap.UpToSlots g'->Q () {s with heap:=g' }):wpAny M A (noteFrame (.ref e) env) Q E s:=by
 obtain ⟨f1,f2,f3,f4⟩:=x;refine sf hfr f3 hf f4 f1 f2 λg1 zz=>?_;obtain ⟨k1,k2,k3,k4⟩:=zz;exact k g1 ⟨k1,f2,k2,k3⟩ k4
theorem landed (x:uc base l e cl dc fl s.heap) (k:∀ g',uc base l e cl dc .none g'->s.heap.UpToSlots g'->Q () {s with heap:=g' }):wpAny M A (setFlight (.ref e) none) Q E s:=by
 obtain ⟨f1,f2,f3,f4⟩:=x;refine zf f1 f3 f4 λg1 zz=>?_;obtain ⟨k1,k2,k3,k4⟩:=zz;exact k g1 ⟨k1,f2,k2,k3⟩ k4
end
open PySem.Builtin PySem.Builtin.ObjectAttr
def xO:List Value->Bool
 | []=>false
 | v::r=>(v::r == bmV) || (match v with | .ref _=>xO r | _=>false)
theorem nF (self:Value):∀{l:List Value},xO l=true->refuseLoop self "__setattr__" l=pure ()
 | [],e=>by cases e
 | v::r,e=>by
  rcases (Bool.or_eq_true _ _).mp e with z | z
  ·rw [beq_iff_eq.mp z];exact PySem.F.store_ValueError.passes self
  ·cases v with
   | ref c=>rw [refuseLoop_ref];exact nF self z
   | _=>cases z
structure qj (K:Frag) (C:Addr):Prop where
 ex:∃ cd,clsIn K C=some cd/\xO cd.mro=true/\cd.hasDict=true
 sa:findIn K (.ref C) "__setattr__"=some (some (.builtin "object.__setattr__"))
 ec:HI K C
section
variable {prog:Program} {w:World} {A:Around} {s:Shared} {K:Frag} {x C:Addr} {ox:Obj} {od:Option Obj} {name:Str} {v:Value}
theorem x_osa {R:Result->Shared->Prop} {tk:Tok} (X:K.In s.heap) (c:qj K C) (I:W.InstAt s.heap x ox C od) (ha:bL K C name)
  (h:wpAny (model prog w) A.in1 (storeInOwnDict (.ref x) (.ref C) (.str name tk) name v false)
   (λfin s'=>match fin with | .done f=>R (.ok f) s' | .again c'=>c'.quiet=true/\codeAny (model prog w) A c' R s') (λe s'=>R (.error e) s') s) :
  codeAny (model prog w) A (.call (.builtin "object.__setattr__") ⟨[.ref x,.str name tk,v],[]⟩) R s:=by
 obtain ⟨cd,hc,ho,_⟩:=c.ex;have SF:=PySem.F.store_object;have T:=I.type (M:=model prog w);have inst:Looks (model prog w) s.heap (isInstance (.ref x) (.type "object")) true:=T.andThen (looks_mroIn X c.ec.hm);have mro:Looks (model prog w) s.heap (mroOf (.ref C)) cd.mro:=(looks_clsIn X hc).andThen .now;refine codeAny_call_builtin SF.slot.plain SF.entry (check_slot (M:=model prog w) (s:=s) (i:="object.__setattr__") (owner:="object") (n:="__setattr__") (self:=.ref x) (rest:=[.str name tk,v]) (kw:=[]) SF.kind SF.split inst (SF.args (.ref x) (.str name tk) v) ?_);rw [osa_eq,refuse_eq];refine wpAny_bind (wpAny_bind (T.here (wpAny_bind (mro.here ?_))));rw [nF _ ho];exact wpAny_pure (wpAny_bind (T.here (wpAny_bind ((looks_findIn X (show findIn K (.ref C) name=some none from ha)).here (wpAny_bind (wpAny_pure h))))))
theorem x_put {E:Value->Shared->Prop} {dx:Addr} {mA:Str->Option Value} {ns:List Str} {Q:Unit->Shared->Prop} (X:K.In s.heap) (c:qj K C) (hx:s.heap.get? x=some ox) (hcl:ox.cls=.ref C) (nc:notCls ox=true) (hd:ox.dict=some dx) (ne:dx≠x) (nsd:s.heap.Ns1 dx mA) (ha:bL K C name)
  (hw:PySem.Within mA ns) (hsz:ns.length<=sizeLine) (h:∀ h',h'.Ns1 dx (λy=>if y=name then some v else mA y)->Heap.SameBut dx s.heap h'->Q () {s with heap:=h',toks:=s.toks+2}) :
  wpAny (model prog w) A (setAttr (.ref x) name v) Q E s:=by
 obtain ⟨ob,ho,_⟩:=oY nsd;have I:W.InstAt s.heap x ox C (some ob):=⟨hx,hcl,nc,by rw [hd];exact ho⟩;refine set_plain X I c.sa (x_osa (s:={s with toks:=s.toks+1}) X c I ha ?_)
 obtain ⟨cd,hc,_,hdd⟩:=c.ex;obtain ⟨oc,odi,oda,osl⟩:=ox;dsimp only at hcl hd;subst hcl hd;refine wpAny_bind (wpAny_pure (wpAny_bind (wpAny_bind (wpAny_loadPart hx (wpAny_bind (W.Looks.here (s:={s with toks:=s.toks+1}) (looks_clsIn X hc) ?_))))))
 rw [hdd];refine wpAny_pure (a:=some dx) (wpAny_bind (wpAny_pure (wpAny_bind ?_)));refine wpAny_nsSet1 (s:={s with toks:=s.toks+1}) nsd λh2 hn2 hs2=>?_
 obtain ⟨oD,esD,epD,hoD,hdD,hcD⟩:=hn2.count (PySem.Within.cons name v hw);refine wpAny_bind (wpAny_lookBehind hoD (by rw [hdD];exact pastItsLine_dict (Nat.le_trans hcD (by rw [List.length_cons];omega))) ?_);exact wpAny_pure (h _ hn2 hs2)
theorem x_put0 {E:Value->Shared->Prop} {Q:Unit->Shared->Prop} (X:K.In s.heap) (c:qj K C) (hx:s.heap.get? x=some ox) (hcl:ox.cls=.ref C) (hdt:∃ vs,ox.data=.fields vs) (hd:ox.dict=none) (ha:bL K C name)
  (h:∀ h',h'.get? x=some {ox with dict:=some s.heap.objs.size}->h'.Ns1 s.heap.objs.size (λy=>if y=name then some v else none)->(∀ b o,b≠x->s.heap.get? b=some o->h'.get? b=some o)->Q () {s with heap:=h',toks:=s.toks+2}) :
  wpAny (model prog w) A (setAttr (.ref x) name v) Q E s:=by
 obtain ⟨vs,hdt⟩:=hdt;have I:W.InstAt s.heap x ox C none:=⟨hx,hcl,by unfold notCls;rw [hdt],by rw [hd];exact True.intro⟩;refine set_plain X I c.sa (x_osa (s:={s with toks:=s.toks+1}) X c I ha ?_)
 obtain ⟨cd,hc,_,hdd⟩:=c.ex;obtain ⟨oc,odi,oda,osl⟩:=ox;dsimp only at hcl hd hdt;subst hcl hd hdt;have lt:=Heap.lt_size hx;have e1:(s.heap.push {cls:=.type "dict",data:=.dict #[] }).get? x=some ⟨.ref C,none,.fields vs,osl⟩:=Heap.get?_push_of_some _ hx;refine wpAny_bind (wpAny_pure (wpAny_bind (wpAny_bind (wpAny_loadPart hx (wpAny_bind (W.Looks.here (s:={s with toks:=s.toks+1}) (looks_clsIn X hc) ?_))))))
 rw [hdd]
 have go:wpAny (model prog w) A.in1 (do let d <- alloc {cls:=.type "dict",data:=.dict #[] };update x λo=>{o with dict:=some d};dictMade (.ref C) x d)
   (λr s1=>∃ h1,r=some s.heap.objs.size/\s1={s with heap:=h1,toks:=s.toks+1}/\h1.get? x=some ⟨.ref C,some s.heap.objs.size,.fields vs,osl⟩/\h1.Ns s.heap.objs.size (λ_=>none)/\∀ b o,b≠x->s.heap.get? b=some o->h1.get? b=some o) (λ_ _=>False) {s with toks:=s.toks+1}:=by
  refine wpAny_bind (wpAny_alloc' (wpAny_bind (wpAny_update' e1 (wpAny_pure ⟨_,rfl,rfl,?_,?_,?_⟩))))
  ·exact Heap.get?_update_self _ e1 rfl
  ·exact ⟨_,#[],_,(Heap.get?_update_ne _ _ _ _ (Nat.ne_of_gt lt)).trans (Heap.get?_push_at rfl rfl),rfl,(λe z=>absurd z (by simp)),λ_=>rfl⟩
  ·exact λb o nb z=>(Heap.get?_update_ne _ _ _ _ nb).trans (Heap.get?_push_of_some _ z)
 change wpAny (model prog w) A.in1 (do let d <- alloc {cls:=.type "dict",data:=.dict #[] };update x λo=>{o with dict:=some d};dictMade (.ref C) x d) _ _ _
 refine wpAny_mono go (λr s1 z=>?_) (λ_ _ z=>z.elim);obtain ⟨h1,rfl,rfl,gx,gn,gk⟩:=z;show wpAny _ _ (storeInDict s.heap.objs.size (.str name s.toks) name v) _ _ _;unfold storeInDict newKeyGuard;refine wpAny_bind (wpAny_pure (wpAny_bind (wpAny_nsSet1 (s:={s with heap:=h1,toks:=s.toks+1}) (Heap.Ns1.of_empty gn) λh2 hn2 hs2=>?_)))
 obtain ⟨oD,esD,epD,hoD,hdD,hcD⟩:=hn2.count (PySem.Within.cons name v PySem.Within.nil);refine wpAny_bind (wpAny_lookBehind hoD (by rw [hdD];exact pastItsLine_dict (Nat.le_trans hcD (by rw [List.length_cons,List.length_nil,sizeLine_eq];omega))) ?_);refine wpAny_pure (h _ ((hs2.2 x (Nat.ne_of_lt lt)).trans gx) hn2 λb o nb z=>(hs2.2 b (Nat.ne_of_lt (Heap.lt_size z))).trans (gk b o nb z))
end
def gH (e C:Addr) (dc:Option Addr) (h:Heap):Prop:=∃ t,h.get? e=some {cls:=.ref C,dict:=dc,data:=.fields #[.ref t,.none,.none,.none,.bool false,.none] }
def dP (d:Addr) (fs:List (Str×V)) (h:Heap):Prop:=∃ mA,h.Ns1 d mA/\(∀ f,jg (fs.lookup f) (mA f))/\PySem.Within mA (fs.map (·.1))/\fs.length<=100
def tf (e C:Addr) (dc:Option Addr) (h:Heap):Prop:=∃ o vs,h.get? e=some o/\o.cls=.ref C/\o.dict=dc/\o.data=.fields vs
theorem gH.stay {e C:Addr} {dc:Option Addr} {h1 h2:Heap} (x:gH e C dc h1) (k:∀ o,h1.get? e=some o->h2.get? e=some o):gH e C dc h2:=let ⟨t,z⟩:=x;⟨t,k _ z⟩
theorem tf.stay {e C:Addr} {dc:Option Addr} {h1 h2:Heap} (x:tf e C dc h1) (k:∀ o,h1.get? e=some o->h2.get? e=some o):tf e C dc h2:=let ⟨o,vs,z,r⟩:=x;⟨o,vs,k _ z,r⟩
theorem dP.stay {d:Addr} {fs:List (Str×V)} {h1 h2:Heap} (x:dP d fs h1) (k:∀ o,h1.get? d=some o->h2.get? d=some o):dP d fs h2:=by
 obtain ⟨mA,⟨od,es,ep,e,c⟩,r⟩:=x;exact ⟨mA,⟨od,es,ep,k _ e,c⟩,r⟩
theorem dP.there {d:Addr} {fs:List (Str×V)} {h:Heap} (x:dP d fs h):∃ o,h.get? d=some o:=by
 obtain ⟨mA,⟨od,es,ep,e,c⟩,r⟩:=x;exact ⟨_,e⟩
section
variable {P:Program} {w:World} {H:Hp} {h:Heap} {e C d:Addr} {dc:Option Addr} {fs:List (Str×V)}
theorem Bb (x:gH e C dc h):bC P w H h e (.ext (gH e C dc)):=⟨x,let ⟨_,z⟩:=x;⟨_,z⟩,λ_ _ a k=>a.stay k⟩
theorem Eg (x:dP d fs h):bC P w H h d (.ext (dP d fs)):=⟨x,x.there,λ_ _ a k=>a.stay k⟩
end
theorem uj {d:Addr} {fs:List (Str×V)} {h h':Heap} {mA:Str->Option Value} {f:Str} {y:V} {u:Value} (r:∀ g,jg (fs.lookup g) (mA g)) (wi:PySem.Within mA (fs.map (·.1))) (z:fs.length < 100) (ry:RelV y u)
  (n:h'.Ns1 d (λg=>if g=f then some u else mA g)):dP d (gZ f y fs) h':=by
 refine ⟨_,n,λg=>?_,λg hg=>?_,?_⟩
 ·show jg ((gZ f y fs).lookup g) (if g=f then some u else mA g);rw [kr]
  by_cases q:g=f
  ·rw [if_pos q,if_pos q];exact ry
  ·rw [if_neg q,if_neg q];exact r g
 ·by_cases q:g=f
  ·rw [q];exact (iZ f y fs).1
  ·exact (iZ f y fs).2 g (wi g λz=>hg (by show (if g=f then some u else mA g)=none;rw [if_neg q];exact z))
 ·have:=ky f y fs;omega
section
variable {X:Cx} {pins:List (Addr×Obj)} {σ:St} {H:Hp} {s:Shared} {a C d:Addr} {fs:List (Str×V)} {f:Str} {y:V} {u:Value} {A:Around} {E:Value->Shared->Prop} {Q:Unit->Shared->Prop}
theorem xset_ok (I:Inv X pins σ H s) (ea:H a=some (.ext (gH a C (some d)))) (ed:H d=some (.ext (dP d fs))) (ne:d≠a) (c:qj X.K C) (n:bL X.K C f) (hl:fs.length < 100) (ry:RelV y u)
  (h:∀ s',Inv X pins σ (upd H d (.ext (dP d (gZ f y fs)))) s'->Q () s'):wpAny (model X.prog X.w) A (setAttr (.ref a) f u) Q E s:=by
 obtain ⟨⟨t,gx⟩,_,_⟩:=(show bC X.prog X.w H s.heap a (.ext (gH a C (some d))) from I.hok a _ ea);obtain ⟨⟨mA,nsd,r,wi,_⟩,_,_⟩:=(show bC X.prog X.w H s.heap d (.ext (dP d fs)) from I.hok d _ ed);refine x_put I.kIn c gx rfl rfl rfl ne nsd n wi (by rw [List.length_map,sizeLine_eq];omega) λh' n' sb=>h _ ?_;have x':=uj (d:=d) (h:=s.heap) r wi hl ry n';exact I.write (x:=d) (e:=d) (by rw [ed];exact True.intro) (.inl rfl) (λb q hb z=>(sb.2 b hb).trans z) x'.there (Eg x')
theorem Ef (I:Inv X pins σ H s) (ea:H a=some (.ext (gH a C none))) (c:qj X.K C) (n:bL X.K C f) (ry:RelV y u)
  (hL:∀ b,s.heap.objs.size<=b->b≠X.env.locals/\(∀ x c,X.env.cells.lookup x=some c->c≠b)/\(∀ p∈X.pn++pins,p.1≠b)/\X.s₀.heap.get? b=none)
  (h:∀ s' b,H b=none->Inv X pins σ (upd (upd H a (.ext (gH a C (some b)))) b (.ext (dP b [(f,y)]))) s'->Q () s'):wpAny (model X.prog X.w) A (setAttr (.ref a) f u) Q E s:=by
 obtain ⟨⟨t,gx⟩,_,_⟩:=(show bC X.prog X.w H s.heap a (.ext (gH a C none)) from I.hok a _ ea);refine x_put0 I.kIn c gx rfl ⟨_,rfl⟩ rfl n λh' g' n' kp=>?_;have fr:H s.heap.objs.size=none:=I.hok.fresh (Nat.le_refl _);have ne:s.heap.objs.size≠a:=λz=>by rw [z,ea] at fr;cases fr
 have x':dP s.heap.objs.size [(f,y)] h':=uj (fs:=[]) (h:=s.heap) (mA:=λ_=>none) (λ_=>True.intro) (λg z=>absurd rfl z) (by decide) ry n'
 have I1:Inv X pins σ (upd H a (.ext (gH a C (some s.heap.objs.size)))) {s with heap:=h',toks:=s.toks+2}:=
  I.write (x:=a) (e:=a) (by rw [ea];exact True.intro) (.inl rfl) (λb q hb z=>kp b q hb z) ⟨_,g'⟩ (Bb ⟨t,g'⟩)
 obtain ⟨l1,l2,l3,l4⟩:=hL _ (Nat.le_refl _);exact h _ s.heap.objs.size fr (I1.track (by rw [aq ne];exact fr) l4 l1 l2 l3 x' x'.there λ_ _ z k=>z.stay k)
end
theorem Inv.above {X:Cx} {pins:List (Addr×Obj)} {σ:St} {H:Hp} {s:Shared} (I:Inv X pins σ H s):∀ b,s.heap.objs.size<=b->b≠X.env.locals/\(∀ x c,X.env.cells.lookup x=some c->c≠b)/\(∀ p∈X.pn++pins,p.1≠b)/\X.s₀.heap.get? b=none:=λb hb=>by
 have no:∀ o,s.heap.get? b=some o->False:=λo z=>absurd (Heap.lt_size z) (Nat.not_lt.mpr hb);refine ⟨λz=>?_,λx c k q=>?_,λp hp q=>?_,?_⟩
 ·obtain ⟨mm,⟨o,_,_,g,_⟩,_⟩:=I.loc;rw [<- z] at g;exact no _ g
 ·obtain ⟨v,o,g,_⟩:=I.cell x c k;rw [q] at g;exact no _ g
 ·obtain ⟨g,_⟩:=I.pin p hp;rw [q] at g;exact no _ g
 ·exact Heap.get?_none_of_le (Nat.le_trans I.sz hb)
def sFldX (K:Frag) (ta tv:TE) (f:Str):TS:=λD σ H=>tv σ H λy H1=>ta σ H1 λx H2=>∃ a C,x=.ref a/\qj K C/\bL K C f/\
 (
 (H2 a=some (.ext (gH a C none))/\∀ d,H2 d=none->D.nx σ (upd (upd H2 a (.ext (gH a C (some d)))) d (.ext (dP d [(f,y)]))))\/
 ∃ d fs,H2 a=some (.ext (gH a C (some d)))/\H2 d=some (.ext (dP d fs))/\d≠a/\fs.length < 100/\D.nx σ (upd H2 d (.ext (dP d (gZ f y fs)))))
theorem Bx {X:Cx} {o value:Expr} {f:Str} {pos pos':Pos} {ta tv:TE} (ha:PE X o ta) (hv:PE X value tv) (hs:swapsWith value (some (.Attribute o f pos')) pos.line X.env=pure false):PS X (.Assign [.Attribute o f pos'] value pos) (sFldX X.K ta tv f):=by
 intro pins s σ H D I h;refine plainObj_wpAny_Assign_Attribute (thn (hv pins s σ H _ I h) λu s1 zz=>?_) hs;obtain ⟨y,H1,I1,ry,q⟩:=zz;refine thn (ha pins s1 σ H1 _ I1 q) λov s2 zz=>?_;obtain ⟨x,H2,I2,rx,a,C,ex,c,n,q2⟩:=zz;subst ex;cases (show ov=Value.ref a from rx)
 rcases q2 with ⟨ea,q2⟩ | ⟨d,fs,ea,ed,ne,l,q2⟩
 ·exact Ef I2 ea c n ry I2.above λs3 b hb I3=>⟨σ,_,I3,q2 b hb⟩
 ·exact xset_ok I2 ea ed ne c n l ry λs3 I3=>⟨σ,_,I3,q2⟩
def pd (K:Frag) (C:Addr) (bmB:List Value) (newId:String) (fI:Addr):Bool:=match K.lookup C with
 | some ⟨.type "type",_,.cls cl,sl⟩=>(match cl.mro,sl.toList with
  | .ref C1::bm,[_,_,_,_,some (.builtin i),_]=>(C1 == C && i == newId && !cl.hasDel && tailIn K bmB bm) && (nsOkIn K cl.ns && nsIn K cl.ns "__init__" == some (some (.ref fI)) && isFn K (.ref fI))
  | _,_=>false)
 | _=>false
theorem zS {K:Frag} {h:Heap} {N:Addr} {m:Str->Option Value} {n:Str} {v:Value} (X:K.In h) (G:h.Ns N m) (q:nsIn K N n=some (some v)):m n=some v:=by
 obtain ⟨o,es,ep,ho,hd,_,hf⟩:=G;unfold nsIn at q;split at q
 ·rename_i z;have e:=X _ _ z;rw [ho] at e;cases e
  cases hd
  split at q
  ·rename_i en he;cases q
   rw [<- hf];unfold nsFind findBy;rw [<- Array.find?_toList,he];rfl
  ·split at q <;> cases q
 ·cases q
theorem Eh {K:Frag} {h:Heap} {C fI:Addr} {bmB:List Value} {newId:String} (X:K.In h) (q:pd K C bmB newId fI=true):XAt h C bmB newId fI:=by
 unfold pd at q;split at q
 ·rename_i d0 c0 sl0 lk;split at q
  ·rename_i C1 bm1 j0 j1 j2 j3 n1 j5 em es;simp only [Bool.not_eq_true',beq_iff_eq,Bool.and_eq_true] at q;obtain ⟨⟨⟨⟨e1,e2⟩,nodel⟩,tl⟩,⟨ok,ni⟩,fn⟩:=q;subst e1 e2;obtain ⟨nm1,bs1,mro1,ns1,qn1,hd1,sn1,sub1,ab1,col1,del1⟩:=c0;dsimp only at em nodel ok ni;subst em nodel
   have esl:sl0=#[j0,j1,j2,j3,some (.builtin n1),j5]:=by
    obtain ⟨l0⟩:=sl0;simp only at es;rw [es]
   subst esl;have G:h.Ns ns1 (h.nsMap ns1):=.of_isNs (isNs_of_in X ok);obtain ⟨ob,ho,hc⟩:=Option.map_eq_some_iff.mp (show typeIn K (.ref fI)=some (.type "function") from beq_iff_eq.mp fn);exact ⟨_,_,_,_,_,_,_,_,_,_,_,_,_,_,_,_,_,ob,X _ _ lk,G,zS X G ni,tail_of_in X tl,X _ _ ho,hc⟩
  ·cases q
 ·cases q
section
variable {X:Cx} {k:Nat} {f C:Addr} {fd:FuncData} {ps:List Str} {sp:Sp} {x:Str} {p pos:Pos} {e:Expr} {es:List Expr} {t:TA}
theorem zB {pins:List (Addr×Obj)} {σ:St} {H:Hp} {s:Shared} {R:Hp->Prop} {us:List Value} {vs:List V} (F:lS X.prog X.w X.K X.mg X.base CX0 k f fd ps sp) (xi:pd X.K C bmV "ValueError.__new__" f=true) (hr:dF (k+1) X.A) (hb:Binds X.K fd ps [])
  (I:Inv X pins σ H s) (r:Vals vs us) (hz:vs.length<=1000) (q:sp (.ref (s.heap.objs.size+1)::vs) (upd H (s.heap.objs.size+1) (.ext (gH (s.heap.objs.size+1) C none))) (λv H2=>v=.non/\R H2) E0):wpAny (model X.prog X.w) X.A (call (.ref C) us) (λu s'=>u=.ref (s.heap.objs.size+1)/\∃ H',Inv X pins σ H' s'/\R H') X.xe s:=by
 have lz:us.length<=sizeLine:=by rw [<- r.length,sizeLine_eq];omega
 have I1:Inv X pins σ (upd H (s.heap.objs.size+1) (.ext (gH (s.heap.objs.size+1) C none))) {s with heap:=withExc s.heap C us,toks:=s.toks}:=
  I.laid (λb o z=>dX us z) (Nat.le_succ _) (Bb ⟨_,qS us⟩)
 have r1:Vals (V.ref (s.heap.objs.size+1)::vs) (Value.ref (s.heap.objs.size+1)::us):=.cons rfl r;have hl:(Value.ref (s.heap.objs.size+1)::us).length=ps.length:=by rw [<- r1.length];exact F.len _ _ _ _ q
 have bnd:=hb {s with heap:=withExc s.heap C us,toks:=s.toks} (Value.ref (s.heap.objs.size+1)::us) I1.kIn (by rw [List.append_nil];exact hl)
 rw [List.append_nil] at bnd;obtain ⟨hh,g,d,tk,os⟩:=s;refine DO PySem.F.excBase_ValueError (Eh I.kIn xi) lz ?_;refine wpAny_call (codeAny_mono (F.run _ X.stack _ _ ⟨_,[]⟩ _ _ _ E0 (hr.make C us []) (I1.env0.make C us []) bnd r1 q) λres s1 hq=>?_);cases res with
 | error ex=>exact hq.elim
 | ok fl =>
  cases fl with
  | ret u =>
   obtain ⟨v,H2,I2,rv,ev,q2⟩:=I1.after hq;subst ev;exact ⟨rv,rfl,H2,I2,q2⟩
  | next=>exact False.elim hq
  | brk=>exact False.elim hq
  | cont=>exact False.elim hq
end
theorem x_raise {prog:Program} {w:World} {A:Around} {E:Value->Shared->Prop} {s:Shared} {env:Env} {ex:Expr} {pos:Pos} {Q:Flow->Shared->Prop} {C:Addr} {bmB:List Value} {newId:String} (hbase:bmB.contains (.type "BaseException")=true) (hh:A.handled=none)
  (h:wpAny (model prog w) A (eval ex env) (λv s₁=>∃ e dc,v=.ref e/\(∃ fI,XAt s₁.heap C bmB newId fI)/\gH e C dc s₁.heap/\E (.ref e) s₁) E s):wpAny (model prog w) A (exec (.Raise (some ex) none pos) env) Q E s:=by
 rw [arm_exec_Raise];refine wpAny_bind (wpAny_standAt ?_);show wpAny _ _ (raiseStmt env (some (do let v <- eval ex env;standAt pos;pure v)) none) _ _ _;unfold raiseStmt;refine wpAny_bind (wpAny_bind (wpAny_mono h (λv s1 z=>wpAny_bind (wpAny_standAt (wpAny_pure ?_))) λ_ _ z=>z));obtain ⟨e,dc,rfl,⟨fI,nm,qn,N,bs,bm,hd,sn,sub,ab,col,dd,k0,k1,k2,k3,k5,mN,oI,gC,_,_,T,_,_⟩,⟨t,ge⟩,hE⟩:=z;have hcB:(Value.ref C::bm).contains (.type "BaseException")=true:=by rw [List.contains_cons,T.hasType hbase,Bool.or_true]
 obtain ⟨hp,g,d,tk,os⟩:=s1
 repeat (first | with_reducible refine wpAny_loadPart_at ge ?_ | with_reducible refine wpAny_loadPart_at gC ?_ | (with_reducible refine wpAny_isSubtype_exc gC ?_;rw [hcB]) | wp_step)
 exact wpAny_raiseNew_none hh hE
def del (a:Addr) (H:Hp):Hp:=λb=>if b=a then none else H b
theorem nX {a:Addr} {H:Hp}:del a H a=none:=if_pos rfl
theorem jx {a b:Addr} {H:Hp} (n:b≠a):del a H b=H b:=if_neg n
def FliesD (P:Program) (w:World) (outer:List Env) (H:Hp) (s:Shared) (ea:Addr) (C:Value) (dc:Option Addr) (H':Hp) (s':Shared):Prop:=∃(B:Heap),
 s'.os=s.os/\AllBare s'.gens/\Un (frs outer) [] H H' s.heap s'.heap/\HOk P w H' s'.heap/\uc B outer ea C dc .none s'.heap/\H' ea=none/\s.heap.get? ea=none/\
 ∀ b o,s'.heap.get? b=some o->b ∉ frs outer->((∃ u,H' b=some u)\/∃ o',s.heap.get? b=some o')->B.get? b=some o
def CXd (P:Program) (w:World):CXT:=λouter H s E e s'=>∃(ea:Addr) (C:Value) (dc:Option Addr) (H':Hp),e=.ref ea/\FliesD P w outer H s ea C dc H' s'/\E C dc H'
section
variable {P:Program} {w:World} {K:W.Frag} {mg:Str->Option Value} {base:Heap} {N:List Str} {qual:Str} {scope:Scope} {f:Addr} {cd:Value} {A:Around} {outer:List Env} {s:Shared} {H:Hp} {E:XK}
theorem yr {pins:List (Addr×Obj)} {σ:St} {H1:Hp} {s₂:Shared} {ea C:Addr} {dc:Option Addr} (I:Inv (cR (CXd P w) P w K mg base N qual scope f cd A outer s H E) pins σ H1 s₂)
  (hx:H1 ea=some (.ext (gH ea C dc))) (new:s.heap.get? ea=none) (q:E (.ref C) dc (del ea H1)):(cR (CXd P w) P w K mg base N qual scope f cd A outer s H E).xe (.ref ea) s₂:=by
 have FR:∀ b,b∈frs (envOfC qual scope s.heap.objs.size f cd::outer)->b=s.heap.objs.size\/b∈frs outer:=λb z=>List.mem_cons.mp (I.stkSub b z);have hin:∀ en∈(envOfC qual scope s.heap.objs.size f cd::outer),∀ b,en.frame=some b->b∈ea::frs (envOfC qual scope s.heap.objs.size f cd::outer):=λen he b hb=>List.mem_cons_of_mem _ (List.mem_filterMap.mpr ⟨en,he,hb⟩);obtain ⟨⟨t,ge⟩,_,_⟩:=(show bC P w H1 s₂.heap ea (.ext (gH ea C dc)) from I.hok ea _ hx);show wpAny (model P w) (A.deeper (envOfC qual scope s.heap.objs.size f cd)) (leaving (envOfC qual scope s.heap.objs.size f cd) (.ref ea)) _ _ _;refine vX (base:=PySem.W.hideAll s₂.heap (ea::frs (envOfC qual scope s.heap.objs.size f cd::outer))) I.ok.frames (PySem.W.funFrames_hide I.stack hin) rfl ge (λb o z=>PySem.W.of_hideAll _ z) (PySem.W.hideAll_none _ List.mem_cons_self) rfl rfl λh'' fl up=>?_
 have trk:∀ b u,H1 b=some u->b ∉ frs (envOfC qual scope s.heap.objs.size f cd::outer):=λb u e z=>by
  have:=I.stkFree b z;rw [e] at this;cases this
 have keepB:∀ b o,s₂.heap.get? b=some o->b≠ea->b ∉ frs (envOfC qual scope s.heap.objs.size f cd::outer)->h''.get? b=some o:=λb o e z n =>
  fl.1 b o (PySem.W.hideAll_get _ e λk=>(List.mem_cons.mp k).elim z n)
 have neS:∀ b o,s.heap.get? b=some o->b≠ea:=λb o e z=>by rw [z,new] at e;cases e
 have notF:∀ b o,s.heap.get? b=some o->b ∉ frs outer->b ∉ frs (envOfC qual scope s.heap.objs.size f cd::outer):=λb o e n z =>
  (FR b z).elim (λz=>absurd (Nat.lt_of_lt_of_le (Heap.lt_size e) I.ok.above) (by rw [z];exact Nat.lt_irrefl _)) n
 have hthere:∀ b o,s.heap.get? b=some o->∃ o',s₂.heap.get? b=some o':=λb o e=>I.base.there b o e (λz=>nomatch z)
 have slotK:∀ b o,s.heap.get? b=some o->b∈frs outer->∃ sl,h''.get? b=some {o with slots:=sl}:=λb o e hb=>by
  obtain ⟨sl,e1⟩:=I.base.slot b o e (I.ok.frf b hb) hb (λz=>nomatch z);obtain ⟨_,o',e2,nf⟩:=I.ok.funs.mem hb;have e3:some o'=some o:=e2.symm.trans e;cases e3
  obtain ⟨sl',e4⟩:=up b _ e1 nf;exact ⟨sl',e4⟩
 refine ⟨ea,.ref C,dc,del ea H1,rfl,⟨_,I.os,I.bare,⟨?_,?_,?_,?_,?_,?_,?_⟩,?_,fl,nX,new,?_⟩,q⟩
 ·exact λb o e n hb z=>keepB b o (I.base.keep b o e n hb z) (neS b o e) (notF b o e hb)
 ·exact λb o e n hb z=>slotK b o e hb
 ·exact λb o e n z=>by rw [jx (neS b o e)];exact I.base.free b o e n z
 ·intro b o e z
  by_cases hb:b∈frs outer
  ·obtain ⟨sl,e1⟩:=slotK b o e hb;exact ⟨_,e1⟩
  ·obtain ⟨o',e1⟩:=hthere b o e;exact ⟨o',keepB b o' e1 (neS b o e) (notF b o e hb)⟩
 ·intro b xs e;have z:=I.base.tups b xs e;rw [jx λk=>by rw [k,hx] at z;cases z]
  exact z
 ·intro b o u e;have z:=I.base.frzs b o u e;rw [jx λk=>by rw [k,hx] at z;cases z]
  exact z
 ·intro b ps e;obtain ⟨m,z⟩:=I.base.tbls b ps e;exact ⟨m,by rw [jx λk=>by rw [k,hx] at z;cases z];exact z⟩
 ·intro b u e;have nb:b≠ea:=λz=>by rw [z,nX] at e;cases e
  rw [jx nb] at e;refine (I.hok b u e).stay (λc v hc e'=>?_) (λc z=>?_) λc xs z=>?_
  ·have tc:∃ v',H1 c=some v'/\c≠ea:=hc.elim (λz=>⟨u,by rw [z];exact e,by rw [z];exact nb⟩) λz=>⟨_,z,λk=>by rw [k,hx] at z;cases z⟩
   obtain ⟨v',z1,z2⟩:=tc;exact keepB c v e' z2 (trk c v' z1)
  ·rw [jx λk=>by rw [k,hx] at z;cases z]
   exact z
  ·rw [jx λk=>by rw [k,hx] at z;cases z]
   exact z
 ·intro b o e n hb
  have key:∃ o2,s₂.heap.get? b=some o2/\b≠ea/\b ∉ frs (envOfC qual scope s.heap.objs.size f cd::outer):=by
   rcases hb with ⟨u,hu⟩ | ⟨o',ho⟩
   ·have nb:b≠ea:=λz=>by rw [z,nX] at hu;cases hu
    rw [jx nb] at hu;obtain ⟨ob,e2⟩:=(I.hok b u hu).there;exact ⟨ob,e2,nb,trk b u hu⟩
   ·obtain ⟨o2,e2⟩:=hthere b o' ho;exact ⟨o2,e2,neS b o' ho,notF b o' ho n⟩
  obtain ⟨o2,e2,n1,n2⟩:=key;have e3:=keepB b o2 e2 n1 n2;rw [e] at e3;cases e3
  exact PySem.W.hideAll_get _ e2 λk=>(List.mem_cons.mp k).elim n1 n2
end
open PySem.Builtin.Getset_descriptor
theorem uc.got {base g:Heap} {l:List Env} {e C:Addr} {fl:Value} {dc:Option Addr} (x:uc base l e (.ref C) dc fl g):tf e C dc g:=by
 obtain ⟨_,_,_,oe,vs,_,_,_,a,b,c,_⟩:=x;exact ⟨oe,vs,a,b.1,b.2,c⟩
theorem tf.of {e C:Addr} {dc:Option Addr} {h:Heap} (x:tf e C dc h):Cw e C h:=let ⟨o,_,a,b,_⟩:=x;⟨o,a,b⟩
structure AW (P:Program) (w:World) (K:Frag) (mg:Str->Option Value) (base:Heap) (n:Nat) (x:Str) (ps:List Str) (sp:Sp):Prop where
 ex:∃(f:Addr) (fd:FuncData),lS P w K mg base (CXd P w) n f fd ps sp/\Binds K fd ps []/\keepIn K (.ref f)=true/\mg x=some (.ref f)
theorem Cg {P:Program} {w:World} {K:Frag} {mg:Str->Option Value} {base:Heap} {x:Str} {st:Stmt} {N ps:List Str} {k:Nat} {sp:Sp} (T:au K mg x st) (S:aA N ps (ag st))
  (bd:∀(kV doc pm:Value) (an:Option Addr) (cdv ct:Value) (us:List Value),us.length=ps.length->bindArgs (fnOf x x (eI st) (bf st) (ag st) .none kV doc pm an cdv ct) ⟨us,[]⟩=pure (ps.zip us))
  (len:∀ vs H Q E,sp vs H Q E->vs.length=ps.length)
  (body:∀(f:Addr) (cdv:Value) (A:Around) (outer:List Env) (s:Shared) (H:Hp) (vs:List V) (Q:VK) (E:XK),dF k (A.deeper (envOfC x (ag st) s.heap.objs.size f cdv))->sp vs H Q E->
   ∃ t,PSs (cR (CXd P w) P w K mg base N x (ag st) f cdv A outer s H E) (bf st) t/\t {nx:=λ_ H'=>Q .non H',rt:=Q} (start N vs) H) :
  AW P w K mg base (k+1) x ps sp:=by
 obtain ⟨f,fd,F,m⟩:=T.ex;obtain ⟨oc,od,kV,doc,pm,an,cdv,ct,osl,rfl,lk,hcd⟩:=id F.ex;exact ⟨f,_,fn_of lk hcd S len λA outer s H vs Q E hr h=>body f cdv A outer s H vs Q E hr h,F.binds bd,F.kp,m⟩
section
variable {P:Program} {w:World} {K:W.Frag} {mg:Str->Option Value} {base:Heap} {N:List Str} {qual:Str} {scope:Scope} {f:Addr} {cd:Value} {A:Around} {outer:List Env} {s:Shared} {H:Hp} {E:XK}
theorem pass_on:Passes (CXd P w) (cR (CXd P w) P w K mg base N qual scope f cd A outer s H E) E:=by
 intro pins σ H1 s1 e s' I hq;obtain ⟨ea,C,dc,H2,rfl,⟨B,ho,hgn,un,hok,fl,h0,h1,cov⟩,q⟩:=hq;have hthere:∀ b o,s.heap.get? b=some o->∃ o',s1.heap.get? b=some o':=λb o z=>I.base.there b o z (λz=>nomatch z);show wpAny (model P w) (A.deeper (envOfC qual scope s.heap.objs.size f cd)) (leaving (envOfC qual scope s.heap.objs.size f cd) (.ref ea)) _ _ _;refine yq I.ok.frames rfl fl λg fl2 up=>?_;have I2:Inv (cR (CXd P w) P w K mg base N qual scope f cd A outer s H E) pins σ H2 {s' with heap:=g,toks:=s'.toks}:=I.caught (C:=C) (ea:=ea) (t:=ea) ho hgn un hok cov fl2.1 up
 have new:s.heap.get? ea=none:=by
  cases z:s.heap.get? ea with
  | none=>rfl
  | some o=>obtain ⟨o',e'⟩:=hthere ea o z;rw [h1] at e';cases e'
 refine ⟨ea,C,dc,H2,rfl,⟨B,I2.os,I2.bare,I2.base,I2.hok,fl2,h0,new,λb o z n hb=>?_⟩,q⟩
 have nf:b ∉ frs (envOfC qual scope s.heap.objs.size f cd::outer):=λk=>by
  rcases hb with ⟨u,hu⟩ | ⟨o',ho'⟩
  ·have:=I2.stkFree b k;rw [hu] at this;cases this
  ·exact (List.mem_cons.mp (I.stkSub b k)).elim (λy=>absurd (Nat.lt_of_lt_of_le (Heap.lt_size ho') I.ok.above) (by rw [y];exact Nat.lt_irrefl _)) n
 have key:(∃ o1,s'.heap.get? b=some o1)/\((∃ u,H2 b=some u)\/∃ o',s1.heap.get? b=some o'):=by
  rcases hb with ⟨u,hu⟩ | ⟨o',ho'⟩
  ·exact ⟨(hok b u hu).there,.inl ⟨u,hu⟩⟩
  ·obtain ⟨o2,e2⟩:=hthere b o' ho';exact ⟨un.there b o2 e2 (λz=>nomatch z),.inr ⟨o2,e2⟩⟩
 obtain ⟨⟨o1,e1⟩,k2⟩:=key;have e2:=cov b o1 e1 nf k2;have e3:=fl2.1 b o1 e2;have e4:some o=some o1:=z.symm.trans e3;cases e4
 exact e2
theorem pe_defP {n:Nat} {x:Str} {ps:List Str} {sp:Sp} {e:Expr} {es:List Expr} {t:TA} {p pos:Pos} (D:AW P w K mg base n x ps sp) (hr:dF n (cR (CXd P w) P w K mg base N qual scope f cd A outer s H E).A) (hg:Gl (cR (CXd P w) P w K mg base N qual scope f cd A outer s H E) x) (ha:PA (cR (CXd P w) P w K mg base N qual scope f cd A outer s H E) (e::es) t)
  (hdb:(x == ("__debug__":Str))=false:=by decide) (he:starEach (e::es) (envOfC qual scope s.heap.objs.size f cd)=(false,eval e (envOfC qual scope s.heap.objs.size f cd))::starEach es (envOfC qual scope s.heap.objs.size f cd):=by rfl) (hpl:(backTo pos (starEach es (envOfC qual scope s.heap.objs.size f cd))).any (·.1)=false:=by rfl) :
  PE (cR (CXd P w) P w K mg base N qual scope f cd A outer s H E) (.Call (.Name x p) (e::es) [] pos) (Es sp [] E t):=by
 obtain ⟨g,fd,F,b,kp,m⟩:=D.ex;exact BC F hr hg m kp b .nil pass_on ha hdb he hpl
end
theorem x_get {prog:Program} {w:World} {A:Around} {E:Value->Shared->Prop} {s:Shared} {K:Frag} {x C dx:Addr} {mA:Str->Option Value} {name:Str} {v:Value} {expr:Bool} {Q:Value->Shared->Prop} (X:K.In s.heap) (c:qj K C) (g:tf x C (some dx) s.heap) (n:s.heap.Ns1 dx mA) (ha:bL K C name) (hv:mA name=some v) (hh:handedIn v=true) (h:Q v {s with toks:=s.toks+1}) :
  wpAny (model prog w) A (getAttr (.ref x) name expr) Q E s:=by
 obtain ⟨ox,vs,hx,hcl,hdx,hdt⟩:=g;obtain ⟨od,ho,hl⟩:=oY n;have I:W.InstAt s.heap x ox C (some od):=⟨hx,hcl,by unfold notCls;rw [hdt],by rw [hdx];exact ho⟩;obtain ⟨cd,hc,_,hdd⟩:=c.ex;have hf:findObj K C (some od) name=some (.value v):=findObj_own (by unfold hasDictIn;rw [hc];exact hdd) (show findIn K (.ref C) name=some none from ha) rfl (by rw [hl,hv]);obtain ⟨hh',g,d,t,os⟩:=s;have L0:=I.type (M:=model prog w);have L1:=looks_findIn (M:=model prog w) X c.ec.ga;have L2:=looks_findIn (M:=model prog w) X c.ec.gt;have LB:=looks_mroIn (M:=model prog w) X c.ec.hb;have L3:=looks_find (M:=model prog w) X I hf;unfold getAttr getAttrBy;refine wpAny_bind (wpAny_mkText (wpAny_holding (wpAny_bind (L0.at (wpAny_bind (L1.at ?_))))));show wpAny _ _ (getAttrByItsOwn (.ref x) _ (.ref C) (.builtin "BaseException.__getattribute__") _ _) _ _ _;unfold getAttrByItsOwn;show wpAny _ _ (typeLookup (.ref C) "__getattr__" >>= _) _ _ _;refine wpAny_bind (L2.at ?_);refine wpAny_bind (wpAny_attempt (wpAny_holding ?_));have FB:=(F.attrBase_ValueError).ga;have kd:builtinKind "BaseException.__getattribute__"=some .slot:=by decide+kernel
 have spl:splitId "BaseException.__getattribute__"=some ("BaseException","__getattribute__"):=by decide+kernel
 have ar:=F.args_bexc_ga (.ref x) (.str name t);rw [show callGetattribute (.ref x) (.str name t) (.builtin "BaseException.__getattribute__") expr=boundAndCalled (.builtin "BaseException.__getattribute__") (.ref x) (.str name t) by unfold callGetattribute;cases expr <;> rfl];unfold boundAndCalled;refine wpAny_bind (wpAny_of_eq (FB.bind (.ref x)) ?_);show wpAny _ _ (call (.builtin "BaseException.__getattribute__") [.ref x,_]) _ _ _;refine wpAny_call (codeAny_call_builtin FB.plain F.entry_bexc_ga ?_);simp only [checkBuiltinCall,kd,spl];unfold isInstance;refine wpAny_bind (wpAny_bind (L0.at (LB.at ?_)));rw [if_neg (by decide)];refine wpAny_of_eq ar ?_;unfold Builtin.«object.__getattribute__»;refine wpAny_bind (wpAny_pure (wpAny_bind (wpAny_pure (wpAny_bind (L0.at (wpAny_bind (L3.at ?_)))))));refine wpAny_pure ?_;exact handed_on hh h
section
variable {X:Cx}
def tFldG (K:Frag) (ta:TE) (f:Str):TE:=λσ H Q=>ta σ H λx H1=>∃ a C d fs v,x=.ref a/\H1 a=some (.ext (tf a C (some d)))/\H1 d=some (.ext (dP d fs))/\qj K C/\bL K C f/\fs.lookup f=some v/\Q v H1
theorem Fu {K:Frag} {e:Expr} {f:Str} {pos:Pos} {ta:TE} (eK:X.K=K) (he:PE X e ta) (hb:attributeBase e f X.env (eval e X.env)=eval e X.env):PE X (.Attribute e f pos) (tFldG K ta f):=by
 subst eK;intro pins s σ H Q I h;refine Cq hb (thn (he pins s σ H _ I h) λu s1 zz=>?_);obtain ⟨x,H1,I1,rx,a,C,d,fs,v,ex,ea,ed,c,n,l,q⟩:=zz;subst ex;cases (show u=Value.ref a from rx)
 obtain ⟨mA,nsd,r,_,_⟩:=(show bC X.prog X.w H1 s1.heap d (.ext (dP d fs)) from I1.hok d _ ed).1;obtain ⟨u,hu,ru⟩:=jg.some_of (v:=v) (o:=mA f) (by rw [<- l];exact r f);exact x_get I1.kIn c (show bC X.prog X.w H1 s1.heap a (.ext (tf a C (some d))) from I1.hok a _ ea).1 nsd n hu (vb ru) ⟨v,H1,I1.tok _,ru,q⟩
end
structure FunE (K:Frag) (x qual:Str) (st:Stmt) (f:Addr):Prop where
 ex:∃ fd:FuncData,Fun K x qual st f fd
theorem funE_mk {K:Frag} {x qual:Str} {st:Stmt} {f:Addr} {oc kV doc pm cdv ct:Value} {od an:Option Addr} {osl:Array (Option Value)} (l:K.lookup f=some ⟨oc,od,.func (fnOf x qual (eI st) (bf st) (ag st) .none kV doc pm an cdv ct),osl⟩)
  (c:codeIn K cdv qual=true) (k:keepIn K (.ref f)=true):FunE K x qual st f:=⟨⟨_,Ao l c k⟩⟩
def ze (K:Frag) (C:Addr):Bool:=(clsIn K C).any λcd=>xO cd.mro && cd.hasDict
theorem xfld_mk {K:Frag} {C:Addr} (a:ze K C=true) (s:findIn K (.ref C) "__setattr__"=some (some (.builtin "object.__setattr__"))) (e:HI K C):qj K C:=by
 refine ⟨?_,s,e⟩;unfold ze at a;cases h:clsIn K C with
 | none=>rw [h] at a;cases a
 | some cd =>
  rw [h] at a;have z:(xO cd.mro && cd.hasDict)=true:=a;exact ⟨cd,rfl,(Bool.and_eq_true_iff.mp z).1,(Bool.and_eq_true_iff.mp z).2⟩
def Put (a C d:Addr) (fs:List (Str×V)) (H H':Hp):Prop:=H d=none/\d≠a/\H' a=some (.ext (gH a C (some d)))/\H' d=some (.ext (dP d fs))/\∀ b,b≠a->b≠d->H' b=H b
theorem Put.del {a C d:Addr} {fs:List (Str×V)} {H H':Hp} (n:H a=none) (p:Put a C d fs (upd H a (.ext (gH a C none))) H'):del a H'=upd H d (.ext (dP d fs))/\H d=none:=by
 obtain ⟨h1,h2,h3,h4,h5⟩:=p;rw [aq h2] at h1;refine ⟨funext λb=>?_,h1⟩
 by_cases z:b=a
 ·subst z;rw [nX,aq (Ne.symm h2)];exact n.symm
 ·rw [jx z]
  by_cases y:b=d
  ·subst y;rw [ae];exact h4
  ·rw [aq y,h5 b z y,aq z]
def kQ (C:Addr) (f g:Str):Sp:=λvs H Q _=>∃ a y z,vs=[.ref a,y,z]/\H a=some (.ext (gH a C none))/\∀ d H',Put a C d [(f,y),(g,z)] H H'->Q .non H'
structure XC2 (P:Program) (w:World) (K:Frag) (mg:Str->Option Value) (base:Heap) (x:Str) (C:Addr) (f g:Str):Prop where
 m:mg x=some (.ref C)
 kc:keepIn K (.ref C)=true
 ex:∃(fI:Addr) (fd:FuncData) (ps:List Str),lS P w K mg base CX0 1 fI fd ps (kQ C f g)/\Binds K fd ps []/\pd K C bmV "ValueError.__new__" fI=true
 fl:qj K C
 n1:bL K C f
 n2:bL K C g
def tRaise2 (C:Addr) (f g:Str) (E:XK) (ta:TA):TS:=λ_ σ H=>ta σ H λvs H1=>∃ y z,vs=[y,z]/\∀ d,H1 d=none->E (.ref C) (some d) (upd H1 d (.ext (dP d [(f,y),(g,z)])))
section
variable {P:Program} {w:World} {K:W.Frag} {mg:Str->Option Value} {base:Heap} {N:List Str} {qual:Str} {scope:Scope} {f:Addr} {cd:Value} {A:Around} {outer:List Env} {s:Shared} {H:Hp} {E:XK}
theorem uK {C:Addr} {x f1 f2:Str} {e₀:Expr} {es:List Expr} {ta:TA} {np cpos pos:Pos} (c:XC2 P w K mg base x C f1 f2)
  (hr:dF 2 (cR (CXd P w) P w K mg base N qual scope f cd A outer s H E).A) (hg:Gl (cR (CXd P w) P w K mg base N qual scope f cd A outer s H E) x) (ha:PA (cR (CXd P w) P w K mg base N qual scope f cd A outer s H E) (e₀::es) ta)
  (hdb:(x == ("__debug__":Str))=false:=by decide) (he:starEach (e₀::es) (envOfC qual scope s.heap.objs.size f cd)=(false,eval e₀ (envOfC qual scope s.heap.objs.size f cd))::starEach es (envOfC qual scope s.heap.objs.size f cd):=by rfl)
  (hpl:(backTo cpos (starEach es (envOfC qual scope s.heap.objs.size f cd))).any (·.1)=false:=by rfl) :
  PS (cR (CXd P w) P w K mg base N qual scope f cd A outer s H E) (.Raise (some (.Call (.Name x np) (e₀::es) [] cpos)) none pos) (tRaise2 C f1 f2 E ta):=by
 obtain ⟨fI,fd,ps,F,b,xi⟩:=c.ex;intro pins s₁ σ H1 D I h;refine x_raise (C:=C) (bmB:=bmV) (newId:="ValueError.__new__") (by decide) (I.ok.hd rfl) ?_;refine wpAny_Call_Name_kw (iz I hg c.m ?_ hdb);refine callWith_K (h₀:=base) I.ok.mod.kin c.kc (thn (ha cpos pins s₁ σ H1 _ I h) λus s2 zz=>?_) he hpl;obtain ⟨vs,H2,I2,r,y,z,ev,q⟩:=zz;refine ⟨I2.kIn,?_⟩;subst ev;have fr:H2 (s2.heap.objs.size+1)=none:=I2.hok.fresh (Nat.le_succ _);refine wpAny_mono (zB (R:=λH3=>∃ dc,H3 (s2.heap.objs.size+1)=some (.ext (gH (s2.heap.objs.size+1) C dc))/\E (.ref C) dc (del (s2.heap.objs.size+1) H3)) F xi hr b I2 r (by show 2<=1000;decide) ⟨_,y,z,rfl,ae,λd H3 p=>⟨rfl,some d,p.2.2.1,?_⟩⟩) (λv s3 t=>?_) λ_ _ t=>t
 ·obtain ⟨e1,e2⟩:=p.del fr;rw [e1];exact q d e2
 ·obtain ⟨rfl,H3,I3,dc,hx,hE⟩:=t;have nw:s.heap.get? (s2.heap.objs.size+1)=none:=Heap.get?_none_of_le (Nat.le_trans I2.sz (Nat.le_succ _));exact ⟨_,dc,rfl,⟨fI,Eh I3.kIn xi⟩,(show bC P w H3 s3.heap _ (.ext (gH _ C dc)) from I3.hok _ _ hx).1,yr I3 hx nw hE⟩
end
theorem ar0 {p:List Value->Prop} (h:p []) (us:List Value) (e:us.length=0):p us:=by
 rw [List.eq_nil_of_length_eq_zero e];exact h
theorem arS {p:List Value->Prop} {n:Nat} (h:∀ a us,us.length=n->p (a::us)) (us:List Value) (e:us.length=n+1):p us:=by
 cases us with
 | nil=>exact absurd e.symm (Nat.succ_ne_zero n)
 | cons a t=>exact h a t (Nat.succ.inj e)
theorem ar1 {p:List Value->Prop} (h:∀ a,p [a]):∀ us:List Value,us.length=1->p us:=arS λa=>ar0 (h a)
theorem ar2 {p:List Value->Prop} (h:∀ a b,p [a,b]):∀ us:List Value,us.length=2->p us:=arS λa=>ar1 (h a)
theorem ar3 {p:List Value->Prop} (h:∀ a b c,p [a,b,c]):∀ us:List Value,us.length=3->p us:=arS λa=>ar2 (h a)
theorem ar4 {p:List Value->Prop} (h:∀ a b c d,p [a,b,c,d]):∀ us:List Value,us.length=4->p us:=arS λa=>ar3 (h a)
theorem ar5 {p:List Value->Prop} (h:∀ a b c d e,p [a,b,c,d,e]):∀ us:List Value,us.length=5->p us:=arS λa=>ar4 (h a)
section
variable {P:Program} {w:World} {K:W.Frag} {mg:Str->Option Value} {base:Heap} {N:List Str} {qual:Str} {scope:Scope} {f:Addr} {cd:Value} {A:Around} {outer:List Env} {s:Shared} {H:Hp} {E:XK}
end
def tTryH (K:Frag) (j:Nat) (Dc:Addr) (sp:Sp) (ta:TA) (ts:TS):TS:=λD σ H=>ta σ H λvs H1=>sp vs H1 (λ_ H2=>D.nx σ H2) λC dc H2=>∃ Cn,C=.ref Cn/\mroIn K Cn (.ref Dc)=some true/\
 ∀ ea,H2 ea=none->ts {nx:=λσ' H3=>D.nx (σ'.set j none) H3,rt:=D.rt,bk:=λσ' H3=>D.bk (σ'.set j none) H3,ct:=λσ' H3=>D.ct (σ'.set j none) H3} (σ.set j (some (.ref ea))) (upd H2 ea (.ext (tf ea Cn dc)))
theorem ps_tryH {X:Cx} {m j:Nat} {x y n:Str} {ps:List Str} {sp:Sp} {e:Expr} {es:List Expr} {ta:TA} {ts:TS} {p pos pos' np hpos tpos:Pos} {b₀:Stmt} {suite:List Stmt} {Dc:Addr}
  (hxe:X.xe=λ_ _=>False) (hstk:X.stack=X.env::X.outer) (hfr:X.env.frame=some X.env.locals) (hex:X.ex=[])
  (Df:AW X.prog X.w X.K X.mg X.base m x ps sp) (hr:dF m X.A) (hg:Gl X x) (ha:PA X (e::es) ta) (hgy:Gl X y) (hmy:X.mg y=some (.ref Dc)) (cc:oB X.K Dc)
  (hN:X.N.Nodup) (hj:X.N[j]?=some n) (hl:X.env.scope.names.lookup n=some .local) (hs:∀ ea,PSs (X.mark ea) (b₀::suite) ts)
  (hdb:(x == ("__debug__":Str))=false:=by decide) (hdy:(y == ("__debug__":Str))=false:=by decide) (he:starEach (e::es) X.env=(false,eval e X.env)::starEach es X.env:=by rfl)
  (hpl:(backTo pos (starEach es X.env)).any (·.1)=false:=by rfl) (hsw:swapsWith (.Call (.Name x p) (e::es) [] pos) none pos'.line X.env=pure false:=by rfl) :
  PS X (.Try [.Expr (.Call (.Name x p) (e::es) [] pos) pos'] [.ExceptHandler (some (.Name y np)) (some n) (b₀::suite) hpos] [] [] tpos) (tTryH X.K j Dc sp ta ts):=by
 intro pins s σ H D I h;obtain ⟨f,fd,F,b,kp,mf⟩:=Df.ex;refine wpAny_Try_except (wpAny_execs_cons (wpAny_Expr_any ?_ I.quiet hsw));refine wpAny_Call_Name_kw (iz I hg mf ?_ hdb);refine callWith_K (h₀:=X.base) I.ok.mod.kin kp (wpAny_mono (ha pos pins s σ H _ I h) (λus s1 z=>?_) (λ_ _ z=>by rw [hxe] at z;exact z.elim)) he hpl;obtain ⟨vs,H1,I1,r,q⟩:=z;refine ⟨I1.kIn,?_⟩;have hlen:us.length=ps.length:=by rw [<- r.length];exact F.len _ _ _ _ q
 have bnd:BindsTo s1 fd ⟨us,[]⟩ (ps.zip us):=by
  have z:=b s1 us I1.kIn (by rw [List.append_nil];exact hlen);rw [List.append_nil] at z;exact z
 refine wpAny_call (codeAny_mono (F.run X.A X.stack s1 H1 ⟨us,[]⟩ us vs _ _ hr I1.env0 bnd r q) λres s' hq=>?_);cases res with
 | ok fl =>
  cases fl with
  | ret u =>
   obtain ⟨v,H2,I2,rv,q2⟩:=I1.after hq;exact wpAny_execs_nil (wpAny_execs_nil ⟨σ,H2,I2,q2⟩)
  | next=>exact False.elim hq
  | brk=>exact False.elim hq
  | cont=>exact False.elim hq
 | error ex =>
  obtain ⟨ea,C,dc,H2,rfl,⟨B,ho,hgn,un,hok,fl,h0,h1,cov⟩,Cn,rfl,hm,q3⟩:=hq;have hfrm:X.A.frames=some (X.env::X.outer):=by rw [<- hstk];exact I.ok.frames
  rw [hstk] at fl;refine looked (L:=X.env.locals) hfrm hfr fl λh4 held up4=>?_;refine landed (s:={s' with heap:=h4}) held λh5 fl5 up5'=>?_
  have up5:=up4.trans up5';have I5:Inv X pins σ H2 {s' with heap:=h5}:=I1.caught (C:=.ref Cn) (ea:=ea) (t:=ea) (tk:=s'.toks) ho hgn un hok cov fl5.1 up5
  refine wpAny_handleBy_cons (codeAny_handlers_test (iz (X:=X.mark ea) (I5.mark ea) hgy hmy ?_ hdy)) (by intro z;cases z)
  refine yD (K:=X.K) I5.kIn fl5.got.of cc hm ?_;show codeAny _ _ (.handlers (.ref ea) [.ExceptHandler none (some n) (b₀::suite) hpos] X.env) _ _;refine codeAny_handlers_suite_as ?_;refine landed (s:={s' with heap:=h5}) fl5 λh6 fl6 up6=>?_
  have I6:Inv X pins σ H2 {s' with heap:=h6}:=I1.caught (C:=.ref Cn) (ea:=ea) (t:=ea) (tk:=s'.toks) ho hgn un hok cov fl6.1 (up5.trans up6)
  have new:X.s₀.heap.get? ea=none:=by
   cases z:X.s₀.heap.get? ea with
   | none=>rfl
   | some o=>obtain ⟨o',e'⟩:=I1.base.there ea o z (by rw [hex];simp);rw [h1] at e';cases e'
  have nl:ea≠X.env.locals:=λz=>by
   obtain ⟨mm,⟨o,_,_,g,_⟩,_⟩:=I1.loc;rw [<- z,h1] at g;cases g
  have nc:∀ z c,X.env.cells.lookup z=some c->c≠ea:=λz c k q=>by
   obtain ⟨v,o,g,_⟩:=I1.cell z c k;rw [q,h1] at g;cases g
  have np':∀ z∈X.pn++pins,z.1≠ea:=λz hz q=>by
   obtain ⟨g,_⟩:=I1.pin z hz;rw [q,h1] at g;cases g
  have I7:=I6.track (a:=ea) (φ:=tf ea Cn dc) h0 new nl nc np' fl6.got (let ⟨o,_,z,_⟩:=fl6.got;⟨o,z⟩) λ_ _ z k=>z.stay k;refine mU (X:=X.mark ea) (I7.mark ea) hN hj (.inl hl) (v:=.ref ea) rfl (λs7 I8=>?_) (.inr hl)
  refine wpAny_mono (hs ea pins s7 _ _ _ I8 (q3 ea h0)) (λfl8 s8 q8=>?_) (λee ss z=>by
   have z':X.xe ee ss:=z;rw [hxe] at z';exact z'.elim)
  have hcls:(X.env.scope.kind == .class || (X.env.scope.kind == .module && X.env.locals != X.env.globals))=false:=by rw [I.ok.kind];rfl
  cases fl8 with
  | next =>
   obtain ⟨σ8,H8,J,n8⟩:=q8;have J':=J.unmark I.ok;obtain ⟨mm,hn,_⟩:=id J'.loc;exact wpAny_nameGoes_keeps hl hn hcls λh9 v9 hn9 hs9=>⟨_,H8,J'.unname hN hj hn hn9 hs9,n8⟩
  | brk =>
   obtain ⟨σ8,H8,J,n8⟩:=q8;have J':=J.unmark I.ok;obtain ⟨mm,hn,_⟩:=id J'.loc;exact wpAny_nameGoes_keeps hl hn hcls λh9 v9 hn9 hs9=>⟨_,H8,J'.unname hN hj hn hn9 hs9,n8⟩
  | cont =>
   obtain ⟨σ8,H8,J,n8⟩:=q8;have J':=J.unmark I.ok;obtain ⟨mm,hn,_⟩:=id J'.loc;exact wpAny_nameGoes_keeps hl hn hcls λh9 v9 hn9 hs9=>⟨_,H8,J'.unname hN hj hn hn9 hs9,n8⟩
  | ret u =>
   obtain ⟨v,σ8,H8,J,rv,n8⟩:=q8;have J':=J.unmark I.ok;obtain ⟨mm,hn,_⟩:=id J'.loc;exact wpAny_nameGoes_keeps hl hn hcls λh9 v9 hn9 hs9=>⟨v,_,H8,J'.unname hN hj hn hn9 hs9,rv,n8⟩
inductive Lt where
 | non | bl (b:Bool) | int (i:Int) | str (x:Str) | var (i:Nat) | tup (xs:List Lt) | lst (xs:List Lt) | dic
def visB (sc:Scope) (x:Str):Bool:=match sc.names.lookup x with
 | some .local=>true
 | some .cell=>true
 | some .free=>true
 | _=>false
mutual
def litE (N:List Str) (sc:Scope):Expr->Option Lt
 | .Constant .none _ _=>some .non
 | .Constant (.bool b) _ _=>some (.bl b)
 | .Constant (.int i) _ _=>some (.int i)
 | .Constant (.str x) _ _=>some (.str x)
 | .UnaryOp .USub (.Constant (.int i) _ _) _=>some (.int (-i))
 | .Name x _=>match N.idxOf? x with
  | some i=>if visB sc x && !(x == ("__debug__":Str)) && !(x == ("__classdict__":Str)) then some (.var i) else none
  | none=>none
 | .Tuple es _ _=>match pV N sc es with
  | some xs=>some (.tup xs)
  | none=>none
 | .List es _=>match pV N sc es with
  | some xs=>some (.lst xs)
  | none=>none
 | .Dict [] [] _=>some .dic
 | _=>none
def pV (N:List Str) (sc:Scope):List Expr->Option (List Lt)
 | []=>some []
 | e::es=>match litE N sc e,pV N sc es with
  | some x,some xs=>if plainArg e then some (x::xs) else none
  | _,_=>none
end
mutual
def tLit:Lt->TE
 | .non=>tC .non
 | .bl b=>tC (.bl b)
 | .int i=>tC (.int i)
 | .str x=>tC (.str x)
 | .var i=>tVar i
 | .tup xs=>tTup (wN xs)
 | .lst xs=>tLst (wN xs)
 | .dic=>Er
def wN:List Lt->TA
 | []=>tNil
 | x::xs=>Bd (tLit x) (wN xs)
end
mutual
def LtV (σ:St) (H:Hp):Lt->V->Prop
 | .non,v=>v=.non
 | .bl b,v=>v=.bl b
 | .int i,v=>v=.int i
 | .str x,v=>v=.str x
 | .var i,v=>σ[i]?=some (some v)
 | .tup xs,v=>∃ a us,v=.ref a/\H a=some (.tup us)/\lR σ H xs us
 | .lst xs,v=>∃ a us,v=.ref a/\H a=some (.lst us)/\lR σ H xs us
 | .dic,v=>∃ a,v=.ref a/\H a=some (.dK [])
def lR (σ:St) (H:Hp):List Lt->List V->Prop
 | [],us=>us=[]
 | x::xs,us=>∃ u r,us=u::r/\LtV σ H x u/\lR σ H xs r
end
mutual
def pU (σ:St):Lt->Bool
 | .var i=>match σ[i]? with | some (some _)=>true | _=>false
 | .tup xs=>decide (xs.length<=1000) && mJ σ xs
 | .lst xs=>decide (xs.length<=1000) && mJ σ xs
 | _=>true
def mJ (σ:St):List Lt->Bool
 | []=>true
 | x::xs=>pU σ x && mJ σ xs
end
mutual
theorem LtV.same {σ:St} {H H':Hp} (s:aE H H'):∀{l:Lt} {v:V},LtV σ H l v->LtV σ H' l v
 | .non,_,h=>h
 | .bl _,_,h=>h
 | .int _,_,h=>h
 | .str _,_,h=>h
 | .var _,_,h=>h
 | .tup _,_,⟨a,us,h1,h2,h3⟩=>⟨a,us,h1,s _ _ h2,lR.same s h3⟩
 | .lst _,_,⟨a,us,h1,h2,h3⟩=>⟨a,us,h1,s _ _ h2,lR.same s h3⟩
 | .dic,_,⟨a,h1,h2⟩=>⟨a,h1,s _ _ h2⟩
theorem lR.same {σ:St} {H H':Hp} (s:aE H H'):∀{l:List Lt} {us:List V},lR σ H l us->lR σ H' l us
 | [],_,h=>h
 | _::_,_,⟨u,r,h1,h2,h3⟩=>⟨u,r,h1,LtV.same s h2,lR.same s h3⟩
end
theorem lR.len {σ:St} {H:Hp}:∀{l:List Lt} {us:List V},lR σ H l us->us.length=l.length
 | [],_,h=>by cases (show _=([]:List V) from h);rfl
 | _::_,_,⟨u,r,h1,_,h3⟩=>by subst h1;simp [lR.len h3]
theorem sameNew {H:Hp} {p:Addr} (h:H p=none) (o:HO):aE H (upd H p o):=λb u z=>by rw [aq (ax z h)];exact z
mutual
theorem vV {σ:St}:∀(l:Lt) {H:Hp} {Q:VK},pU σ l=true->(∀ v H',aE H H'->LtV σ H' l v->Q v H')->tLit l σ H Q
 | .non,H,Q,_,q=>q _ _ (λ_ _ z=>z) rfl
 | .bl _,H,Q,_,q=>q _ _ (λ_ _ z=>z) rfl
 | .int _,H,Q,_,q=>q _ _ (λ_ _ z=>z) rfl
 | .str _,H,Q,_,q=>q _ _ (λ_ _ z=>z) rfl
 | .var i,H,Q,h,q=>by
  have h':(match σ[i]? with | some (some _)=>true | _=>false)=true:=h
  cases e:σ[i]? with
  | none=>rw [e] at h';cases h'
  | some o =>
   cases o with
   | none=>rw [e] at h';cases h'
   | some v=>exact ⟨v,e,q v H (λ_ _ z=>z) e⟩
 | .tup xs,H,Q,h,q=>by
  have h':(decide (xs.length<=1000) && mJ σ xs)=true:=h;rw [Bool.and_eq_true] at h';refine vU xs h'.2 λus H1 s1 l1=>⟨?_,λp hp=>?_⟩
  ·rw [l1.len];exact Nat.le_trans (of_decide_eq_true h'.1) (by decide)
  ·have s2:=sameNew hp (.tup us);exact q _ _ (λb o z=>s2 _ _ (s1 _ _ z)) ⟨p,us,rfl,ae,l1.same s2⟩
 | .lst xs,H,Q,h,q=>by
  have h':(decide (xs.length<=1000) && mJ σ xs)=true:=h;rw [Bool.and_eq_true] at h';refine vU xs h'.2 λus H1 s1 l1=>⟨?_,λp hp=>?_⟩
  ·rw [l1.len];exact Nat.le_trans (of_decide_eq_true h'.1) (by decide)
  ·have s2:=sameNew hp (.lst us);exact q _ _ (λb o z=>s2 _ _ (s1 _ _ z)) ⟨p,us,rfl,ae,l1.same s2⟩
 | .dic,H,Q,_,q=>λp hp=>q _ _ (sameNew hp _) ⟨p,rfl,ae⟩
theorem vU {σ:St}:∀(l:List Lt) {H:Hp} {Q:List V->Hp->Prop},mJ σ l=true->(∀ us H',aE H H'->lR σ H' l us->Q us H')->wN l σ H Q
 | [],H,Q,_,q=>q [] H (λ_ _ z=>z) rfl
 | x::xs,H,Q,h,q=>by
  have h':(pU σ x && mJ σ xs)=true:=h;rw [Bool.and_eq_true] at h';refine vV x h'.1 λv H1 s1 l1=>vU xs h'.2 λus H2 s2 l2=>?_;exact q _ _ (λb o z=>s2 _ _ (s1 _ _ z)) ⟨v,us,rfl,l1.same s2,l2⟩
end
section
variable {X:Cx}
theorem GO {N:List Str} {x:Str} {i:Nat} (h:N.idxOf? x=some i):N[i]?=some x:=by
 have:=List.of_findIdx?_eq_some (p:=λy=>y == x) (xs:=N) h;cases e:N[i]? with
 | none=>rw [e] at this;cases this
 | some y =>
  rw [e] at this;have:(y == x)=true:=this;rw [beq_iff_eq] at this;rw [this]
theorem vis_of {sc:Scope} {x:Str} (h:visB sc x=true):Vis sc x:=by
 unfold visB at h;unfold Vis;cases e:sc.names.lookup x with
 | none=>rw [e] at h;cases h
 | some k =>
  rw [e] at h;cases k with
  | «local»=>exact .inl rfl
  | cell=>exact .inr (.inl rfl)
  | free=>exact .inr (.inr rfl)
  | globalExplicit=>cases h
  | globalImplicit=>cases h
mutual
theorem qD {N:List Str} {sc:Scope} (eN:X.N=N) (es:X.env.scope=sc):∀(e:Expr) {l:Lt},litE N sc e=some l->PE X e (tLit l):=λe l h=>by
 cases e with
 | Constant c k p =>
  cases c with
  | none=>cases h;exact rX
  | bool b=>cases h;exact nK
  | int i=>cases h;exact ak
  | str x=>cases h;exact aL
  | _=>cases h
 | UnaryOp o a p =>
  cases o with
  | USub =>
   cases a with
   | Constant c k q =>
    cases c with
    | int i =>
     cases h
     intro pins s σ H Q I q;exact fi cS ak pins s σ H Q I ⟨i,rfl,q⟩
    | _=>cases h
   | _=>cases h
  | _=>cases h
 | Name x p =>
  unfold litE at h;cases z:N.idxOf? x with
  | none=>rw [z] at h;cases h
  | some i =>
   rw [z] at h;dsimp only at h
   by_cases c:(visB sc x && !(x == ("__debug__":Str)) && !(x == ("__classdict__":Str)))=true
   ·rw [if_pos c] at h;cases h
    rw [Bool.and_eq_true,Bool.and_eq_true] at c;exact Fq (by rw [eN];exact GO z) (by rw [es];exact vis_of c.1.1) (by simpa using c.1.2) (by simpa using c.2)
   ·rw [if_neg c] at h;cases h
 | Tuple xs c p =>
  unfold litE at h;cases z:pV N sc xs with
  | none=>rw [z] at h;cases h
  | some ls=>rw [z] at h;cases h;exact bE (vK eN es xs z)
 | List xs p =>
  unfold litE at h;cases z:pV N sc xs with
  | none=>rw [z] at h;cases h
  | some ls=>rw [z] at h;cases h;exact bF (vK eN es xs z)
 | Dict ks vs p =>
  cases ks with
  | nil =>
   cases vs with
   | nil=>cases h;exact Fv
   | cons _ _=>cases h
  | cons _ _=>cases h
 | _=>cases h
theorem vK {N:List Str} {sc:Scope} (eN:X.N=N) (es:X.env.scope=sc):∀(xs:List Expr) {ls:List Lt},pV N sc xs=some ls->PA X xs (wN ls)
 | [],ls,h=>by cases h;exact af
 | e::r,ls,h=>by
  unfold pV at h;cases z1:litE N sc e with
  | none=>rw [z1] at h;cases h
  | some x =>
   cases z2:pV N sc r with
   | none=>rw [z1,z2] at h;cases h
   | some ys =>
    rw [z1,z2] at h;dsimp only at h
    by_cases c:plainArg e=true
    ·rw [if_pos c] at h;cases h
     exact paS (qD eN es e z1) (vK eN es r z2) c
    ·rw [if_neg c] at h;cases h
end
theorem lit_ex {N:List Str} {sc:Scope} {l:Lt} {e:Expr} (h:litE N sc e=some l) (eN:X.N=N) (es:X.env.scope=sc):∃ te,PE X e te/\∀ σ H Q,pU σ l=true->(∀ v H',aE H H'->LtV σ H' l v->Q v H')->te σ H Q:=
 ⟨_,qD eN es e h,λσ H Q hv q=>vV l hv q⟩
structure om (X:Cx) (ss:List Stmt) (t:TS):Prop where
 h:PSs X ss t
theorem kZ {st:Stmt} {rest:List Stmt} {t u:TS} (h1:PS X st t) (h2:om X rest u):PSs X (st::rest) (tSeq t u):=ai h1 h2.h
theorem set_lit {N:List Str} {sc:Scope} {l:Lt} {e:Expr} {i:Nat} {x:Str} {p pos:Pos} {rest:List Stmt} {tr:TS} (h:litE N sc e=some l) (hr:om X rest tr) (eN:X.N=N) (es:X.env.scope=sc) (hN:X.N.Nodup) (hi:X.N[i]?=some x) (hx:Loc X.env.scope x) (hs:swapsWith e (some (.Name x p)) pos.line X.env=pure false) (hf:X.fn x=true\/X.env.scope.names.lookup x=some .local) :
  ∃ t,om X (.Assign [.Name x p] e pos::rest) t/\∀ D σ H,pU σ l=true->(∀ v H',aE H H'->LtV σ H' l v->tr D (σ.set i (some v)) H')->t D σ H:=
 ⟨_,⟨ai (aJ hN hi hx (qD eN es e h) hs hf) hr.h⟩,λD σ H hv q=>vV l hv λv H' s' lv=>q v H' s' lv⟩
theorem GX {X:Cx} {ss:List Stmt} {A R:TS->Prop} (h:∃ t,om X ss t/\A t) (k:∀ t,A t->R t):∃ t,om X ss t/\R t:=by
 obtain ⟨t,h1,h2⟩:=h;exact ⟨t,h1,k t h2⟩
end
section
variable {X:Cx}
def BH:V->Bool
 | .flt _=>false
 | .byt _=>false
 | _=>true
def rSam (K:W.Frag) (neg:Bool):R2:=λx y H Q=>∃ a b xs ys,x=.ref a/\y=.ref b/\SqL K H a xs/\SqL K H b ys/\((xs=ys/\(∀ v∈xs,BH v=true)/\Q (.bl (!neg)) H)\/(xs.length≠ys.length/\Q (.bl neg) H))
theorem Ha {A:Around} {s:Shared} {v:V} {u u':Value} (h:BH v=true) (r:RelV v u) (r':RelV v u'):PySem.SeqAt.EqAt A s u u' true:=by
 cases v with
 | non=>cases (show u=Value.none from r);cases (show u'=Value.none from r');exact PySem.SeqAt.EqAt.same _
 | bl b=>cases (show u=Value.bool b from r);cases (show u'=Value.bool b from r');exact PySem.SeqAt.EqAt.same _
 | int i =>
  obtain ⟨t,rfl⟩:=(show ∃ t,u=Value.int i t from r);obtain ⟨t',rfl⟩:=(show ∃ t,u'=Value.int i t from r');have:=PySem.SeqAt.EqAt.int_int (A:=A) (s:=s) i t i t'
  rwa [beq_self_eq_true] at this
 | str x =>
  obtain ⟨t,rfl⟩:=(show ∃ t,u=Value.str x t from r);obtain ⟨t',rfl⟩:=(show ∃ t,u'=Value.str x t from r');have:=PySem.SeqAt.EqAt.str_str (A:=A) (s:=s) x t x t'
  rwa [beq_self_eq_true] at this
 | byt b=>cases h
 | flt b=>cases h
 | ref a=>cases (show u=Value.ref a from r);cases (show u'=Value.ref a from r');exact PySem.SeqAt.EqAt.same _
 | ty n=>cases (show u=Value.type n from r);cases (show u'=Value.type n from r');exact PySem.SeqAt.EqAt.same _
theorem CL {A:Around} {s:Shared} {xs:List V} {us ws:List Value} (h:∀ v∈xs,BH v=true) (r:Vals xs us) (r':Vals xs ws):∀ j (h1:j < us.toArray.size) (h2:j < ws.toArray.size),PySem.SeqAt.EqAt A s us.toArray[j] ws.toArray[j] true:=by
 intro j h1 h2;have l1:=r.length;have h1':j < us.length:=by simpa using h1
 have hj:j < xs.length:=by omega
 obtain ⟨u,e1,e2⟩:=r.get (List.getElem?_eq_getElem hj);obtain ⟨u',e3,e4⟩:=r'.get (List.getElem?_eq_getElem hj)
 have e5:us.toArray[j]=u:=by
  obtain ⟨_,z⟩:=List.getElem?_eq_some_iff.mp e1;simpa using z
 have e6:ws.toArray[j]=u':=by
  obtain ⟨_,z⟩:=List.getElem?_eq_some_iff.mp e3;simpa using z
 rw [e5,e6];exact Ha (h _ (List.getElem_mem hj)) e2 e4
theorem all_true (n:Nat):(List.range n).all (λ_=>true)=true:=by
 rw [List.all_eq_true];exact λ_ _=>rfl
theorem FF (hu:X.A.units+64 < cLine):OpR X (compareOp .Eq) (rSam X.K false):=by
 intro pins s σ H x y v u Q I rx ry h;obtain ⟨a,b,xs,ys,rfl,rfl,ha,hb,q⟩:=h;cases (show v=Value.ref a from rx)
 cases (show u=Value.ref b from ry)
 obtain ⟨us,ru,⟨o,n,ho,hc,_,hd⟩,_⟩:=I.list ha;obtain ⟨ws,rw_,⟨o',n',ho',hc',_,hd'⟩,_⟩:=I.list hb;have l1:s.heap.IsList a us.toArray:=⟨o,ho,hc,n,hd⟩;have l2:s.heap.IsList b ws.toArray:=⟨o',ho',hc',n',hd'⟩;have n1:=ru.length;have n2:=rw_.length;rcases q with ⟨rfl,hv,q⟩ | ⟨ne,q⟩
 ·have z:=PySem.SeqAt.RcAt.lists (A:=X.A) (s:=s) (e:=λ_=>true) l1 l2 (by simp;omega) (by omega) (CL hv ru rw_);rw [all_true] at z;exact z _ _ _ _ ⟨.bl true,H,I,rfl,q⟩
 ·have z:=PySem.SeqAt.RcAt.lists_lengths (A:=X.A) (s:=s) l1 l2 (by simp;omega) (by omega);exact z _ _ _ _ ⟨.bl false,H,I,rfl,q⟩
end
end L2
namespace Mine
open PySem L2
theorem Ax {wi:TI} {te:TE} {js:List Nat} {σ:St} {H0:Hp} {Q:VK} {lo:Int} {n:Nat} (Src:Hp->Prop) (hwi:∀ R:It->Hp->Prop,(∀ H,Src H->R (Itr lo n) H)->wi σ H0 R) (hx:n<=1000)
  (Pv:Addr->Nat->List V->Hp->Prop) (h0:∀ H D,Src H->H D=none->Pv D 0 [] (upd H D (.lst [])))
  (hs:∀ D i ys H',i < n->H' D=some (.lst ys)->Pv D i ys H'->∀ N:VK,(∀ y H'',H'' D=some (.lst ys)->Pv D (i+1) (ys++[y]) (upd H'' D (.lst (ys++[y])))->N y H'')->te (some (.int (lo+i))::dj js σ) H' N)
  (hd:∀ D ys H',H' D=some (.lst ys)->Pv D n ys H'->Q (.ref D) H'):gP wi mT te js σ H0 Q:=by
 refine hwi _ λH src=>?_;intro D hD;refine ⟨λi m H'=>m=n - i/\i<=n/\∃ ys,ys.length=i/\H' D=some (.lst ys)/\Pv D i ys H',⟨n,rfl,Nat.zero_le _,[],rfl,ae,h0 H D src hD⟩,?_⟩;rintro i m H2 ⟨rfl,hi,ys,hy,eD,p⟩
 by_cases hlt:i < n
 ·refine .inr ⟨hlt,λv H3 y=>?_⟩;obtain ⟨eh,ev⟩:=y;subst eh ev;refine qY ?_;refine hs D i ys _ hlt eD p _ λy H5 z2 z3=>?_;exact ⟨ys,z2,Nat.lt_of_le_of_lt (show ys.length<=1000 by omega) (by decide),n - (i+1),by omega,rfl,hlt,ys++[y],by rw [List.length_append,hy];rfl,ae,z3⟩
 ·have ei:i=n:=by omega
  subst ei;exact .inl ⟨Nat.le_refl _,hd D ys H2 eD p⟩
theorem aZ.mem {α:Type} {R R':V->α->Prop} {us:List V} {ts:List α} (h:aZ R us ts) (k:∀ v∈us,∀ t,R v t->R' v t):aZ R' us ts:=by
 induction h with
 | nil=>exact .nil
 | cons r _ ih=>exact .cons (k _ List.mem_cons_self _ r) (ih λv hv=>k v (List.mem_cons_of_mem _ hv))
theorem yH {wi:TI} {te:TE} {js:List Nat} {σ:St} {H:Hp} {Q:VK} {lo:Int} {n:Nat} (R:Hp->V->Nat->Prop) (hR:∀ D H H' v i,SB (.ref D) H H'->v≠.ref D->R H v i->R H' v i) (Src:Hp->Prop) (hwi:∀ R:It->Hp->Prop,(∀ H,Src H->R (Itr lo n) H)->wi σ H R) (hsrc:∀ H',Src H'->aE H H') (hx:n<=1000)
  (hs:∀ i H' (N:VK),i < n->aE H H'->(∀ v H'',aE H' H''->(∀ a,v=.ref a->H' a=none)->R H'' v i->N v H'')->te (some (.int (lo+i))::dj js σ) H' N)
  (hd:∀ D ys H',aE H H'->H D=none->H' D=some (.lst ys)->aZ (R H') ys (List.range n)->Q (.ref D) H'):gP wi mT te js σ H Q:=by
 refine Ax Src hwi hx (λD i ys H'=>H D=none/\aE H H'/\(∀ v∈ys,v≠.ref D)/\aZ (R H') ys (List.range i)) (λH' D src hD=>⟨(hsrc H' src).free hD,(hsrc H' src).trans (ao hD _),(λ_ z=>nomatch z),.nil⟩) (λD i ys H' hi eD h N hN=>?_) (λD ys H' eD h=>hd D ys H' h.2.1 h.1 eD h.2.2.2);obtain ⟨hD,sm,nD,al⟩:=h;refine hs i H' N hi sm λv H'' s2 fr r=>?_;have eD2:=s2 _ _ eD;have nv:v≠.ref D:=λz=>by have:=fr D z;rw [eD] at this;cases this
 have sb1:SB (.ref D) H' (upd H'' D (.lst (ys++[v]))):=(SB.of s2).trans (mw _ _);refine hN v H'' eD2 ⟨hD,bp (sm.trans s2) hD _,λu hu=>?_,?_⟩
 ·rcases List.mem_append.mp hu with hu | hu
  ·exact nD u hu
  ·rw [List.mem_singleton.mp hu];exact nv
 ·rw [List.range_succ];exact (al.mem λu hu t ru=>hR D _ _ _ _ sb1 (nD u hu) ru).app (.cons (hR D _ _ _ _ (mw _ _) nv r) .nil)
end Mine
namespace L2
open PySem
theorem dk {n:Nat} (h:n<=9000):n < sizeLine:=Nat.lt_of_le_of_lt h (by decide)
end L2
namespace Mine
open PySem L2
def top (i:Nat):Stmt:=PySem.Challenge.pw_leansay_k34_whole_saying_line_rows_line.main.body.getD i (.Pass ⟨0,0,0,0⟩)
abbrev fR:Stmt:=inClass (top 4) 0
abbrev bZ:Stmt:=inClass (top 48) 0
abbrev cz:Stmt:=inClass (top 48) 1
abbrev eX:Stmt:=inClass (top 48) 2
abbrev lX:Stmt:=inClass (top 48) 3
abbrev cF:Stmt:=inClass (top 49) 0
abbrev cB:Stmt:=inClass (top 50) 0
abbrev fT:Stmt:=inClass (top 51) 0
abbrev bI:Stmt:=inClass (top 51) 1
abbrev jo:Stmt:=inClass (top 52) 0
abbrev fQ:Stmt:=inClass (top 52) 1
abbrev dC:Stmt:=inClass (top 52) 2
abbrev gD:Stmt:=inClass (top 52) 3
abbrev iu:Stmt:=inClass (top 53) 0
abbrev eZ:Stmt:=inClass (top 53) 1
abbrev fV:Stmt:=inClass (top 53) 2
abbrev cU:Stmt:=inClass (top 54) 0
abbrev fS:Stmt:=inClass (top 54) 1
abbrev cV:Stmt:=inClass (top 55) 0
abbrev fU:Stmt:=inClass (top 55) 1
abbrev cu:Stmt:=inClass (top 56) 0
abbrev dM:Stmt:=inClass (top 56) 1
abbrev cA:Stmt:=inClass (top 57) 0
abbrev eA:Stmt:=inClass (top 57) 1
abbrev cG:Stmt:=inClass (top 58) 0
abbrev eY:Stmt:=inClass (top 58) 1
abbrev sLaid:Stmt:=eX
abbrev gp:Stmt:=top 8
abbrev mG:Stmt:=top 9
abbrev zx:Stmt:=top 10
abbrev jm:Stmt:=top 14
abbrev eV:Stmt:=top 15
abbrev rS:Stmt:=top 16
abbrev iF:Stmt:=top 19
abbrev jY:Stmt:=top 20
abbrev bV:Stmt:=top 21
abbrev rT:Stmt:=top 25
abbrev ir:Stmt:=top 26
abbrev dI:Stmt:=top 27
abbrev jl:Stmt:=top 28
abbrev bW:Stmt:=top 29
abbrev jk:Stmt:=top 30
abbrev iH:Stmt:=top 31
abbrev mF:Stmt:=top 32
abbrev cJ:Stmt:=top 33
abbrev mz:Stmt:=top 35
abbrev gT:Stmt:=top 36
abbrev nC:Stmt:=top 37
abbrev jP:Stmt:=top 38
abbrev jQ:Stmt:=top 39
abbrev bY:Stmt:=top 40
abbrev gY:Stmt:=top 41
abbrev iG:Stmt:=top 42
abbrev oN:Stmt:=top 43
abbrev mE:Stmt:=top 45
abbrev dR:Stmt:=top 59
abbrev fD:Stmt:=top 62
abbrev gX:Stmt:=top 63
abbrev jj:Stmt:=top 64
abbrev gU:Stmt:=top 65
abbrev fB:Stmt:=top 66
abbrev jR:Stmt:=top 68
abbrev jX:Stmt:=top 69
abbrev mB:Stmt:=top 70
abbrev jT:Stmt:=top 71
abbrev dQ:Stmt:=top 72
abbrev oG:Stmt:=top 73
abbrev gW:Stmt:=top 74
abbrev jW:Stmt:=top 76
abbrev oJ:Stmt:=top 77
abbrev cT:Stmt:=top 78
abbrev oK:Stmt:=top 79
abbrev ER:Stmt:=top 80
abbrev ET:Stmt:=top 80
abbrev oH:Stmt:=top 81
abbrev jU:Stmt:=top 82
abbrev eW:Stmt:=top 83
abbrev mC:Stmt:=top 84
abbrev mD:Stmt:=top 85
abbrev ck:Stmt:=top 86
abbrev dJ:Stmt:=top 87
abbrev jV:Stmt:=top 88
abbrev jS:Stmt:=top 89
abbrev sLaw:Stmt:=top 89
variable {P:Program} {w:World} {K:W.Frag} {mg:Str->Option Value} {base:Heap}
theorem rH:aA ["self","name"] ["self","name"] (ag fT):=L2.fsc rfl
theorem zP {x:Str} {C:Addr} (T:MkF K mg x C "Letter.__init__" fT) (n:bL K C "name"):tG P w K mg base x C 1 ["self","name"] (kR C nV):=by
 refine Gq T rH (λ_ _ _ _ _ _=>L2.ar2 λ_ _=>rfl) ?_ ?_
 ·walk_at "i1";obtain ⟨a,dx,y,rfl,e,q⟩:=h;rfl
 walk_at "i2";obtain ⟨a,dx,y,rfl,e,q⟩:=h;have nd:=rH.nd;refine ⟨_,(aj (vH (pv 0) (pv 1) rfl)),?_⟩;exact ⟨_,rfl,_,rfl,a,C,dx,[],rfl,e,T.cl,n,(by show 0 < 1000;decide),q⟩
theorem Bu:aA ["self","part"] ["self","part"] (ag jo):=L2.fsc rfl
theorem ok_iNot {x:Str} {C:Addr} (T:MkF K mg x C "Not.__init__" jo) (n:bL K C "part"):tG P w K mg base x C 1 ["self","part"] (kR C sU):=by
 refine Gq T Bu (λ_ _ _ _ _ _=>L2.ar2 λ_ _=>rfl) ?_ ?_
 ·walk_at "i1";obtain ⟨a,dx,y,rfl,e,q⟩:=h;rfl
 walk_at "i2";obtain ⟨a,dx,y,rfl,e,q⟩:=h;have nd:=Bu.nd;refine ⟨_,(aj (vH (pv 0) (pv 1) rfl)),?_⟩;exact ⟨_,rfl,_,rfl,a,C,dx,[],rfl,e,T.cl,n,(by show 0 < 1000;decide),q⟩
theorem xB:aA ["self","one","other"] ["self","one","other"] (ag iu):=L2.fsc rfl
theorem FU {x:Str} {C:Addr} (T:MkF K mg x C "Fold.__init__" iu) (n:bL K C "one") (n':bL K C "other"):tG P w K mg base x C 1 ["self","one","other"] (kQ C):=by
 refine Gq T xB (λ_ _ _ _ _ _=>L2.ar3 λ_ _ _=>rfl) ?_ ?_
 ·walk_at "i1";obtain ⟨a,dx,y,z,rfl,e,q⟩:=h;rfl
 walk_at "i2";obtain ⟨a,dx,y,z,rfl,e,q⟩:=h;have nd:=xB.nd
 refine ⟨_,(ai (vH (pv 0) (pv 1) rfl)
  (aj (vH (pv 0) (pv 2) rfl))),?_⟩
 refine ⟨_,rfl,_,rfl,a,C,dx,[],rfl,e,T.cl,n,(by show 0 < 1000;decide),?_⟩;refine ⟨_,rfl,_,rfl,a,C,dx,_,rfl,ae,T.cl,n',(by show 1 < 1000;decide),?_⟩;rw [Fj,upd_upd];exact q
theorem sc_mS:aA ["self"] ["self"] (ag bZ):=L2.fsc rfl
theorem BG {c:CCs} {C:Addr} {t:Tr} (T:bh K C "made_of" "Saying.made_of" bZ) (ht:t.kids=[]):bx P w K mg base C "made_of" 1 ["self"] (vw c t):=by
 refine bN T sc_mS (λ_ _ _ _ _ _=>L2.ar1 λ_=>rfl) ?_ ?_
 ·walk_at "i1";obtain ⟨a,rfl,o,q⟩:=h;rfl
 walk_at "i2";obtain ⟨a,rfl,o,q⟩:=h;have nd:=sc_mS.nd;refine ⟨_,(aj (aw (bF af))),?_⟩;refine ⟨szA,λl hl=>q l [] hl ?_⟩;rw [ht];exact .nil
theorem Br:aA ["self"] ["self"] (ag fQ):=L2.fsc rfl
theorem ok_mNot {c:CCs} {t:Tr} (T:bh K c.no "made_of" "Not.made_of" fQ) (F:Fx K c):bx P w K mg base c.no "made_of" 1 ["self"] (vw c (.no t)):=by
 refine bN T Br (λ_ _ _ _ _ _=>L2.ar1 λ_=>rfl) ?_ ?_
 ·walk_at "i1";obtain ⟨a,rfl,o,q⟩:=h;rfl
 walk_at "i2";obtain ⟨a,rfl,o,q⟩:=h;have nd:=Br.nd;refine ⟨_,(aj (aw (bF (aa (ki (pv 0) rfl) af)))),?_⟩;cases o with
 | no e o =>
  refine ⟨_,rfl,a,c.no,_,_,_,rfl,e,T.cl,F.nPart,uQ _,szB,λl hl=>q l _ hl ?_⟩;exact .cons ⟨_,rfl,o⟩ .nil
theorem xu:aA ["self"] ["self"] (ag eZ):=L2.fsc rfl
theorem FP {c:CCs} {u:W5} {t t':Tr} (T:bh K (c.fold u) "made_of" "Fold.made_of" eZ) (F:Fx K c):bx P w K mg base (c.fold u) "made_of" 1 ["self"] (vw c (.fold u t t')):=by
 refine bN T xu (λ_ _ _ _ _ _=>L2.ar1 λ_=>rfl) ?_ ?_
 ·walk_at "i1";obtain ⟨a,rfl,o,q⟩:=h;rfl
 walk_at "i2";obtain ⟨a,rfl,o,q⟩:=h;have nd:=xu.nd;refine ⟨_,(aj (aw (bF (aa (ki (pv 0) rfl) (aa (ki (pv 0) rfl) af))))),?_⟩;cases o with
 | fold e o o' =>
  refine ⟨_,rfl,a,_,_,_,_,rfl,e,T.cl,F.nOne u,yo _ _,_,rfl,a,_,_,_,_,rfl,e,T.cl,F.nOther u,sG _ _,szC,λl hl=>q l _ hl ?_⟩;exact .cons ⟨_,rfl,o⟩ (.cons ⟨_,rfl,o'⟩ .nil)
theorem uA:aA ["self"] ["self"] (ag cF):=L2.fsc rfl
theorem CS {c:CCs} {C:Addr} (T:bh K C "making_word" "Never.making_word" cF):bx P w K mg base C "making_word" 1 ["self"] (eT c .never):=by
 refine bN T uA (λ_ _ _ _ _ _=>L2.ar1 λ_=>rfl) ?_ ?_
 ·walk_at "i1";obtain ⟨a,rfl,o,q⟩:=h;rfl
 walk_at "i2";obtain ⟨a,rfl,o,q⟩:=h;have nd:=uA.nd;refine ⟨_,(aj (aw aL)),?_⟩;exact q
theorem rC:aA ["self"] ["self"] (ag cB):=L2.fsc rfl
theorem zH {c:CCs} {C:Addr} (T:bh K C "making_word" "Always.making_word" cB):bx P w K mg base C "making_word" 1 ["self"] (eT c .always):=by
 refine bN T rC (λ_ _ _ _ _ _=>L2.ar1 λ_=>rfl) ?_ ?_
 ·walk_at "i1";obtain ⟨a,rfl,o,q⟩:=h;rfl
 walk_at "i2";obtain ⟨a,rfl,o,q⟩:=h;have nd:=rC.nd;refine ⟨_,(aj (aw aL)),?_⟩;exact q
theorem EL:aA ["self"] ["self"] (ag bI):=L2.fsc rfl
theorem ok_wLp {c:CCs} (T:bh K c.le "making_word" "Letter.making_word" bI) (F:Fx K c):bx P w K mg base c.le "making_word" 1 ["self"] (eT c .lp):=by
 refine bN T EL (λ_ _ _ _ _ _=>L2.ar1 λ_=>rfl) ?_ ?_
 ·walk_at "i1";obtain ⟨a,rfl,o,q⟩:=h;rfl
 walk_at "i2";obtain ⟨a,rfl,o,q⟩:=h;have nd:=EL.nd;refine ⟨_,(aj (aw (ki (pv 0) rfl))),?_⟩;cases o with
 | lp e=>exact ⟨_,rfl,a,_,_,_,_,rfl,e,T.cl,F.nName,uR _,q⟩
theorem EK:aA ["self"] ["self"] (ag bI):=L2.fsc rfl
theorem ok_wLq {c:CCs} (T:bh K c.le "making_word" "Letter.making_word" bI) (F:Fx K c):bx P w K mg base c.le "making_word" 1 ["self"] (eT c .lq):=by
 refine bN T EK (λ_ _ _ _ _ _=>L2.ar1 λ_=>rfl) ?_ ?_
 ·walk_at "i1";obtain ⟨a,rfl,o,q⟩:=h;rfl
 walk_at "i2";obtain ⟨a,rfl,o,q⟩:=h;have nd:=EK.nd;refine ⟨_,(aj (aw (ki (pv 0) rfl))),?_⟩;cases o with
 | lq e=>exact ⟨_,rfl,a,_,_,_,_,rfl,e,T.cl,F.nName,uR _,q⟩
theorem Bn:aA ["self"] ["self"] (ag dC):=L2.fsc rfl
theorem ok_wNot {c:CCs} {C:Addr} {t:Tr} (T:bh K C "making_word" "Not.making_word" dC):bx P w K mg base C "making_word" 1 ["self"] (eT c (.no t)):=by
 refine bN T Bn (λ_ _ _ _ _ _=>L2.ar1 λ_=>rfl) ?_ ?_
 ·walk_at "i1";obtain ⟨a,rfl,o,q⟩:=h;rfl
 walk_at "i2";obtain ⟨a,rfl,o,q⟩:=h;have nd:=Bn.nd;refine ⟨_,(aj (aw aL)),?_⟩;exact q
theorem xo:aA ["self"] ["self"] (ag cU):=L2.fsc rfl
theorem FJ {c:CCs} {C:Addr} {t t':Tr} (T:bh K C "making_word" "More.making_word" cU):bx P w K mg base C "making_word" 1 ["self"] (eT c (.fold .more t t')):=by
 refine bN T xo (λ_ _ _ _ _ _=>L2.ar1 λ_=>rfl) ?_ ?_
 ·walk_at "i1";obtain ⟨a,rfl,o,q⟩:=h;rfl
 walk_at "i2";obtain ⟨a,rfl,o,q⟩:=h;have nd:=xo.nd;refine ⟨_,(aj (aw aL)),?_⟩;exact q
theorem xD:aA ["self","n","first","second"] ["self","n","first","second"] (ag fS):=L2.fsc rfl
theorem FW {C:Addr} (T:bh K C "folded" "More.folded" fS) (fv:mg "min"=none):bx P w K mg base C "folded" 1 ["self","n","first","second"] (iM .more):=by
 refine bN T xD (λ_ _ _ _ _ _=>L2.ar4 λ_ _ _ _=>rfl) ?_ ?_
 ·walk_at "i1";obtain ⟨a,n,i,j,rfl,q⟩:=h;rfl
 walk_at "i2";obtain ⟨a,n,i,j,rfl,q⟩:=h;have nd:=xD.nd;refine ⟨_,(aj (aw (aB (gN rfl) rfl fv (by decide+kernel) (aa (aK bJ (pv 2) (pv 3)) (aa (pv 1) af))))),?_⟩;refine ⟨_,rfl,_,rfl,_,_,rfl,rfl,_,rfl,_,_,rfl,?_⟩;rw [oX];exact q
theorem xq:aA ["self"] ["self"] (ag cV):=L2.fsc rfl
theorem FK {c:CCs} {C:Addr} {t t':Tr} (T:bh K C "making_word" "Less.making_word" cV):bx P w K mg base C "making_word" 1 ["self"] (eT c (.fold .less t t')):=by
 refine bN T xq (λ_ _ _ _ _ _=>L2.ar1 λ_=>rfl) ?_ ?_
 ·walk_at "i1";obtain ⟨a,rfl,o,q⟩:=h;rfl
 walk_at "i2";obtain ⟨a,rfl,o,q⟩:=h;have nd:=xq.nd;refine ⟨_,(aj (aw aL)),?_⟩;exact q
theorem xE:aA ["self","n","first","second"] ["self","n","first","second"] (ag fU):=L2.fsc rfl
theorem FX {C:Addr} (T:bh K C "folded" "Less.folded" fU) (iC:mg "max"=none):bx P w K mg base C "folded" 1 ["self","n","first","second"] (iM .less):=by
 refine bN T xE (λ_ _ _ _ _ _=>L2.ar4 λ_ _ _ _=>rfl) ?_ ?_
 ·walk_at "i1";obtain ⟨a,n,i,j,rfl,q⟩:=h;rfl
 walk_at "i2";obtain ⟨a,n,i,j,rfl,q⟩:=h;have nd:=xE.nd;refine ⟨_,(aj (aw (aB (lJ rfl) rfl iC (by decide+kernel) (aa (aK du (aK bJ (pv 2) (pv 3)) (pv 1)) (aa ak af))))),?_⟩;refine ⟨_,rfl,_,rfl,_,_,rfl,rfl,_,rfl,_,_,rfl,rfl,_,_,rfl,?_⟩;rw [vT];exact q
theorem pM:aA ["self"] ["self"] (ag cu):=L2.fsc rfl
theorem xQ {c:CCs} {C:Addr} {t t':Tr} (T:bh K C "making_word" "Greater.making_word" cu):bx P w K mg base C "making_word" 1 ["self"] (eT c (.fold .greater t t')):=by
 refine bN T pM (λ_ _ _ _ _ _=>L2.ar1 λ_=>rfl) ?_ ?_
 ·walk_at "i1";obtain ⟨a,rfl,o,q⟩:=h;rfl
 walk_at "i2";obtain ⟨a,rfl,o,q⟩:=h;have nd:=pM.nd;refine ⟨_,(aj (aw aL)),?_⟩;exact q
theorem pT:aA ["self","n","first","second"] ["self","n","first","second"] (ag dM):=L2.fsc rfl
theorem xZ {C:Addr} (T:bh K C "folded" "Greater.folded" dM) (iC:mg "max"=none):bx P w K mg base C "folded" 1 ["self","n","first","second"] (iM .greater):=by
 refine bN T pT (λ_ _ _ _ _ _=>L2.ar4 λ_ _ _ _=>rfl) ?_ ?_
 ·walk_at "i1";obtain ⟨a,n,i,j,rfl,q⟩:=h;rfl
 walk_at "i2";obtain ⟨a,n,i,j,rfl,q⟩:=h;have nd:=pT.nd;refine ⟨_,(aj (aw (aB (lJ rfl) rfl iC (by decide+kernel) (aa (pv 2) (aa (pv 3) af))))),?_⟩;refine ⟨_,rfl,_,rfl,_,_,rfl,?_⟩;rw [vT];exact q
theorem rB:aA ["self"] ["self"] (ag cA):=L2.fsc rfl
theorem zG {c:CCs} {C:Addr} {t t':Tr} (T:bh K C "making_word" "Lesser.making_word" cA):bx P w K mg base C "making_word" 1 ["self"] (eT c (.fold .lesser t t')):=by
 refine bN T rB (λ_ _ _ _ _ _=>L2.ar1 λ_=>rfl) ?_ ?_
 ·walk_at "i1";obtain ⟨a,rfl,o,q⟩:=h;rfl
 walk_at "i2";obtain ⟨a,rfl,o,q⟩:=h;have nd:=rB.nd;refine ⟨_,(aj (aw aL)),?_⟩;exact q
theorem rJ:aA ["self","n","first","second"] ["self","n","first","second"] (ag eA):=L2.fsc rfl
theorem zQ {C:Addr} (T:bh K C "folded" "Lesser.folded" eA) (fv:mg "min"=none):bx P w K mg base C "folded" 1 ["self","n","first","second"] (iM .lesser):=by
 refine bN T rJ (λ_ _ _ _ _ _=>L2.ar4 λ_ _ _ _=>rfl) ?_ ?_
 ·walk_at "i1";obtain ⟨a,n,i,j,rfl,q⟩:=h;rfl
 walk_at "i2";obtain ⟨a,n,i,j,rfl,q⟩:=h;have nd:=rJ.nd;refine ⟨_,(aj (aw (aB (gN rfl) rfl fv (by decide+kernel) (aa (pv 2) (aa (pv 3) af))))),?_⟩;refine ⟨_,rfl,_,rfl,_,_,rfl,?_⟩;rw [oX];exact q
theorem uB:aA ["self"] ["self"] (ag cG):=L2.fsc rfl
theorem CT {c:CCs} {C:Addr} {t t':Tr} (T:bh K C "making_word" "Leads.making_word" cG):bx P w K mg base C "making_word" 1 ["self"] (eT c (.fold .leads t t')):=by
 refine bN T uB (λ_ _ _ _ _ _=>L2.ar1 λ_=>rfl) ?_ ?_
 ·walk_at "i1";obtain ⟨a,rfl,o,q⟩:=h;rfl
 walk_at "i2";obtain ⟨a,rfl,o,q⟩:=h;have nd:=uB.nd;refine ⟨_,(aj (aw aL)),?_⟩;exact q
theorem uJ:aA ["self","n","first","second"] ["self","n","first","second"] (ag eY):=L2.fsc rfl
theorem Dp {C:Addr} (T:bh K C "folded" "Leads.folded" eY) (fv:mg "min"=none):bx P w K mg base C "folded" 1 ["self","n","first","second"] (iM .leads):=by
 refine bN T uJ (λ_ _ _ _ _ _=>L2.ar4 λ_ _ _ _=>rfl) ?_ ?_
 ·walk_at "i1";obtain ⟨a,n,i,j,rfl,q⟩:=h;rfl
 walk_at "i2";obtain ⟨a,n,i,j,rfl,q⟩:=h;have nd:=uJ.nd;refine ⟨_,(aj (aw (aB (gN rfl) rfl fv (by decide+kernel) (aa (aK bJ (aK du (pv 1) (pv 2)) (pv 3)) (aa (pv 1) af))))),?_⟩;refine ⟨_,rfl,_,rfl,_,_,rfl,rfl,_,rfl,_,_,rfl,rfl,_,rfl,_,_,rfl,?_⟩;rw [oX];exact q
theorem Bo:aA ["self"] ["self"] (ag cz):=L2.fsc rfl
theorem qG {c:CCs} {t:Tr} (T:bh K (c.of t) "pieces" "Saying.pieces" cz) (ht:t.pieces=[.w t.word]) (G:bx P w K mg base (c.of t) "making_word" 1 ["self"] (eT c t)):bx P w K mg base (c.of t) "pieces" 2 ["self"] (mY c t):=by
 refine bN T Bo (λ_ _ _ _ _ _=>L2.ar1 λ_=>rfl) ?_ ?_
 ·walk_at "i1";obtain ⟨a,rfl,o,q⟩:=h;rfl
 walk_at "i2";obtain ⟨a,rfl,o,q⟩:=h;have nd:=Bo.nd;refine ⟨_,(aj (aw (bF (aa (gM (k:=1) (pv 0) (hr.mono (by decide))) af)))),?_⟩;obtain ⟨dx,fs,ea,nf⟩:=o.cls;refine ⟨_,rfl,a,_,_,_,_,_,rfl,ea,nf _ (by decide+kernel),G,a,rfl,o,szB,λl hl=>q l _ hl ?_⟩;rw [ht];exact .cons (.w _) .nil
theorem Bp:aA ["self"] ["self"] (ag gD):=L2.fsc rfl
theorem ok_pNot {c:CCs} {t:Tr} (T:bh K c.no "pieces" "Not.pieces" gD) (F:Fx K c):bx P w K mg base c.no "pieces" 2 ["self"] (mY c (.no t)):=by
 refine bN T Bp (λ_ _ _ _ _ _=>L2.ar1 λ_=>rfl) ?_ ?_
 ·walk_at "i1";obtain ⟨a,rfl,o,q⟩:=h;rfl
 walk_at "i2";obtain ⟨a,rfl,o,q⟩:=h;have nd:=Bp.nd;refine ⟨_,(aj (aw (bF (aa aL (aa (ki (pv 0) rfl) af))))),?_⟩;cases o with
 | no e o=>exact ⟨_,rfl,a,_,_,_,_,rfl,e,T.cl,F.nPart,uQ _,szC,λl hl=>q l _ hl (.cons (.w _) (.cons (.t o) .nil))⟩
theorem xr:aA ["self"] ["self"] (ag fV):=L2.fsc rfl
theorem FO {c:CCs} {u:W5} {t t':Tr} (T:bh K (c.fold u) "pieces" "Fold.pieces" fV) (F:Fx K c) (G:bx P w K mg base (c.fold u) "making_word" 1 ["self"] (eT c (.fold u t t'))):bx P w K mg base (c.fold u) "pieces" 2 ["self"] (mY c (.fold u t t')):=by
 refine bN T xr (λ_ _ _ _ _ _=>L2.ar1 λ_=>rfl) ?_ ?_
 ·walk_at "i1";obtain ⟨a,rfl,o,q⟩:=h;rfl
 walk_at "i2";obtain ⟨a,rfl,o,q⟩:=h;have nd:=xr.nd;refine ⟨_,(aj (aw (bF (aa aL (aa (ki (pv 0) rfl) (aa (gM (k:=1) (pv 0) (hr.mono (by decide))) (aa (ki (pv 0) rfl) (aa aL af)))))))),?_⟩;cases o with
 | fold e o o' =>
  refine ⟨_,rfl,a,_,_,_,_,rfl,e,T.cl,F.nOne u,yo _ _,_,rfl,a,_,_,_,_,_,rfl,e,fH (by decide+kernel) (fH (by decide+kernel) rfl),G,a,rfl,.fold e o o',?_⟩;exact ⟨_,rfl,a,_,_,_,_,rfl,e,T.cl,F.nOther u,sG _ _,(by show 5<=sizeLine;decide),λl hl=>q l _ hl (.cons (.w _) (.cons (.t o) (.cons (.w _) (.cons (.t o') (.cons (.w _) .nil)))))⟩
abbrev qh:List Str:=["one","other","greater","lesser","rest"]
theorem iQ:aA qh ["one","other"] (ag gp):=L2.fsc rfl
abbrev Aa:List Str:=["top","bottom","factor"]
theorem pS:aA Aa ["top","bottom"] (ag mG):=L2.fsc rfl
abbrev n_less:List Str:=["one","other"]
theorem Bs:aA n_less ["one","other"] (ag zx):=L2.fsc rfl
abbrev vR:List Str:=["x"]
theorem lW:aA vR ["x"] (ag jm):=L2.fsc rfl
abbrev nM:List Str:=["stretch","x"]
theorem gS:aA nM ["stretch","x"] (ag eV):=L2.fsc rfl
abbrev Gj:List Str:=["stretches","line","stretch"]
theorem uG:aA Gj ["stretches"] (ag rS):=L2.fsc rfl
abbrev tV:List Str:=["rows","places","letter","steeper","k"]
theorem jL:aA tV ["rows","places","letter"] (ag iF):=L2.fsc rfl
abbrev yi:List Str:=["height"]
theorem nz:aA yi ["height"] (ag jY):=L2.fsc rfl
abbrev jF:List Str:=["slope","height","rows","lowest","letter","places"]
theorem iO:aA jF ["slope","height"] (ag bV):=L2.fsc rfl
abbrev Gk:List Str:=["stretch","start"]
theorem uH:aA Gk ["stretch","start"] (ag rT):=L2.fsc rfl
abbrev yd:List Str:=["line","start","k","stretch"]
theorem gz:aA yd ["line"] (ag ir):=L2.fsc rfl
abbrev oS:List Str:=["line","k","stretch"]
theorem dB:aA oS ["line"] (ag dI):=L2.fsc rfl
abbrev BJ:List Str:=["row","by"]
theorem xt:aA BJ ["row","by"] (ag jl):=L2.fsc rfl
abbrev jG:List Str:=["rows","line","place_of","stretch","rule","by"]
theorem iP:aA jG ["rows","line"] (ag bW):=L2.fsc rfl
abbrev vQ:List Str:=["rows","word","places","folded","place"]
theorem lV:aA vQ ["rows","word","places"] (ag jk):=L2.fsc rfl
abbrev tY:List Str:=["rule","stretch","x"]
theorem jN:aA tY ["rule","stretch","x"] (ag iH):=L2.fsc rfl
abbrev zZ:List Str:=["rule","stretch","start"]
theorem pR:aA zZ ["rule","stretch","start"] (ag mF):=L2.fsc rfl
abbrev sx:List Str:=["line","rows","place_of","lessers","start","stretch","places"]
theorem ez:aA sx ["line"] (ag cJ):=L2.fsc rfl
abbrev zV:List Str:=["slope","height"]
theorem pN:aA zV ["slope","height"] (ag mz):=L2.fsc rfl
abbrev so:List Str:=["one","other","pieces","i","j","end"]
theorem jA:aA so ["one","other"] (ag gT):=L2.fsc rfl
abbrev n_added:List Str:=["one","other","pieces"]
theorem xG:aA n_added ["one","other"] (ag nC):=L2.fsc rfl
abbrev Gh:List Str:=["line"]
theorem uC:aA Gh ["line"] (ag jP):=L2.fsc rfl
abbrev Gi:List Str:=["line","by"]
theorem uF:aA Gi ["line","by"] (ag jQ):=L2.fsc rfl
abbrev gy:List Str:=["start","end","first","second","slope","height","at_start","at_end","greater_at_start","greater_at_end","meeting"]
theorem fY:aA gy ["start","end","first","second"] (ag bY):=L2.fsc rfl
abbrev sC:List Str:=["one","other","stretches","start","end","first","second"]
theorem jD:aA sC ["one","other"] (ag gY):=L2.fsc rfl
abbrev tX:List Str:=["one","other"]
theorem jM:aA tX ["one","other"] (ag iG):=L2.fsc rfl
abbrev Dv:List Str:=["line"]
theorem rK:aA Dv ["line"] (ag oN):=L2.fsc rfl
abbrev zY:List Str:=["thing"]
theorem pQ:aA zY ["thing"] (ag mE):=L2.fsc rfl
abbrev ye:List Str:=["word"]
theorem nj:aA ye ["word"] (ag jR):=L2.fsc rfl
abbrev yh:List Str:=["word","one","other"]
theorem ny:aA yh ["word","one","other"] (ag jX):=L2.fsc rfl
abbrev zW:List Str:=["row","lines"]
theorem pO:aA zW ["row","lines"] (ag mB):=L2.fsc rfl
abbrev yf:List Str:=["rows","lines","row"]
theorem nk:aA yf ["rows"] (ag jT):=L2.fsc rfl
abbrev lK:List Str:=["rows"]
theorem fX:aA lK ["rows"] (ag dQ):=L2.fsc rfl
abbrev Ds:List Str:=["saying","rows"]
theorem rE:aA Ds ["saying"] (ag oG):=L2.fsc rfl
abbrev sy:List Str:=["rows"]
theorem jB:aA sy ["rows"] (ag gW):=L2.fsc rfl
abbrev Dt:List Str:=["_law_found"]
theorem rF:aA Dt ["_law_found"] (ag oJ):=L2.fsc rfl
abbrev ju:List Str:=["_law_thing","_law_at","_law_words"]
theorem xx:aA ju ["_law_thing","_law_at"] (ag cT):=L2.fsc rfl
abbrev Du:List Str:=["_law_things","_law_at"]
theorem rG:aA Du ["_law_things"] (ag oK):=L2.fsc rfl
abbrev zX:List Str:=["_law_line","_law_n","_law_x","_law_end","_law_slope","_law_height_here"]
theorem pP:aA zX ["_law_line","_law_n","_law_x"] (ag mD):=L2.fsc rfl
abbrev fj:List Str:=["_law_rows","_law_line","_law_n","_law_x"]
theorem jC:aA fj ["_law_rows","_law_line"] (ag ck):=L2.fsc rfl
abbrev oU:List Str:=["_law_tree_here","_law_n","_law_x","_law_one"]
theorem eU:aA oU ["_law_tree_here","_law_n","_law_x"] (ag dJ):=L2.fsc rfl
abbrev yg:List Str:=["_law_line","_law_word","e"]
theorem nu:aA yg ["_law_line"] (ag jV):=L2.fsc rfl
local macro_rules | `(tactic| walk_at "mul") => `(tactic| first | exact fF (by assumption) (by assumption) | exact fF (by first | assumption | exact bc (by omega) | exact bc (by decide) | exact sm_mod (by decide) (by decide)) (by first | assumption | exact bc (by omega) | exact bc (by decide) | exact sm_mod (by decide) (by decide)))
local macro_rules | `(tactic| walk_at "rd1") => `(tactic| first
 | refine ⟨_,rfl,?_⟩
 | refine ⟨_,_,rfl,rfl,?_⟩
 | (refine ⟨_,_,rfl,rfl,?m,?_⟩;(case' m=>walk_at "mul"))
 | (refine ⟨_,_,rfl,rfl,?m,?_⟩;(case' m=>exact cY (by first | assumption | omega) (by assumption)))
 | (refine ⟨_,_,rfl,rfl,?m,?_⟩;(case' m=>show (0:Int) < _;decide))
 | (refine ⟨_,_,rfl,rfl,?m,?_⟩;(case' m=>exact ⟨by decide,by decide⟩))
 | (refine ⟨_,_,rfl,rfl,?m,?_⟩;(case' m=>exact ⟨by decide,by decide,by decide⟩))
 | (refine' ⟨_,_,_,_,rfl,rfl,?sq,?ia,?k⟩;(case' sq=>first | assumption | exact Scr.l (by assumption));(case' ia=>rfl))
 | refine ⟨rfl,?_⟩
 | (refine ⟨?m,?_⟩;(case' m=>walk_at "mul"))
 | (refine ⟨?m,?_⟩;(case' m=>show (0:Int) < _;decide))
 | (refine ⟨?m,?_⟩;(case' m=>exact ⟨by decide,by decide⟩))
 | (refine ⟨?m,?_⟩;(case' m=>exact ⟨by decide,by decide,by decide⟩)))
local macro_rules | `(tactic| walk_at "rd") => `(tactic| repeat walk_at "rd1")
def xg:Sp:=λvs H Q _=>∃ a b:Int,vs=[.int a,.int b]/\Q (.int (Lo.gc a b)) H
def ED:Sp:=λvs H Q _=>∃ t b:Int,vs=[.int t,.int b]/\b≠0/\Sm b/\∀ a H',aE H H'->H' a=some (.tup [.int (Lo.dw t b),.int (Lo.di t b)])->Q (.ref a) H'
def zo (K:W.Frag):Sp:=λvs H Q _=>∃(x y:V) (p q r s:Int),vs=[x,y]/\Dat K H (frD p q) x/\Dat K H (frD r s) y/\Sm p/\Sm q/\Sm r/\Sm s/\Q (.bl (decide (p*s < r*q))) H
theorem Dn (T:au K mg "common_factor" gp) (iD:mg "abs"=none):Def P w K mg base 1 "common_factor" ["one","other"] xg:=by
 refine aO T iQ (λ_ _ _ _ _ _=>L2.ar2 λ_ _=>rfl) ?_ ?_
 ·walk_at "i1";obtain ⟨a,b,rfl,_⟩:=h;rfl
 walk_at "i2";obtain ⟨a,b,rfl,q⟩:=h;have nd:=iQ.nd
 refine ⟨_,(ai (aJ (i:=2) nd rfl (Or.inl rfl) (aB je rfl iD (by decide+kernel) (aa (pv 0) af)))
  (ai (aJ (i:=3) nd rfl (Or.inl rfl) (aB je rfl iD (by decide+kernel) (aa (pv 1) af)))
  (ai (kg PassesOwn.never (aC BE (pv 3) ak (aH _)) (ai (aJ (i:=4) nd rfl (Or.inl rfl) (aK vL (pv 2) (pv 3)))
  (ai (aJ (i:=2) nd rfl (Or.inl rfl) (pv 3))
  (aj (aJ (i:=3) nd rfl (Or.inl rfl) (pv 4))))))
  (aj (aw (pv 2)))))),?_⟩
 refine ⟨_,rfl,_,rfl,_,rfl,_,rfl,?_⟩;rw [wy,wy];refine ⟨λm σ H'=>H'=H/\∃(g l:Int) (o:Option V),σ=[some (.int a),some (.int b),some (.int g),some (.int l),o]/\0<=g/\0<=l/\l.toNat=m/\Lo.gc g l=Lo.gc a b,⟨_,rfl,_,_,_,rfl,by omega,by omega,rfl,Lo.DF a b⟩,?_⟩;rintro m σ H' ⟨rfl,g,l,o,rfl,hg,hl,rfl,e⟩
 refine ⟨_,rfl,rfl,_,rfl,?_⟩;refine cQ (λc=>?_) (λc=>?_)
 ·have c':l≠0:=λz=>by
   rw [z,decide_eq_true (rfl:V.int 0=V.int 0)] at c;cases c
  have c2:0 < l:=by omega
  refine ⟨λσ' H''=>H''=H'/\σ'=[some (.int a),some (.int b),some (.int l),some (.int (g.fmod l)),some (.int (g.fmod l))],?_,?_⟩
  ·rintro σ' H'' ⟨rfl,rfl⟩
   have z0:=Int.fmod_nonneg_of_pos g c2;have z1:=Int.fmod_lt_of_pos g c2;exact ⟨_,(show (g.fmod l).toNat < l.toNat by omega),rfl,l,g.fmod l,_,rfl,by omega,z0,rfl,by rw [Lo.gc_turn];exact e⟩
  ·exact ⟨_,rfl,_,rfl,_,_,rfl,rfl,c',_,rfl,_,rfl,rfl,rfl⟩
 ·have l0:l=0:=by
   by_cases z:l=0
   ·exact z
   ·exfalso;refine c ?_;have n:¬ (V.int l=V.int 0):=λq=>z (V.int.inj q);rw [decide_eq_false n];rfl
  subst l0;rw [Lo.gc_zero hg] at e;subst e;exact ⟨_,rfl,q⟩
theorem xV (T:au K mg "fraction" mG) (qq:Def P w K mg base 1 "common_factor" ["one","other"] xg):Def P w K mg base 2 "fraction" ["top","bottom"] ED:=by
 refine aO T pS (λ_ _ _ _ _ _=>L2.ar2 λ_ _=>rfl) ?_ ?_
 ·walk_at "i1";obtain ⟨t,b,rfl,_⟩:=h;rfl
 walk_at "i2";obtain ⟨t,b,rfl,hb,hs,q⟩:=h;have nd:=pS.nd
 refine ⟨_,(ai (aY (aC bQ (pv 1) ak (aH _)) (aj nI) aI)
  (ai (aJ (i:=2) nd rfl (Or.inl rfl) (aD qq (hr.mono (by decide)) rfl (aa (pv 0) (aa (pv 1) af))))
  (ai (aY (aC jE (pv 1) ak (aH _)) (aj (aJ (i:=2) nd rfl (Or.inl rfl) (fi cS (pv 2)))) aI)
  (aj (aw (bE (aa (aK xP (pv 0) (pv 2)) (aa (aK xP (pv 1) (pv 2)) af)))))))),?_⟩
 refine ⟨_,rfl,rfl,_,rfl,?_⟩;refine cQ (λc=>absurd (V.int.inj (of_decide_eq_true c)) hb) (λc=>?_);have hg2:Sm (Lo.sg t b):=Nat.lt_of_le_of_lt (Lo.sg_le hb) hs;refine ⟨_,rfl,_,rfl,t,b,rfl,?_⟩;refine ⟨_,rfl,_,_,rfl,rfl,_,rfl,?_⟩;refine cQ (λc=>?_) (λc=>?_)
 ·have c2:b < 0:=of_decide_eq_true c;have es:-(Lo.gc t b)=Lo.sg t b:=by unfold Lo.sg;rw [if_pos c2]
  refine ⟨_,rfl,_,rfl,_,rfl,_,rfl,_,_,rfl,rfl,(by rw [es];exact cY (Lo.nh hb) hg2),_,rfl,_,rfl,_,_,rfl,rfl,(by rw [es];exact cY (Lo.nh hb) hg2),szC,λp hp=>?_⟩;rw [es];exact q p _ (ao hp _) ae
 ·have c2:¬b < 0:=λz=>c (decide_eq_true z);have es:Lo.gc t b=Lo.sg t b:=by unfold Lo.sg;rw [if_neg c2]
  refine ⟨_,rfl,_,rfl,_,_,rfl,rfl,(by rw [es];exact cY (Lo.nh hb) hg2),_,rfl,_,rfl,_,_,rfl,rfl,(by rw [es];exact cY (Lo.nh hb) hg2),szC,λp hp=>?_⟩;rw [es];exact q p _ (ao hp _) ae
theorem ok_less (T:au K mg "less" zx):Def P w K mg base 1 "less" ["one","other"] (zo K):=by
 refine aO T Bs (λ_ _ _ _ _ _=>L2.ar2 λ_ _=>rfl) ?_ ?_
 ·walk_at "i1";obtain ⟨x,y,p,q,r,s,rfl,_⟩:=h;rfl
 walk_at "i2";obtain ⟨x,y,p,q,r,s,rfl,hx,hy,b1,b2,b3,b4,k⟩:=h;obtain ⟨a,rfl,sa⟩:=nS hx;obtain ⟨c,rfl,sc⟩:=nS hy;have nd:=Bs.nd;refine ⟨_,(aj (aw (jt jE (aK bM (aF aG (pv 0) ak (λ_ _=>rfl)) (aF aG (pv 1) ak (λ_ _=>rfl))) (aK bM (aF aG (pv 1) ak (λ_ _=>rfl)) (aF aG (pv 0) ak (λ_ _=>rfl))) (aH _)))),?_⟩
 walk_at "rd"
 exact k
local macro_rules | `(tactic| walk_at "rd1") => `(tactic| first
 | refine ⟨_,rfl,?_⟩
 | refine ⟨_,_,rfl,rfl,?_⟩
 | (refine ⟨_,_,rfl,rfl,?m,?_⟩;(case' m=>walk_at "mul"))
 | (refine ⟨_,_,rfl,rfl,?m,?_⟩;(case' m=>exact cY (by first | assumption | omega) (by assumption)))
 | (refine ⟨_,_,rfl,rfl,?m,?_⟩;(case' m=>show (0:Int) < _;decide))
 | (refine ⟨_,_,rfl,rfl,?m,?_⟩;(case' m=>exact ⟨by decide,by decide⟩))
 | (refine ⟨_,_,rfl,rfl,?m,?_⟩;(case' m=>exact ⟨by decide,by decide,by decide⟩))
 | (refine' ⟨_,_,_,_,rfl,rfl,?sq,?ia,?k⟩;(case' sq=>first | assumption | exact Scr.l (by assumption));(case' ia=>first | rfl | assumption))
 | refine ⟨rfl,?_⟩
 | (refine ⟨?m,?_⟩;(case' m=>walk_at "mul"))
 | (refine ⟨?m,?_⟩;(case' m=>exact cY (by first | assumption | omega) (by assumption)))
 | (refine ⟨?m,?_⟩;(case' m=>show (0:Int) < _;decide))
 | (refine ⟨?m,?_⟩;(case' m=>exact ⟨by decide,by decide⟩))
 | (refine ⟨?m,?_⟩;(case' m=>exact ⟨by decide,by decide,by decide⟩)))
theorem Et {s:St4} (h:Ln.OkB 45 s):Sm s.p/\Sm s.q/\Sm s.m/\Sm s.h/\0 < s.q:=by
 obtain ⟨h1,h2,h3,h4,h5,h6⟩:=h;exact ⟨bc (by omega),bc (by omega),bc (by omega),bc (by omega),by omega⟩
def LnL (K:W.Frag) (H:Hp) (M:List St4) (v:V):Prop:=∃ l us,v=.ref l/\SqL K H l us/\DatAll K H (M.map stD) us
def rg (K:W.Frag):Sp:=λvs H Q _=>∃(x:V) (M:List St4),vs=[x]/\LnL K H M x/\M.length<=9000/\∀ v H',aE H H'->Dat K H' (lnD (Ln.jn M)) v->Q v H'
theorem at_last {xs:List V} {x:V} (h:xs.getLast?=some x):atI xs (-1)=some x:=by
 rw [List.getLast?_eq_getElem?] at h;have hl:=(List.getElem?_eq_some_iff.mp h).1
 have e:ixN xs.length (-1)=some (xs.length - 1):=by
  unfold ixN;rw [if_neg (by decide),if_pos (by omega)];congr 1;omega
 show (ixN xs.length (-1)).bind (λj=>xs[j]?)=some x;rw [e];exact h
theorem lH (e m h:V):¬ (HT.sIx ([e,m,h]:List V).length 0 (some 1)=0/\HT.sIx ([e,m,h]:List V).length ([e,m,h]:List V).length none=([e,m,h]:List V).length):=by
 rintro ⟨z,_⟩
 exact absurd (show (1:Nat)=0 from z) (by decide)
theorem GI:∀(M:List St4) (A:List St4),(M.foldl Ln.cD A).length<=A.length+M.length
 | [],A=>by simp
 | s::r,A=>by
  have h:=GI r (Ln.cD A s)
  have h2:(Ln.cD A s).length<=A.length+1:=by
   unfold Ln.cD;split
   ·split
    ·simp <;> omega
    ·simp
   ·simp
  simp only [List.foldl_cons,List.length_cons];omega
theorem DatAll.take {K:W.Frag} {H:Hp}:∀{ds:List PyData} {xs:List V} (n:Nat),DatAll K H ds xs->DatAll K H (ds.take n) (xs.take n)
 | _,_,0,_=>rfl
 | [],_,_+1,h=>by cases (show _=([]:List V) from h);rfl
 | _::_,_,n+1,⟨x,r,h1,h2,h3⟩=>by subst h1;exact ⟨x,_,rfl,h2,DatAll.take n h3⟩
theorem Dk (T:au K mg "joined" rS) (bO:mg "tuple"=none):Def P w K mg base 1 "joined" ["stretches"] (rg K):=by
 refine aO T uG (λ_ _ _ _ _ _=>L2.ar1 λ_=>rfl) ?_ ?_
 ·walk_at "i1";obtain ⟨x,M,rfl,_⟩:=h;rfl
 walk_at "i2";obtain ⟨x,M,rfl,⟨l,us,rfl,sl,da⟩,few,k⟩:=h;have nd:=uG.nd;have hu:=hr.units;have lus:=dU da
 refine ⟨_,(ai (aJ (i:=1) nd rfl (Or.inl rfl) (bF af))
  (ai (cK PassesOwn.never rfl (fg (pv 0)) (aP (i:=2) nd rfl (Or.inl rfl)) (ai (aY (PW.pt (vF (aC (op_neD hu) (pv 1) (bF af) (aH _)) (qz (aC (vM hu) (dh mn (aF bo (pv 1) (fi cS ak) (λ_ _=>rfl)) (eC ak) eE) (dh mn (pv 2) (eC ak) eE) (aH _))))) (aj (bg (mH PySem.F.plainAttrs_list PySem.F.slot_list_pop PySem.F.type_list_pop sE (pv 1)))) aI)
  (aj (bg (eO PySem.F.plainAttrs_list PySem.F.slot_list_append PySem.F.type_list_append bw (pv 1) (aa (pv 2) af))))))
  (aj (aw (iU eo rfl bO (by decide+kernel) (aa (pv 1) af)))))),?_⟩
 refine ⟨szA,λb hb=>?_⟩;have u0:=ao hb (.lst []);refine ⟨_,rfl,l,rfl,⟨us,u0.seq sl⟩,?_⟩;refine gh (xs:=us) (λi σ H'=>aE H H'/\∃ xs o2,σ=[some (.ref l),some (.ref b),o2]/\H' b=some (.lst xs)/\DatAll K H' ((Ln.jn (M.take i)).map stD) xs) ⟨u0,[],_,rfl,ae,rfl⟩ (λi σ H' _ h=>h.1.seq sl) (λi x σ H' hx h=>?_) (λσ H' h=>?_)
 ·obtain ⟨sm,xs,o2,rfl,hbx,dx⟩:=h;obtain ⟨st,hst,dst⟩:=hV (da.ts sm.ts) hx;have hi:=(List.getElem?_eq_some_iff.mp hst).1
  have tk:Ln.jn (M.take (i+1))=Ln.cD (Ln.jn (M.take i)) st:=by
   rw [List.take_add_one,hst];exact Ln.jn_snoc _ _
  have lx:xs.length<=9000:=by
   rw [dU dx];have:=GI (M.take i) [];rw [List.length_take] at this;show (Ln.jn (M.take i)).length<=9000;unfold Ln.jn;simp at this;omega
  rw [tk];refine ⟨_,rfl,szA,λe he=>?_⟩;have u1:=ao he (.lst []);refine ⟨_,_,.inr ⟨(Ln.jn (M.take i)).map stD,b,xs,rfl,rfl,SqL.of (u1 _ _ hbx),dx.ts u1.ts⟩,.inr ⟨[],e,[],rfl,rfl,SqL.of ae,rfl⟩,Ag _,by decide,_,rfl,?_⟩
  have eqn:PyData.eqv (.list ((Ln.jn (M.take i)).map stD)) (.list [])=decide (Ln.jn (M.take i)=[]):=by
   simp only [PyData.eqv];exact qO Ex _ []
  rw [eqn]
  have app:∀(ys:List V) (B:List St4) (H2:Hp),aE H H2->Tst H' H2->H2 b=some (.lst ys)->ys.length<=9000->DatAll K H2 (B.map stD) ys->B++[st]=Ln.cD (Ln.jn (M.take i)) st->
    (aE H (upd H2 b (.lst (ys++[x])))/\∃ xs o2,[some (V.ref l),some (V.ref b),some x]=[some (.ref l),some (.ref b),o2]/\upd H2 b (.lst (ys++[x])) b=some (.lst xs)/\DatAll K (upd H2 b (.lst (ys++[x]))) ((Ln.cD (Ln.jn (M.take i)) st).map stD) xs):=by
   intro ys B H2 s2 tH hy hl2 dy eB;refine ⟨bp s2 hb _,ys++[x],_,rfl,ae,?_⟩;rw [<- eB,List.map_append];have t2:Tst H2 (upd H2 b (.lst (ys++[x]))):=gO hy;exact (dy.ts t2).snoc (dst.ts (tH.trans t2))
  by_cases hA:Ln.jn (M.take i)=[]
  ·rw [decide_eq_true hA];refine cX (cX ?_);have hb1:=u1 _ _ hbx;refine ⟨_,rfl,.inl ⟨rfl,_,SqL.of hb1⟩,_,rfl,b,xs,_,rfl,rfl,hb1,dk lx,?_⟩;refine app xs (Ln.jn (M.take i)) _ (sm.trans u1) u1.ts hb1 lx (dx.ts u1.ts) ?_;rw [Ln.Ah (λt ht=>by rw [hA] at ht;cases ht)]
  ·rw [decide_eq_false hA];refine fm ?_;have hb1:=u1 _ _ hbx
   have hlast:∃ t,(Ln.jn (M.take i)).getLast?=some t:=by
    cases z:(Ln.jn (M.take i)).getLast? with
    | none=>exact absurd (List.getLast?_eq_none_iff.mp z) hA
    | some t=>exact ⟨t,rfl⟩
   obtain ⟨t,ht⟩:=hlast;obtain ⟨lp,ht'⟩:=Ln.BS ht;obtain ⟨y,hy,dy⟩:=GA dx ht';have hy2:xs.getLast?=some y:=by rw [List.getLast?_eq_getElem?,dU dx];exact hy
   obtain ⟨c1,f1,rfl,q1,_⟩:=dA (dy.ts u1.ts);obtain ⟨c2,f2,rfl,q2,_⟩:=dA (dst.ts u1.ts);refine ⟨_,rfl,_,rfl,_,_,_,_,rfl,rfl,SqL.of hb1,at_last hy2,_,rfl,c1,_,rfl,q1,lH _ _ _,λp3 h3=>?_⟩;have u3:=ao h3 (.tup (jd [f1,.int t.m,.int t.h] (some 1) none));refine ⟨_,rfl,_,rfl,c2,_,rfl,q2.ts u3.ts,lH _ _ _,λp4 h4=>?_⟩;have u4:=ao h4 (.tup (jd [f2,.int st.m,.int st.h] (some 1) none));refine ⟨_,_,.inl (kz (p:=t.m) (q:=t.h) (SqT.of (u4 _ _ ae))),.inl (kz (p:=st.m) (q:=st.h) (SqT.of ae)),bR _ _,bR _ _,_,rfl,?_⟩;rw [kA];have ua:=u1.trans (u3.trans u4);have hb4:=ua _ _ hbx
   have stepE:Ln.cD (Ln.jn (M.take i)) st=if t.m=st.m/\t.h=st.h then (Ln.jn (M.take i)).dropLast++[st] else Ln.jn (M.take i)++[st]:=by
    show (match (Ln.jn (M.take i)).getLast? with | some t=>if t.m=st.m/\t.h=st.h then (Ln.jn (M.take i)).dropLast++[st] else Ln.jn (M.take i)++[st] | none=>_)=_
    rw [ht]
   by_cases same:t.m=st.m/\t.h=st.h
   ·rw [decide_eq_true same];refine fm ?_;have lpx:0 < xs.length:=by rw [dU dx];exact lp
    refine ⟨_,rfl,.inl ⟨rfl,_,SqL.of hb4⟩,b,xs,_,rfl,rfl,hb4,List.getElem?_eq_getElem (by omega),?_⟩;have t5:Tst (upd (upd (upd H' e (.lst [])) p3 (.tup (jd [f1,.int t.m,.int t.h] (some 1) none))) p4 (.tup (jd [f2,.int st.m,.int st.h] (some 1) none))) (upd (upd (upd (upd H' e (.lst [])) p3 (.tup (jd [f1,.int t.m,.int t.h] (some 1) none))) p4 (.tup (jd [f2,.int st.m,.int st.h] (some 1) none))) b (.lst xs.dropLast)):=gO hb4;refine ⟨_,rfl,.inl ⟨rfl,_,SqL.of ae⟩,_,rfl,b,xs.dropLast,_,rfl,rfl,ae,dk (by rw [List.length_dropLast];omega),?_⟩;refine app xs.dropLast (Ln.jn (M.take i)).dropLast _ (bp (sm.trans ua) hb _) (ua.ts.trans t5) ae (by rw [List.length_dropLast];omega) ?_ (by rw [stepE,if_pos same]);have dd:=Mine.DatAll.take (xs.length - 1) ((dx.ts ua.ts).ts t5);have e1:((Ln.jn (M.take i)).map stD).take (xs.length - 1)=((Ln.jn (M.take i)).dropLast).map stD:=by rw [List.dropLast_eq_take,List.map_take,dU dx]
    rw [e1,<- List.dropLast_eq_take] at dd;exact dd
   ·rw [decide_eq_false same];refine cX ?_;refine ⟨_,rfl,.inl ⟨rfl,_,SqL.of hb4⟩,_,rfl,b,xs,_,rfl,rfl,hb4,dk lx,?_⟩;exact app xs (Ln.jn (M.take i)) _ (sm.trans ua) ua.ts hb4 lx (dx.ts ua.ts) (by rw [stepE,if_neg same])
 ·obtain ⟨sm,xs,o2,rfl,hbx,dx⟩:=h;refine ⟨_,rfl,b,xs,rfl,.inl ⟨SqL.of hbx,λt ht=>?_⟩⟩;have u1:=ao ht (.tup xs);rw [lus,List.take_length] at dx;exact k _ _ (sm.trans u1) ⟨t,xs,rfl,SqT.of ae,dx.ts u1.ts⟩
def pcD (c:Ln.Pc):PyData:=.tuple [frD c.p c.q,stD c.a,stD c.b]
theorem Fy {K:W.Frag} {H:Hp} {a:Addr} {e f g:V} {c:Ln.Pc} (q:SqT K H a [e,f,g]) (h1:Dat K H (frD c.p c.q) e) (h2:Dat K H (stD c.a) f) (h3:Dat K H (stD c.b) g):Dat K H (pcD c) (.ref a):=⟨a,_,rfl,q,_,_,rfl,h1,_,_,rfl,h2,_,_,rfl,h3,rfl⟩
theorem pc_el {K:W.Frag} {H:Hp} {v:V} {c:Ln.Pc} (g:Dat K H (pcD c) v):∃ a e f g,v=.ref a/\SqT K H a [e,f,g]/\Dat K H (frD c.p c.q) e/\Dat K H (stD c.a) f/\Dat K H (stD c.b) g:=by
 obtain ⟨a,xs,rfl,g,x,r,rfl,hx,y,t,rfl,hy,z,u,rfl,hz,hu⟩:=g;cases (show u=[] from hu)
 exact ⟨a,x,y,z,rfl,g,hx,hy,hz⟩
def Ez (K:W.Frag):Sp:=λvs H Q _=>∃(x y:V) (A B:List St4),vs=[x,y]/\Dat K H (lnD A) x/\Ln.bU A/\Dat K H (lnD B) y/\Ln.bU B/\
 ∀(l:Addr) (us:List V) (H':Hp),aE H H'->H l=none->H' l=some (.lst us)->DatAll K H' ((Ln.sbs A B).map pcD) us->Q (.ref l) H'
theorem qd (T:au K mg "side_by_side" gT) (aU:mg "len"=none) (wH:Def P w K mg base 1 "less" ["one","other"] (zo K)):Def P w K mg base 2 "side_by_side" ["one","other"] (Ez K):=by
 refine aO T jA (λ_ _ _ _ _ _=>L2.ar2 λ_ _=>rfl) ?_ ?_
 ·walk_at "i1";obtain ⟨x,y,A,B,rfl,_⟩:=h;rfl
 walk_at "i2";obtain ⟨x,y,A,B,rfl,hx,la,hy,lb,k⟩:=h;obtain ⟨a,xs,rfl,sa,da⟩:=jH hx;obtain ⟨b,ys,rfl,sb,db⟩:=jH hy;have nd:=jA.nd;have hu:=hr.units;have lx:=dU da;have ly:=dU db;have fa:=la.few;have fb:=lb.few;have slen:=Ln.kU A B
 refine ⟨_,(ai (aJ (i:=2) nd rfl (Or.inl rfl) (bF af))
  (ai (aJ (i:=3) nd rfl (Or.inl rfl) ak)
  (ai (aJ (i:=4) nd rfl (Or.inl rfl) ak)
  (ai (kg PassesOwn.never (PW.pt (vF (aC jE (pv 3) (aB aS rfl aU (by decide+kernel) (aa (pv 0) af)) (aH _)) (qz (aC jE (pv 4) (aB aS rfl aU (by decide+kernel) (aa (pv 1) af)) (aH _))))) (ai (aJ (i:=5) nd rfl (Or.inl rfl) (iS (gq (aD wH (hr.mono (by decide)) rfl (aa (aF aG (aF aG (pv 0) (pv 3) (λ_ _=>rfl)) ak (λ_ _=>rfl)) (aa (aF aG (aF aG (pv 1) (pv 4) (λ_ _=>rfl)) ak (λ_ _=>rfl)) af)))) (aF aG (aF aG (pv 0) (pv 3) (λ_ _=>rfl)) ak (λ_ _=>rfl)) (aF aG (aF aG (pv 1) (pv 4) (λ_ _=>rfl)) ak (λ_ _=>rfl))))
  (ai (bg (eO PySem.F.plainAttrs_list PySem.F.slot_list_append PySem.F.type_list_append bw (pv 2) (aa (bE (aa (pv 5) (aa (aF aG (pv 0) (pv 3) (λ_ _=>rfl)) (aa (aF aG (pv 1) (pv 4) (λ_ _=>rfl)) af)))) af)))
  (ai (aY (aC (vM hu) (aF aG (aF aG (pv 0) (pv 3) (λ_ _=>rfl)) ak (λ_ _=>rfl)) (pv 5) (aH _)) (aj (Fn (i:=3) nd rfl (Or.inl rfl) ak GK)) aI)
  (aj (aY (aC (vM hu) (aF aG (aF aG (pv 1) (pv 4) (λ_ _=>rfl)) ak (λ_ _=>rfl)) (pv 5) (aH _)) (aj (Fn (i:=4) nd rfl (Or.inl rfl) ak GK)) aI))))))
  (aj (aw (pv 2))))))),?_⟩
 refine ⟨szA,λl hb=>?_⟩;have u0:=ao hb (.lst [])
 refine ⟨λm σ H'=>aE H H'/\∃(i j:Nat) (o5:Option V) (zs:List V) (dn:List Ln.Pc),σ=[some (.ref a),some (.ref b),some (.ref l),some (.int i),some (.int j),o5]/\H' l=some (.lst zs)/\DatAll K H' (dn.map pcD) zs/\dn++Ln.sbs (A.drop i) (B.drop j)=Ln.sbs A B/\i<=A.length/\j<=B.length/\m=(A.length - i)+(B.length - j),
  ⟨_,u0,0,0,_,[],[],rfl,ae,rfl,rfl,Nat.zero_le _,Nat.zero_le _,rfl⟩,?_⟩
 rintro m σ H' ⟨sm,i,j,o5,zs,dn,rfl,hl,dz,al,hi,hj,rfl⟩
 have sa2:=sa.ts sm.ts;have sb2:=sb.ts sm.ts
 have lz:zs.length<=9000:=by
  have z1:zs.length=dn.length:=by rw [dz.len,List.length_map]
  have z2:=congrArg List.length al;rw [List.length_append] at z2;omega
 have fin:(A.length<=i\/B.length<=j)->Q (.ref l) H':=λz=>by
  rw [Ln.EN z,List.append_nil] at al;rw [al] at dz;exact k l zs H' sm hb hl dz
 refine ⟨_,rfl,_,rfl,_,_,rfl,.inr ⟨_,sa2,rfl⟩,_,_,rfl,rfl,_,rfl,?_⟩
 by_cases ci:i < A.length
 case neg =>
  rw [decide_eq_false (show ¬ ((i:Int) < ((xs.length:Nat):Int)) by omega)];refine cX (cX ?_);exact ⟨_,rfl,fin (.inl (by omega))⟩
 rw [decide_eq_true (show ((i:Int) < ((xs.length:Nat):Int)) by omega)];refine fm ?_;refine ⟨_,rfl,_,rfl,_,_,rfl,.inr ⟨_,sb2,rfl⟩,_,_,rfl,rfl,_,rfl,?_⟩
 by_cases cj:j < B.length
 case neg =>
  rw [decide_eq_false (show ¬ ((j:Int) < ((ys.length:Nat):Int)) by omega)];refine cX ?_;exact ⟨_,rfl,fin (.inr (by omega))⟩
 rw [decide_eq_true (show ((j:Int) < ((ys.length:Nat):Int)) by omega)];refine fm ?_;have hs1:A[i]?=some A[i]:=List.getElem?_eq_getElem ci;have hs2:B[j]?=some B[j]:=List.getElem?_eq_getElem cj;obtain ⟨v1,hv1,dv1⟩:=GA (da.ts sm.ts) hs1;obtain ⟨v2,hv2,dv2⟩:=GA (db.ts sm.ts) hs2;obtain ⟨c1,e1,rfl,q1,d1⟩:=dA dv1;obtain ⟨c2,e2,rfl,q2,d2⟩:=dA dv2;obtain ⟨f1,rfl,r1⟩:=nS d1;obtain ⟨f2,rfl,r2⟩:=nS d2;obtain ⟨m1,m2,m3,m4,m5⟩:=Et (la.at hs1);obtain ⟨n1,n2,n3,n4,n5⟩:=Et (lb.at hs2);have at1:atI xs (i:Int)=some (.ref c1):=cZ hv1;have at2:atI ys (j:Int)=some (.ref c2):=cZ hv2;have stp:=Ln.EO hs1 hs2;refine ⟨λσ' H''=>aE H H''/\∃(i2 j2:Nat) (o5:Option V) (zs:List V) (dn:List Ln.Pc),σ'=[some (.ref a),some (.ref b),some (.ref l),some (.int i2),some (.int j2),o5]/\H'' l=some (.lst zs)/\DatAll K H'' (dn.map pcD) zs/\dn++Ln.sbs (A.drop i2) (B.drop j2)=Ln.sbs A B/\i2<=A.length/\j2<=B.length/\(A.length - i2)+(B.length - j2) < (A.length - i)+(B.length - j),?_,?_⟩
 ·rintro σ' H'' ⟨h1,i2,j2,o,zs,dn,h2,h3,h4,h5,h6,h7,h8⟩
  exact ⟨_,h8,h1,i2,j2,o,zs,dn,h2,h3,h4,h5,h6,h7,rfl⟩
 refine ⟨_,rfl,_,rfl,_,_,_,_,rfl,rfl,sa2,at1,_,_,_,_,rfl,rfl,q1,rfl,_,rfl,_,rfl,_,_,_,_,rfl,rfl,sb2,at2,_,_,_,_,rfl,rfl,q2,rfl,_,_,_,_,_,_,rfl,d1,d2,m1,m2,n1,n2,_,rfl,?_⟩;rcases Ln.jw (la.at hs1) (lb.at hs2) with h | h | ⟨h,h1,h2⟩
 ·rw [decide_eq_true h];rw [if_pos h] at stp;refine fm ?_;refine ⟨_,rfl,_,rfl,_,_,_,_,rfl,rfl,sa2,at1,_,_,_,_,rfl,rfl,q1,rfl,?_⟩;refine ⟨_,rfl,.inl ⟨rfl,_,SqL.of hl⟩,_,rfl,_,rfl,_,rfl,_,_,_,_,rfl,rfl,sa2,at1,_,rfl,_,rfl,_,_,_,_,rfl,rfl,sb2,at2,szD,λt ht=>?_⟩;have u1:=ao ht (.tup [.ref f1,.ref c1,.ref c2]);have hl1:=u1 _ _ hl;refine ⟨l,zs,_,rfl,rfl,hl1,dk lz,?_⟩;have t2:Tst (upd H' t (.tup [.ref f1,.ref c1,.ref c2])) (upd (upd H' t (.tup [.ref f1,.ref c1,.ref c2])) l (.lst (zs++[.ref t]))):=gO hl1;have tt:=u1.ts.trans t2;have nt:t≠l:=λe=>by rw [e,hl] at ht;cases ht
  have dpc:Dat K (upd (upd H' t (.tup [.ref f1,.ref c1,.ref c2])) l (.lst (zs++[.ref t]))) (pcD ⟨A[i].p,A[i].q,A[i],B[j]⟩) (.ref t):=Fy (SqT.of (by rw [aq nt];exact ae)) (d1.ts tt) (dv1.ts tt) (dv2.ts tt);refine ⟨_,rfl,_,rfl,_,_,_,_,rfl,rfl,sa2.ts tt,at1,_,_,_,_,rfl,rfl,q1.ts tt,rfl,_,rfl,?_⟩;refine ⟨_,_,.inl (d1.ts tt),.inl (d1.ts tt),bR _ _,bR _ _,_,rfl,?_⟩;rw [kA,decide_eq_true ⟨rfl,rfl⟩];refine fm ?_;refine ⟨_,rfl,_,_,rfl,rfl,?_⟩;refine ⟨_,rfl,_,rfl,_,_,_,_,rfl,rfl,sb2.ts tt,at2,_,_,_,_,rfl,rfl,q2.ts tt,rfl,_,rfl,?_⟩;refine ⟨_,_,.inl (d2.ts tt),.inl (d1.ts tt),bR _ _,bR _ _,_,rfl,?_⟩;rw [kA,decide_eq_false (show ¬ (B[j].p=A[i].p/\B[j].q=A[i].q) from λz=>by rw [z.1,z.2] at h;omega)];refine cX ?_;refine ⟨bp (sm.trans u1) hb _,i+1,j,_,zs++[.ref t],dn++[⟨A[i].p,A[i].q,A[i],B[j]⟩],rfl,ae,?_,?_,by omega,by omega,by omega⟩
  ·rw [List.map_append];exact (dz.ts tt).snoc dpc
  ·rw [<- al,stp,List.append_assoc];rfl
 ·rw [decide_eq_false (show ¬ (A[i].p*B[j].q < B[j].p*A[i].q) by rw [h.1,h.2];omega)];rw [if_neg (show ¬ (A[i].p*B[j].q < B[j].p*A[i].q) by rw [h.1,h.2];omega),if_pos h] at stp;refine cX ?_;refine ⟨_,rfl,_,rfl,_,_,_,_,rfl,rfl,sb2,at2,_,_,_,_,rfl,rfl,q2,rfl,?_⟩;refine ⟨_,rfl,.inl ⟨rfl,_,SqL.of hl⟩,_,rfl,_,rfl,_,rfl,_,_,_,_,rfl,rfl,sa2,at1,_,rfl,_,rfl,_,_,_,_,rfl,rfl,sb2,at2,szD,λt ht=>?_⟩;have u1:=ao ht (.tup [.ref f2,.ref c1,.ref c2]);have hl1:=u1 _ _ hl;refine ⟨l,zs,_,rfl,rfl,hl1,dk lz,?_⟩;have t2:Tst (upd H' t (.tup [.ref f2,.ref c1,.ref c2])) (upd (upd H' t (.tup [.ref f2,.ref c1,.ref c2])) l (.lst (zs++[.ref t]))):=gO hl1;have tt:=u1.ts.trans t2;have nt:t≠l:=λe=>by rw [e,hl] at ht;cases ht
  have dpc:Dat K (upd (upd H' t (.tup [.ref f2,.ref c1,.ref c2])) l (.lst (zs++[.ref t]))) (pcD ⟨B[j].p,B[j].q,A[i],B[j]⟩) (.ref t):=Fy (SqT.of (by rw [aq nt];exact ae)) (d2.ts tt) (dv1.ts tt) (dv2.ts tt);refine ⟨_,rfl,_,rfl,_,_,_,_,rfl,rfl,sa2.ts tt,at1,_,_,_,_,rfl,rfl,q1.ts tt,rfl,_,rfl,?_⟩;refine ⟨_,_,.inl (d1.ts tt),.inl (d2.ts tt),bR _ _,bR _ _,_,rfl,?_⟩;rw [kA,decide_eq_true h];refine fm ?_;refine ⟨_,rfl,_,_,rfl,rfl,?_⟩;refine ⟨_,rfl,_,rfl,_,_,_,_,rfl,rfl,sb2.ts tt,at2,_,_,_,_,rfl,rfl,q2.ts tt,rfl,_,rfl,?_⟩;refine ⟨_,_,.inl (d2.ts tt),.inl (d2.ts tt),bR _ _,bR _ _,_,rfl,?_⟩;rw [kA,decide_eq_true ⟨rfl,rfl⟩];refine fm ?_;refine ⟨_,rfl,_,_,rfl,rfl,?_⟩;refine ⟨bp (sm.trans u1) hb _,i+1,j+1,_,zs++[.ref t],dn++[⟨B[j].p,B[j].q,A[i],B[j]⟩],rfl,ae,?_,?_,by omega,by omega,by omega⟩
  ·rw [List.map_append];exact (dz.ts tt).snoc dpc
  ·rw [<- al,stp,List.append_assoc];rfl
 ·rw [decide_eq_false h1];rw [if_neg h1,if_neg h2] at stp;refine cX ?_;refine ⟨_,rfl,_,rfl,_,_,_,_,rfl,rfl,sb2,at2,_,_,_,_,rfl,rfl,q2,rfl,?_⟩;refine ⟨_,rfl,.inl ⟨rfl,_,SqL.of hl⟩,_,rfl,_,rfl,_,rfl,_,_,_,_,rfl,rfl,sa2,at1,_,rfl,_,rfl,_,_,_,_,rfl,rfl,sb2,at2,szD,λt ht=>?_⟩;have u1:=ao ht (.tup [.ref f2,.ref c1,.ref c2]);have hl1:=u1 _ _ hl;refine ⟨l,zs,_,rfl,rfl,hl1,dk lz,?_⟩;have t2:Tst (upd H' t (.tup [.ref f2,.ref c1,.ref c2])) (upd (upd H' t (.tup [.ref f2,.ref c1,.ref c2])) l (.lst (zs++[.ref t]))):=gO hl1;have tt:=u1.ts.trans t2;have nt:t≠l:=λe=>by rw [e,hl] at ht;cases ht
  have dpc:Dat K (upd (upd H' t (.tup [.ref f2,.ref c1,.ref c2])) l (.lst (zs++[.ref t]))) (pcD ⟨B[j].p,B[j].q,A[i],B[j]⟩) (.ref t):=Fy (SqT.of (by rw [aq nt];exact ae)) (d2.ts tt) (dv1.ts tt) (dv2.ts tt);refine ⟨_,rfl,_,rfl,_,_,_,_,rfl,rfl,sa2.ts tt,at1,_,_,_,_,rfl,rfl,q1.ts tt,rfl,_,rfl,?_⟩;refine ⟨_,_,.inl (d1.ts tt),.inl (d2.ts tt),bR _ _,bR _ _,_,rfl,?_⟩;rw [kA,decide_eq_false h2];refine cX ?_;refine ⟨_,rfl,_,rfl,_,_,_,_,rfl,rfl,sb2.ts tt,at2,_,_,_,_,rfl,rfl,q2.ts tt,rfl,_,rfl,?_⟩;refine ⟨_,_,.inl (d2.ts tt),.inl (d2.ts tt),bR _ _,bR _ _,_,rfl,?_⟩;rw [kA,decide_eq_true ⟨rfl,rfl⟩];refine fm ?_;refine ⟨_,rfl,_,_,rfl,rfl,?_⟩;refine ⟨bp (sm.trans u1) hb _,i,j+1,_,zs++[.ref t],dn++[⟨B[j].p,B[j].q,A[i],B[j]⟩],rfl,ae,?_,?_,by omega,by omega,by omega⟩
  ·rw [List.map_append];exact (dz.ts tt).snoc dpc
  ·rw [<- al,stp,List.append_assoc];rfl
theorem qC {X:Cx} {K:W.Frag} {es:List Expr} {k:Nat} {pos:Pos} {t:TGs} {n:Nat} (e:X.K=K) (hc:X.calm=true) (h:PGs X es t)
  (hn:(assignEach es X.env).length=n:=by rfl) (hst:(assignEach es X.env).findIdx? (·.1)=none:=by rfl):PG X (.Tuple es k pos) (gTup K n t):=by
 subst e;exact kh hc h hn hst
theorem len3 {o:St} (h:o.length=3):∃ a b c,o=[a,b,c]:=by
 match o,h with
 | [a,b,c],_=>exact ⟨a,b,c,rfl⟩
def mV (K:W.Frag):Sp:=λvs H Q _=>∃(x:V) (L:List St4),vs=[x]/\Dat K H (lnD L) x/\L.length<=1000/\∀ v H',aE H H'->Dat K H' (lnD (L.map Ln.tnS)) v->Q v H'
def qZ (K:W.Frag):Sp:=λvs H Q _=>∃(x:V) (L:List St4) (n:Int),vs=[x,.int n]/\Dat K H (lnD L) x/\L.length<=1000/\∀ v H',aE H H'->Dat K H' (lnD (L.map (Ln.rsS n))) v->Q v H'
def Bm (K:W.Frag):Sp:=λvs H Q _=>∃(x y:V) (A B:List St4),vs=[x,y]/\Dat K H (lnD A) x/\Ln.bU A/\Dat K H (lnD B) y/\Ln.bU B/\∀ v H',aE H H'->Dat K H' (lnD (Ln.jn (Ln.ad (Ln.sbs A B)))) v->Q v H'
theorem sF {α:Type} {f:St4->α} {L:List St4} {i:Nat} {s:St4} (h:L[i]?=some s):(L.take (i+1)).map f=(L.take i).map f++[f s]:=by
 rw [List.take_add_one,h,List.map_append];rfl
theorem zU {H:Hp} {t D:Addr} {zs:List V} (ht:H t=none) (h:H D=some (.lst zs)):D≠t:=λe=>by rw [e,ht] at h;cases h
theorem CU (T:au K mg "turned" jP) (bO:mg "tuple"=none):Def P w K mg base 1 "turned" ["line"] (mV K):=by
 refine aO T uC (λ_ _ _ _ _ _=>L2.ar1 λ_=>rfl) ?_ ?_
 ·walk_at "i1";obtain ⟨x,L,rfl,_⟩:=h;rfl
 walk_at "i2";obtain ⟨x,L,rfl,hx,few,k⟩:=h;obtain ⟨a,xs,rfl,sa,da⟩:=jH hx;have nd:=uC.nd;have lx:=dU da;refine ⟨_,(aj (aw (iU eo rfl bO (by decide+kernel) (aa (lh (xs:=["end","slope","height"]) rfl (iI (pv 0)) rfl (by decide+kernel) (by decide+kernel) (show L2.FrN _ (ag jP) by decide+kernel) fL (show (["end","slope","height"]:List Str).Nodup by decide+kernel) (λ_ _ _ _=>qC (K:=K) (n:=3) rfl rfl (ba (aP (i:=0) (show (["end","slope","height"]:List Str).Nodup by decide+kernel) rfl (Or.inl rfl) (.inr rfl)) (ba (aP (i:=1) (show (["end","slope","height"]:List Str).Nodup by decide+kernel) rfl (Or.inl rfl) (.inr rfl)) (ba (aP (i:=2) (show (["end","slope","height"]:List Str).Nodup by decide+kernel) rfl (Or.inl rfl) (.inr rfl)) fh)))) (λ_ _ _ _=>(bE (aa (pv 0) (aa (fi cS (pv 1)) (aa (fi cS (pv 2)) af)))))) af)))),?_⟩;refine ⟨_,rfl,a,rfl,⟨xs,sa⟩,λD hD=>?_⟩;refine ⟨λi m H2=>m=xs.length - i/\i<=xs.length/\aE H H2/\∃ zs,H2 D=some (.lst zs)/\DatAll K H2 (((L.take i).map Ln.tnS).map stD) zs,⟨_,rfl,Nat.zero_le _,ao hD _,[],ae,rfl⟩,?_⟩;rintro i m H2 ⟨rfl,hi,sm,zs,hlD,dz⟩
 have sa2:=sa.ts sm.ts;have lz:zs.length<=9000:=by rw [dz.len];simp;omega
 by_cases hlt:i < xs.length
 ·refine .inr ⟨⟨xs,_,sa2,List.getElem?_eq_getElem hlt⟩,λo ho v H3 y=>?_⟩;obtain ⟨rfl,y⟩:=y;obtain ⟨st,hst,dst⟩:=hV (da.ts sm.ts) (y xs sa2);obtain ⟨c,e,rfl,q1,d1⟩:=dA dst;obtain ⟨o1,o2,o3,rfl⟩:=len3 ho;refine ⟨c,_,rfl,q1,rfl,_,_,rfl,_,_,rfl,_,_,rfl,rfl,[some e,some (.int st.m),some (.int st.h)],rfl,rfl,?_⟩;refine ⟨_,rfl,_,rfl,_,rfl,_,rfl,_,rfl,szD,λt ht=>?_⟩;have u1:=ao ht (.tup [e,.int (-st.m),.int (-st.h)]);have hD1:=u1 _ _ hlD;have t2:Tst (upd H3 t (.tup [e,.int (-st.m),.int (-st.h)])) (upd (upd H3 t (.tup [e,.int (-st.m),.int (-st.h)])) D (.lst (zs++[.ref t]))):=gO hD1;have tt:=u1.ts.trans t2;refine ⟨zs,hD1,dk lz,xs.length - (i+1),by omega,rfl,hlt,bp (sm.trans u1) hD _,zs++[.ref t],ae,?_⟩;rw [sF hst,List.map_append];exact (dz.ts tt).snoc (pJ (s:=Ln.tnS st) (SqT.of (by rw [aq (zU ht hlD).symm];exact ae)) (d1.ts tt))
 have ei:i=xs.length:=by omega
 subst ei;refine .inl ⟨⟨xs,sa2,Nat.le_refl _⟩,?_⟩;rw [lx,List.take_length] at dz;refine ⟨D,zs,rfl,.inl ⟨SqL.of hlD,λt ht=>?_⟩⟩;have u1:=ao ht (.tup zs);exact k _ _ (sm.trans u1) ⟨t,zs,rfl,SqT.of ae,dz.ts u1.ts⟩
theorem De (T:au K mg "raised" jQ) (bO:mg "tuple"=none):Def P w K mg base 1 "raised" ["line","by"] (qZ K):=by
 refine aO T uF (λ_ _ _ _ _ _=>L2.ar2 λ_ _=>rfl) ?_ ?_
 ·walk_at "i1";obtain ⟨x,L,n,rfl,_⟩:=h;rfl
 walk_at "i2";obtain ⟨x,L,n,rfl,hx,few,k⟩:=h;obtain ⟨a,xs,rfl,sa,da⟩:=jH hx;have nd:=uF.nd;have lx:=dU da;refine ⟨_,(aj (aw (iU eo rfl bO (by decide+kernel) (aa (lh (xs:=["end","slope","height"]) rfl (iI (pv 0)) rfl (by decide+kernel) (by decide+kernel) (show L2.FrN _ (ag jQ) by decide+kernel) (fW (j:=1) rfl (Or.inl rfl) (by decide+kernel) (Or.inl rfl) fL) (show (["end","slope","height","by"]:List Str).Nodup by decide+kernel) (λ_ _ _ _=>qC (K:=K) (n:=3) rfl rfl (ba (aP (i:=0) (show (["end","slope","height","by"]:List Str).Nodup by decide+kernel) rfl (Or.inl rfl) (.inr rfl)) (ba (aP (i:=1) (show (["end","slope","height","by"]:List Str).Nodup by decide+kernel) rfl (Or.inl rfl) (.inr rfl)) (ba (aP (i:=2) (show (["end","slope","height","by"]:List Str).Nodup by decide+kernel) rfl (Or.inl rfl) (.inr rfl)) fh)))) (λ_ _ _ _=>(bE (aa (pv 0) (aa (pv 1) (aa (aK bJ (pv 2) (pv 3)) af)))))) af)))),?_⟩;refine ⟨_,rfl,a,rfl,⟨xs,sa⟩,λD hD=>?_⟩;refine ⟨λi m H2=>m=xs.length - i/\i<=xs.length/\aE H H2/\∃ zs,H2 D=some (.lst zs)/\DatAll K H2 (((L.take i).map (Ln.rsS n)).map stD) zs,⟨_,rfl,Nat.zero_le _,ao hD _,[],ae,rfl⟩,?_⟩;rintro i m H2 ⟨rfl,hi,sm,zs,hlD,dz⟩
 have sa2:=sa.ts sm.ts;have lz:zs.length<=9000:=by rw [dz.len];simp;omega
 by_cases hlt:i < xs.length
 ·refine .inr ⟨⟨xs,_,sa2,List.getElem?_eq_getElem hlt⟩,λo ho v H3 y=>?_⟩;obtain ⟨rfl,y⟩:=y;obtain ⟨st,hst,dst⟩:=hV (da.ts sm.ts) (y xs sa2);obtain ⟨c,e,rfl,q1,d1⟩:=dA dst;obtain ⟨o1,o2,o3,rfl⟩:=len3 ho;refine ⟨c,_,rfl,q1,rfl,_,_,rfl,_,_,rfl,_,_,rfl,rfl,[some e,some (.int st.m),some (.int st.h)],rfl,rfl,?_⟩;refine ⟨_,rfl,_,rfl,_,rfl,_,rfl,_,_,rfl,rfl,szD,λt ht=>?_⟩;have u1:=ao ht (.tup [e,.int st.m,.int (st.h+n)]);have hD1:=u1 _ _ hlD;have t2:Tst (upd H3 t (.tup [e,.int st.m,.int (st.h+n)])) (upd (upd H3 t (.tup [e,.int st.m,.int (st.h+n)])) D (.lst (zs++[.ref t]))):=gO hD1;have tt:=u1.ts.trans t2;refine ⟨zs,hD1,dk lz,xs.length - (i+1),by omega,rfl,hlt,bp (sm.trans u1) hD _,zs++[.ref t],ae,?_⟩;rw [sF hst,List.map_append];exact (dz.ts tt).snoc (pJ (s:=Ln.rsS n st) (SqT.of (by rw [aq (zU ht hlD).symm];exact ae)) (d1.ts tt))
 have ei:i=xs.length:=by omega
 subst ei;refine .inl ⟨⟨xs,sa2,Nat.le_refl _⟩,?_⟩;rw [lx,List.take_length] at dz;refine ⟨D,zs,rfl,.inl ⟨SqL.of hlD,λt ht=>?_⟩⟩;have u1:=ao ht (.tup zs);exact k _ _ (sm.trans u1) ⟨t,zs,rfl,SqT.of ae,dz.ts u1.ts⟩
theorem Fz {H:Hp} {xs:List V} {Ps:List Ln.Pc} (g:DatAll K H (Ps.map pcD) xs) {i:Nat} {x:V} (h:xs[i]?=some x):∃ c,Ps[i]?=some c/\Dat K H (pcD c) x:=by
 obtain ⟨d,e1,e2⟩:=g.get' h;rw [List.getElem?_map] at e1;cases z:Ps[i]? with
 | none=>rw [z] at e1;cases e1
 | some s=>rw [z] at e1;cases e1;exact ⟨s,rfl,e2⟩
theorem FZ (T:au K mg "added" nC) (ij:Def P w K mg base 2 "side_by_side" ["one","other"] (Ez K)) (tO:Def P w K mg base 1 "joined" ["stretches"] (rg K)):Def P w K mg base 3 "added" ["one","other"] (Bm K):=by
 refine aO T xG (λ_ _ _ _ _ _=>L2.ar2 λ_ _=>rfl) ?_ ?_
 ·walk_at "i1";obtain ⟨x,y,A,B,rfl,_⟩:=h;rfl
 walk_at "i2";obtain ⟨x,y,A,B,rfl,hx,la,hy,lb,k⟩:=h;have nd:=xG.nd;have slen:=Ln.kU A B;have fa:=la.few;have fb:=lb.few
 refine ⟨_,(ai (aJ (i:=2) nd rfl (Or.inl rfl) (aD ij (hr.mono (by decide)) rfl (aa (pv 0) (aa (pv 1) af))))
  (aj (aw (aD tO (hr.mono (by decide)) rfl (aa (lh (xs:=["end","first","second"]) rfl (fg (pv 2)) rfl (by decide+kernel) (by decide+kernel) (show L2.FrN _ (ag nC) by decide+kernel) fL (show (["end","first","second"]:List Str).Nodup by decide+kernel) (λ_ _ _ _=>qC (K:=K) (n:=3) rfl rfl (ba (aP (i:=0) (show (["end","first","second"]:List Str).Nodup by decide+kernel) rfl (Or.inl rfl) (.inr rfl)) (ba (aP (i:=1) (show (["end","first","second"]:List Str).Nodup by decide+kernel) rfl (Or.inl rfl) (.inr rfl)) (ba (aP (i:=2) (show (["end","first","second"]:List Str).Nodup by decide+kernel) rfl (Or.inl rfl) (.inr rfl)) fh)))) (λ_ _ _ _=>(bE (aa (pv 0) (aa (aK bJ (aF (qJ (K:=K) rfl) (pv 1) ak (λ_ _=>rfl)) (aF (qJ (K:=K) rfl) (pv 2) ak (λ_ _=>rfl))) (aa (aK bJ (aF (qJ (K:=K) rfl) (pv 1) ak (λ_ _=>rfl)) (aF (qJ (K:=K) rfl) (pv 2) ak (λ_ _=>rfl))) af)))))) af))))),?_⟩
 refine ⟨_,rfl,_,rfl,x,y,A,B,rfl,hx,la,hy,lb,λl us H1 s1 hl0 hl dus=>?_⟩;have lu:us.length=(Ln.sbs A B).length:=by rw [dus.len,List.length_map]
 refine ⟨_,rfl,l,rfl,⟨us,SqL.of hl⟩,λD hD=>?_⟩;refine ⟨λi m H2=>m=us.length - i/\i<=us.length/\aE H1 H2/\∃ zs,H2 D=some (.lst zs)/\DatAll K H2 ((Ln.ad ((Ln.sbs A B).take i)).map stD) zs,⟨_,rfl,Nat.zero_le _,ao hD _,[],ae,rfl⟩,?_⟩;rintro i m H2 ⟨rfl,hi,sm,zs,hlD,dz⟩
 have sl2:SqL K H2 l us:=SqL.of (sm _ _ hl);have lz:zs.length<=9000:=by rw [dz.len];simp [Ln.ad];omega
 by_cases hlt:i < us.length
 ·refine .inr ⟨⟨us,_,sl2,List.getElem?_eq_getElem hlt⟩,λo ho v H3 y=>?_⟩;obtain ⟨rfl,y⟩:=y;obtain ⟨c,hc,dc⟩:=Fz (dus.ts sm.ts) (y us sl2);obtain ⟨ca,e,f,g,rfl,q1,d1,df,dg⟩:=pc_el dc;obtain ⟨fa',_,rfl,qf,_⟩:=dA df;obtain ⟨ga',_,rfl,qg,_⟩:=dA dg;obtain ⟨o1,o2,o3,rfl⟩:=len3 ho;refine ⟨ca,_,rfl,q1,rfl,_,_,rfl,_,_,rfl,_,_,rfl,rfl,[some e,some (.ref fa'),some (.ref ga')],rfl,rfl,?_⟩;refine ⟨_,rfl,_,rfl,_,_,_,_,rfl,rfl,qf,rfl,_,rfl,_,_,_,_,rfl,rfl,qg,rfl,_,_,rfl,rfl,_,rfl,_,_,_,_,rfl,rfl,qf,rfl,_,rfl,_,_,_,_,rfl,rfl,qg,rfl,_,_,rfl,rfl,szD,λt ht=>?_⟩;have u1:=ao ht (.tup [e,.int (c.a.m+c.b.m),.int (c.a.h+c.b.h)]);have hD1:=u1 _ _ hlD;have t2:Tst (upd H3 t (.tup [e,.int (c.a.m+c.b.m),.int (c.a.h+c.b.h)])) (upd (upd H3 t (.tup [e,.int (c.a.m+c.b.m),.int (c.a.h+c.b.h)])) D (.lst (zs++[.ref t]))):=gO hD1;have tt:=u1.ts.trans t2;refine ⟨zs,hD1,dk lz,us.length - (i+1),by omega,rfl,hlt,bp (sm.trans u1) hD _,zs++[.ref t],ae,?_⟩
  have e2:Ln.ad ((Ln.sbs A B).take (i+1))=Ln.ad ((Ln.sbs A B).take i)++[⟨c.p,c.q,c.a.m+c.b.m,c.a.h+c.b.h⟩]:=by
   unfold Ln.ad;rw [List.take_add_one,hc,List.map_append];rfl
  rw [e2,List.map_append];exact (dz.ts tt).snoc (pJ (s:=⟨c.p,c.q,c.a.m+c.b.m,c.a.h+c.b.h⟩) (SqT.of (by rw [aq (zU ht hlD).symm];exact ae)) (d1.ts tt))
 have ei:i=us.length:=by omega
 subst ei;refine .inl ⟨⟨us,sl2,Nat.le_refl _⟩,?_⟩;rw [lu,List.take_length] at dz;refine ⟨.ref D,Ln.ad (Ln.sbs A B),rfl,⟨D,zs,rfl,SqL.of hlD,dz⟩,by simp [Ln.ad];omega,λv H' s' dv=>?_⟩;exact k v H' (s1.trans (sm.trans s')) dv
def spGst (K:W.Frag):Sp:=λvs H Q _=>∃(v0 v1 f g:V) (sp sq:Int) (c:Ln.Pc),vs=[v0,v1,f,g]/\Dat K H (frD sp sq) v0/\Dat K H (frD c.p c.q) v1/\Dat K H (stD c.a) f/\Dat K H (stD c.b) g/\Ln.wC 45 c/\0<=sp/\sp<=sq/\0 < sq/\sq < 2 ^ 46/\
 ∀(l:Addr) (us:List V) (H':Hp),aE H H'->H' l=some (.lst us)->DatAll K H' ((Ln.gs sp sq c).map stD) us->us.length<=2->Q (.ref l) H'
theorem gs_of {sp sq:Int} {c:Ln.Pc} {u1 u2:St4} (h1:(if 0 < (c.a.m - c.b.m)*sp+(c.a.h - c.b.h)*sq then c.a else c.b)=u1) (h2:(if 0 < (c.a.m - c.b.m)*c.p+(c.a.h - c.b.h)*c.q then c.a else c.b)=u2) :
  Ln.gs sp sq c=(if ((c.a.m - c.b.m)*sp+(c.a.h - c.b.h)*sq)*((c.a.m - c.b.m)*c.p+(c.a.h - c.b.h)*c.q) < 0 then [⟨Lo.dw (-(c.a.h - c.b.h)) (c.a.m - c.b.m),Lo.di (-(c.a.h - c.b.h)) (c.a.m - c.b.m),u1.m,u1.h⟩,⟨c.p,c.q,u2.m,u2.h⟩] else if (c.a.m - c.b.m)*sp+(c.a.h - c.b.h)*sq=0 then [⟨c.p,c.q,u2.m,u2.h⟩] else [⟨c.p,c.q,u1.m,u1.h⟩]):=by
 unfold Ln.gs;rw [h1,h2]
theorem EH {S h sq q:Int} {sp p:Int} (hs:0 < sq) (hq:0 < q) (c:(S*sp+h*sq)*(S*p+h*q) < 0):S≠0:=by
 intro z;subst z;rw [Int.zero_mul,Int.zero_mul,Int.zero_add,Int.zero_add] at c;rcases Int.le_total 0 h with y | y
 ·have:=Int.mul_nonneg (Int.mul_nonneg y (Int.le_of_lt hs)) (Int.mul_nonneg y (Int.le_of_lt hq));omega
 ·have:=Int.mul_nonneg_of_nonpos_of_nonpos (Int.mul_nonpos_of_nonpos_of_nonneg y (Int.le_of_lt hs)) (Int.mul_nonpos_of_nonpos_of_nonneg y (Int.le_of_lt hq));omega
theorem ok_gst (T:au K mg "greater_stretches" bY) (mR:Def P w K mg base 2 "fraction" ["top","bottom"] ED):Def P w K mg base 3 "greater_stretches" ["start","end","first","second"] (spGst K):=by
 refine aO T fY (λ_ _ _ _ _ _=>L2.ar4 λ_ _ _ _=>rfl) ?_ ?_
 ·walk_at "i1";obtain ⟨v0,v1,f,g,sp,sq,c,rfl,_⟩:=h;rfl
 walk_at "i2";obtain ⟨v0,v1,f',g,sp,sq,c,rfl,d0,d1,df,dg,ok,p0,pq,q0,qb,k⟩:=h;have nd:=fY.nd
 have t6:∃ t,PSs (cR CX0 P w K mg base gy "greater_stretches" (ag bY) f cdv A outer s H E).nox ((bf bY).drop 6) t/\
   ∀(
    S Hh AS AE:Int) (u1 u2:St4) (w1 w2:V),Sm AS->Sm AE->Sm S->(AS*AE < 0->S≠0)->Dat K H (stD u1) w1->Dat K H (stD u2) w2->
    (∀(l:Addr) (us:List V) (H':Hp),aE H H'->H' l=some (.lst us)->DatAll K H' ((if AS*AE < 0 then [⟨Lo.dw (-Hh) S,Lo.di (-Hh) S,u1.m,u1.h⟩,⟨c.p,c.q,u2.m,u2.h⟩] else if AS=0 then [⟨c.p,c.q,u2.m,u2.h⟩] else [⟨c.p,c.q,u1.m,u1.h⟩]).map stD) us->us.length<=2->Q (.ref l) H')->
    t {nx:=λ_ H'=>Q .non H',rt:=Q} [some v0,some v1,some f',some g,some (.int S),some (.int Hh),some (.int AS),some (.int AE),some w1,some w2,none] H:=by
  refine ⟨_,(ai (aY (aC jE (aK bM (pv 6) (pv 7)) ak (aH _)) (ai (aJ (i:=10) nd rfl (Or.inl rfl) (aD mR (hr.mono (by decide)) rfl (aa (fi cS (pv 5)) (aa (pv 4) af))))
  (aj (aw (bF (aa (aK lj (bE (aa (pv 10) af)) (dh mn (pv 8) (eC ak) eE)) (aa (aK lj (bE (aa (pv 1) af)) (dh mn (pv 9) (eC ak) eE)) af)))))) aI)
  (ai (aY (aC bQ (pv 6) ak (aH _)) (aj (aw (bF (aa (aK lj (bE (aa (pv 1) af)) (dh mn (pv 9) (eC ak) eE)) af)))) aI)
  (aj (aw (bF (aa (aK lj (bE (aa (pv 1) af)) (dh mn (pv 8) (eC ak) eE)) af)))))),λS Hh AS AE u1 u2 w1 w2 bAS bAE bS hS e1 e2 kk=>?_⟩
  obtain ⟨a1,f1,rfl,q1,_⟩:=dA e1;obtain ⟨a2,f2,rfl,q2,_⟩:=dA e2;refine ⟨_,rfl,_,rfl,_,_,rfl,rfl,fF bAS bAE,_,_,rfl,rfl,_,rfl,?_⟩;refine cQ (λcc=>?_) (λcc=>?_)
  ·have c':AS*AE < 0:=of_decide_eq_true cc;rw [if_pos c'] at kk;refine ⟨_,rfl,_,rfl,_,rfl,-Hh,S,rfl,hS c',bS,λt1 H1 s1 ht1=>?_⟩;refine ⟨_,rfl,szB,λp1 hp1=>?_⟩;have n1:=ao hp1 (.tup [.ref t1]);refine ⟨_,rfl,_,rfl,a1,_,rfl,q1.ts (s1.trans n1).ts,lH _ _ _,λp2 hp2=>?_⟩;have n2:=ao hp2 (.tup (jd [f1,.int u1.m,.int u1.h] (some 1) none));refine ⟨p1,p2,[.ref t1],[.int u1.m,.int u1.h],rfl,rfl,SqT.of (n2 _ _ ae),SqT.of ae,by simp,szD,(λz=>nomatch z),λ_ p3 hp3=>?_⟩;have n3:=ao hp3 (.tup ([.ref t1]++[.int u1.m,.int u1.h]));have m3:=s1.trans (n1.trans (n2.trans n3));refine ⟨_,rfl,szB,λp4 hp4=>?_⟩;have n4:=ao hp4 (.tup [v1]);refine ⟨_,rfl,_,rfl,a2,_,rfl,q2.ts (m3.trans n4).ts,lH _ _ _,λp5 hp5=>?_⟩;have n5:=ao hp5 (.tup (jd [f2,.int u2.m,.int u2.h] (some 1) none));refine ⟨p4,p5,[v1],[.int u2.m,.int u2.h],rfl,rfl,SqT.of (n5 _ _ ae),SqT.of ae,by simp,szD,(λz=>nomatch z),λ_ p6 hp6=>?_⟩;have n6:=ao hp6 (.tup ([v1]++[.int u2.m,.int u2.h]));refine ⟨szC,λl hl=>?_⟩;have n7:=ao hl (.lst [.ref p3,.ref p6]);have m47:=n4.trans (n5.trans (n6.trans n7));have ft:Dat K _ (frD (Lo.dw (-Hh) S) (Lo.di (-Hh) S)) (.ref t1):=kz (SqT.of ht1);refine kk l _ _ (m3.trans m47) ae ?_ (by simp);exact ⟨_,_,rfl,pJ (s:=⟨Lo.dw (-Hh) S,Lo.di (-Hh) S,u1.m,u1.h⟩) (SqT.of (m47 _ _ ae)) (ft.ts ((n1.trans (n2.trans n3)).trans m47).ts),_,_,rfl,pJ (s:=⟨c.p,c.q,u2.m,u2.h⟩) (SqT.of (n7 _ _ ae)) (d1.ts (m3.trans m47).ts),rfl⟩
  have c':¬AS*AE < 0:=λz=>cc (decide_eq_true z);rw [if_neg c'] at kk;refine ⟨_,rfl,rfl,_,rfl,?_⟩;refine cQ (λcc=>?_) (λcc=>?_)
  ·have e0:AS=0:=V.int.inj (of_decide_eq_true cc);rw [if_pos e0] at kk;refine ⟨_,rfl,szB,λp4 hp4=>?_⟩;have n4:=ao hp4 (.tup [v1]);refine ⟨_,rfl,_,rfl,a2,_,rfl,q2.ts n4.ts,lH _ _ _,λp5 hp5=>?_⟩;have n5:=ao hp5 (.tup (jd [f2,.int u2.m,.int u2.h] (some 1) none));refine ⟨p4,p5,[v1],[.int u2.m,.int u2.h],rfl,rfl,SqT.of (n5 _ _ ae),SqT.of ae,by simp,szD,(λz=>nomatch z),λ_ p6 hp6=>?_⟩;have n6:=ao hp6 (.tup ([v1]++[.int u2.m,.int u2.h]));refine ⟨szB,λl hl=>?_⟩;have n7:=ao hl (.lst [.ref p6]);have m47:=n4.trans (n5.trans (n6.trans n7));refine kk l _ _ m47 ae ?_ (by simp);exact ⟨_,_,rfl,pJ (s:=⟨c.p,c.q,u2.m,u2.h⟩) (SqT.of (n7 _ _ ae)) (d1.ts m47.ts),rfl⟩
  ·have e0:¬AS=0:=λz=>cc (decide_eq_true (congrArg V.int z));rw [if_neg e0] at kk;refine ⟨_,rfl,szB,λp4 hp4=>?_⟩;have n4:=ao hp4 (.tup [v1]);refine ⟨_,rfl,_,rfl,a1,_,rfl,q1.ts n4.ts,lH _ _ _,λp5 hp5=>?_⟩;have n5:=ao hp5 (.tup (jd [f1,.int u1.m,.int u1.h] (some 1) none));refine ⟨p4,p5,[v1],[.int u1.m,.int u1.h],rfl,rfl,SqT.of (n5 _ _ ae),SqT.of ae,by simp,szD,(λz=>nomatch z),λ_ p6 hp6=>?_⟩;have n6:=ao hp6 (.tup ([v1]++[.int u1.m,.int u1.h]));refine ⟨szB,λl hl=>?_⟩;have n7:=ao hl (.lst [.ref p6]);have m47:=n4.trans (n5.trans (n6.trans n7));refine kk l _ _ m47 ae ?_ (by simp);exact ⟨_,_,rfl,pJ (s:=⟨c.p,c.q,u1.m,u1.h⟩) (SqT.of (n7 _ _ ae)) (d1.ts m47.ts),rfl⟩
 obtain ⟨t6,ht6,hq6⟩:=t6;obtain ⟨a0,rfl,s0⟩:=nS d0;obtain ⟨a1,rfl,s1⟩:=nS d1;obtain ⟨fa,ef,rfl,qf,ff⟩:=dA df;obtain ⟨ga,eg,rfl,qg,gg⟩:=dA dg;have oa:=ok.a.2.2.2.2;have ob:=ok.b.2.2.2.2;have bS:(c.a.m - c.b.m).natAbs < 2 ^ 46:=by omega
 have bH:(c.a.h - c.b.h).natAbs < 2 ^ 46:=by omega
 obtain ⟨cp0,cpq,_,cq⟩:=ok.e;have bsp:sp.natAbs < 2 ^ 46:=by omega
 have bsq:sq.natAbs < 2 ^ 46:=by omega
 have bcp:c.p.natAbs < 2 ^ 46:=by omega
 have bcq:c.q.natAbs < 2 ^ 46:=by omega
 have small:∀{x:Int},x.natAbs < 2 ^ 46->Sm x:=λh=>Nat.lt_of_lt_of_le h (by decide);have y1:=Ln.jq (x:=c.a.m - c.b.m) (y:=sp) (m:=46) (n:=46) bS bsp;have y2:=Ln.jq (x:=c.a.h - c.b.h) (y:=sq) (m:=46) (n:=46) bH bsq;have y3:=Ln.jq (x:=c.a.m - c.b.m) (y:=c.p) (m:=46) (n:=46) bS bcp;have y4:=Ln.jq (x:=c.a.h - c.b.h) (y:=c.q) (m:=46) (n:=46) bH bcq;have bAS:Sm ((c.a.m - c.b.m)*sp+(c.a.h - c.b.h)*sq):=Nat.lt_of_lt_of_le (m:=2 ^ 93) (by omega) (by decide);have bAE:Sm ((c.a.m - c.b.m)*c.p+(c.a.h - c.b.h)*c.q):=Nat.lt_of_lt_of_le (m:=2 ^ 93) (by omega) (by decide);have hS:((c.a.m - c.b.m)*sp+(c.a.h - c.b.h)*sq)*((c.a.m - c.b.m)*c.p+(c.a.h - c.b.h)*c.q) < 0->c.a.m - c.b.m≠0:=EH q0 (by omega);refine ⟨_,ai (aJ (i:=4) nd rfl (Or.inl rfl) (aK du (aF aG (pv 2) ak (λ_ _=>rfl)) (aF aG (pv 3) ak (λ_ _=>rfl)))) (ai (aJ (i:=5) nd rfl (Or.inl rfl) (aK du (aF aG (pv 2) ak (λ_ _=>rfl)) (aF aG (pv 3) ak (λ_ _=>rfl)))) (ai (aJ (i:=6) nd rfl (Or.inl rfl) (aK bJ (aK bM (pv 4) (aF aG (pv 0) ak (λ_ _=>rfl))) (aK bM (pv 5) (aF aG (pv 0) ak (λ_ _=>rfl))))) (ai (aJ (i:=7) nd rfl (Or.inl rfl) (aK bJ (aK bM (pv 4) (aF aG (pv 1) ak (λ_ _=>rfl))) (aK bM (pv 5) (aF aG (pv 1) ak (λ_ _=>rfl))))) (ai (aJ (i:=8) nd rfl (Or.inl rfl) (iS (aC hU (pv 6) ak (aH _)) (pv 2) (pv 3))) (ai (aJ (i:=9) nd rfl (Or.inl rfl) (iS (aC hU (pv 7) ak (aH _)) (pv 2) (pv 3))) ht6))))),?_⟩;refine ⟨_,rfl,_,_,_,_,rfl,rfl,qf,rfl,_,rfl,_,_,_,_,rfl,rfl,qg,rfl,_,_,rfl,rfl,?_⟩;refine ⟨_,rfl,_,_,_,_,rfl,rfl,qf,rfl,_,rfl,_,_,_,_,rfl,rfl,qg,rfl,_,_,rfl,rfl,?_⟩;refine ⟨_,rfl,_,rfl,_,_,_,_,rfl,rfl,s0,rfl,_,_,rfl,rfl,fF (small bS) (small bsp),_,rfl,_,rfl,_,_,_,_,rfl,rfl,s0,rfl,_,_,rfl,rfl,fF (small bH) (small bsq),_,_,rfl,rfl,?_⟩;refine ⟨_,rfl,_,rfl,_,_,_,_,rfl,rfl,s1,rfl,_,_,rfl,rfl,fF (small bS) (small bcp),_,rfl,_,rfl,_,_,_,_,rfl,rfl,s1,rfl,_,_,rfl,rfl,fF (small bH) (small bcq),_,_,rfl,rfl,?_⟩
 have go:∀(u1 u2:St4) (w1 w2:V),(if 0 < (c.a.m - c.b.m)*sp+(c.a.h - c.b.h)*sq then c.a else c.b)=u1->(if 0 < (c.a.m - c.b.m)*c.p+(c.a.h - c.b.h)*c.q then c.a else c.b)=u2->Dat K H (stD u1) w1->Dat K H (stD u2) w2->
   t6 {nx:=λ_ H'=>Q .non H',rt:=Q} [some (.ref a0),some (.ref a1),some (.ref fa),some (.ref ga),some (.int (c.a.m - c.b.m)),some (.int (c.a.h - c.b.h)),some (.int ((c.a.m - c.b.m)*sp+(c.a.h - c.b.h)*sq)),some (.int ((c.a.m - c.b.m)*c.p+(c.a.h - c.b.h)*c.q)),some w1,some w2,none] H:=
  λu1 u2 w1 w2 e1 e2 k1 k2=>hq6 _ _ _ _ u1 u2 w1 w2 bAS bAE (small bS) hS k1 k2 λl us H' s' hl da n=>k l us H' s' hl (by rw [gs_of e1 e2];exact da) n
 refine ⟨_,rfl,_,_,rfl,rfl,_,rfl,?_⟩;refine cQ (λc1=>?_) (λc1=>?_)
 ·have e1:(if 0 < (c.a.m - c.b.m)*sp+(c.a.h - c.b.h)*sq then c.a else c.b)=c.a:=if_pos (of_decide_eq_true c1);refine ⟨_,rfl,?_⟩;refine ⟨_,rfl,_,_,rfl,rfl,_,rfl,?_⟩;refine cQ (λc2=>⟨_,rfl,?_⟩) (λc2=>⟨_,rfl,?_⟩)
  ·exact go _ _ _ _ e1 (if_pos (of_decide_eq_true c2)) df df
  ·exact go _ _ _ _ e1 (if_neg λz=>c2 (decide_eq_true z)) df dg
 ·have e1:(if 0 < (c.a.m - c.b.m)*sp+(c.a.h - c.b.h)*sq then c.a else c.b)=c.b:=if_neg λz=>c1 (decide_eq_true z);refine ⟨_,rfl,?_⟩;refine ⟨_,rfl,_,_,rfl,rfl,_,rfl,?_⟩;refine cQ (λc2=>⟨_,rfl,?_⟩) (λc2=>⟨_,rfl,?_⟩)
  ·exact go _ _ _ _ e1 (if_pos (of_decide_eq_true c2)) dg df
  ·exact go _ _ _ _ e1 (if_neg λz=>c2 (decide_eq_true z)) dg dg
def spGr (K:W.Frag):Sp:=λvs H Q _=>∃(x y:V) (A B:List St4),vs=[x,y]/\Dat K H (lnD A) x/\Ln.bU A/\Dat K H (lnD B) y/\Ln.bU B/\∀ v H',aE H H'->Dat K H' (lnD (up A B)) v->Q v H'
def spLe (K:W.Frag):Sp:=λvs H Q _=>∃(x y:V) (A B:List St4),vs=[x,y]/\Dat K H (lnD A) x/\Ln.bU A/\Dat K H (lnD B) y/\Ln.bU B/\(le A B).length<=1000/\∀ v H',aE H H'->Dat K H' (lnD (le A B)) v->Q v H'
theorem ok_gr (T:au K mg "greater_line" gY) (TN:iJ K mg "NOUGHT" [0,1]) (ij:Def P w K mg base 2 "side_by_side" ["one","other"] (Ez K)) (lU:Def P w K mg base 3 "greater_stretches" ["start","end","first","second"] (spGst K))
  (tO:Def P w K mg base 1 "joined" ["stretches"] (rg K)):Def P w K mg base 4 "greater_line" ["one","other"] (spGr K):=by
 refine aO T jD (λ_ _ _ _ _ _=>L2.ar2 λ_ _=>rfl) ?_ ?_
 ·walk_at "i1";obtain ⟨x,y,A,B,rfl,_⟩:=h;rfl
 walk_at "i2";obtain ⟨x,y,A,B,rfl,hx,la,hy,lb,k⟩:=h;have nd:=jD.nd;obtain ⟨aN,fu,qN⟩:=TN.ex;have slen:=Ln.kU A B;have fa:=la.few;have fb:=lb.few;obtain ⟨okp,_,_⟩:=Ln.kT A B la.way lb.way
 refine ⟨_,(ai (aJ (i:=2) nd rfl (Or.inl rfl) (bF af))
  (ai (aJ (i:=3) nd rfl (Or.inl rfl) (dN (v:=V.ref aN) rfl fu rfl))
  (ai (cK PassesOwn.never rfl (fg (aD ij (hr.mono (by decide)) rfl (aa (pv 0) (aa (pv 1) af)))) (kh rfl (ba (aP (i:=4) nd rfl (Or.inl rfl)) (ba (aP (i:=5) nd rfl (Or.inl rfl)) (ba (aP (i:=6) nd rfl (Or.inl rfl)) fh)))) (ai (bg (eO PySem.F.plainAttrs_list PySem.F.slot_list_extend PySem.F.type_list_extend oV (pv 2) (aa (aD lU (hr.mono (by decide)) rfl (aa (pv 3) (aa (pv 4) (aa (pv 5) (aa (pv 6) af))))) af)))
  (aj (aJ (i:=3) nd rfl (Or.inl rfl) (pv 4)))))
  (aj (aw (aD tO (hr.mono (by decide)) rfl (aa (pv 2) af))))))),?_⟩
 refine ⟨szA,λst hst=>?_⟩;have u0:=ao hst (.lst []);refine ⟨_,rfl,_,rfl,x,y,A,B,rfl,hx.ts u0.ts,la,hy.ts u0.ts,lb,λl us H1 s1 hl0 hl dus=>?_⟩;have lu:us.length=(Ln.sbs A B).length:=by rw [dus.len,List.length_map]
 have ne:l≠st:=λz=>by subst z;rw [ae] at hl0;cases hl0
 refine ⟨l,rfl,⟨us,SqL.of hl⟩,?_⟩
 refine gh (xs:=us) (λi σ H'=>aE H H'/\H' l=some (.lst us)/\DatAll K H' ((Ln.sbs A B).map pcD) us/\∃(zs:List V) (G:List St4) (vS:V) (sp sq:Int) (o4 o5 o6:Option V),σ=[some x,some y,some (.ref st),some vS,o4,o5,o6]/\H' st=some (.lst zs)/\DatAll K H' (G.map stD) zs/\Dat K H' (frD sp sq) vS/\0<=sp/\sp<=sq/\0 < sq/\sq < 2 ^ 46/\G.length<=2*i/\G++Ln.gr sp sq ((Ln.sbs A B).drop i)=Ln.gr 0 1 (Ln.sbs A B))
  ⟨u0.trans s1,hl,dus,[],[],.ref aN,0,1,_,_,_,rfl,s1 _ _ ae,rfl,kz (p:=0) (q:=1) (qN _),by decide,by decide,by decide,by decide,by simp,by simp⟩ (λi σ H' _ z=>SqL.of z.2.1) (λi v σ H' hv z=>?_) (λσ H' z=>?_)
 ·obtain ⟨sm,hl',dus',zs,G,vS,sp,sq,o4,o5,o6,rfl,hz,dz,dS,p0,pq,q0,qb,lG,eG⟩:=z;have hi:i < us.length:=(List.getElem?_eq_some_iff.mp hv).1;obtain ⟨c,hc,dc⟩:=Fz dus' hv;obtain ⟨ca,e,f',g,rfl,q1,d1,df,dg⟩:=pc_el dc;have okc:=okp c (List.mem_of_getElem? hc);obtain ⟨cp0,cpq,_,cq⟩:=okc.e;refine ⟨ca,_,rfl,q1,rfl,_,_,rfl,_,_,rfl,_,_,rfl,rfl,?_⟩;refine ⟨_,rfl,.inl ⟨rfl,_,SqL.of hz⟩,_,rfl,_,rfl,_,rfl,_,rfl,vS,e,f',g,sp,sq,c,rfl,dS,d1,df,dg,okc,p0,pq,q0,qb,λl2 us2 H2 s2 hl2 da2 n2=>?_⟩;have hz2:=s2 _ _ hz;have lz:zs.length<=8900:=by rw [dU dz];omega
  refine ⟨st,l2,zs,us2,rfl,rfl,hz2,hl2,Nat.le_of_lt (dk (by omega)),?_⟩;have t3:Tst H2 (upd H2 st (.lst (zs++us2))):=gO hz2;have tt:=s2.ts.trans t3;refine ⟨_,rfl,?_⟩;refine ⟨bp (sm.trans s2) hst _,by rw [aq ne];exact s2 _ _ hl',dus'.ts tt,zs++us2,G++Ln.gs sp sq c,e,c.p,c.q,_,_,_,rfl,ae,?_,d1.ts tt,by omega,cpq,by omega,by omega,?_,?_⟩
  ·rw [List.map_append];exact (dz.ts tt).append (da2.ts t3)
  ·have:=Ln.gs_len sp sq c;rw [List.length_append];omega
  ·rw [<- eG];obtain ⟨w1,w2⟩:=List.getElem?_eq_some_iff.mp hc;rw [List.drop_eq_getElem_cons w1,w2,List.append_assoc];rfl
 ·obtain ⟨sm,hl',dus',zs,G,vS,sp,sq,o4,o5,o6,rfl,hz,dz,dS,p0,pq,q0,qb,lG,eG⟩:=z;rw [lu,List.drop_length] at eG;have eG':G=Ln.gr 0 1 (Ln.sbs A B):=by rw [<- eG];exact (List.append_nil G).symm
  refine ⟨_,rfl,.ref st,G,rfl,⟨st,zs,rfl,SqL.of hz,dz⟩,by omega,λv H2 s2 dv=>?_⟩;rw [eG'] at dv;exact k v H2 (sm.trans s2) dv
theorem ok_le (T:au K mg "lesser_line" iG) (ig:Def P w K mg base 1 "turned" ["line"] (mV K)) (dH:Def P w K mg base 4 "greater_line" ["one","other"] (spGr K)):Def P w K mg base 5 "lesser_line" ["one","other"] (spLe K):=by
 refine aO T jM (λ_ _ _ _ _ _=>L2.ar2 λ_ _=>rfl) ?_ ?_
 ·walk_at "i1";obtain ⟨x,y,A,B,rfl,_⟩:=h;rfl
 walk_at "i2";obtain ⟨x,y,A,B,rfl,hx,la,hy,lb,few,k⟩:=h;have nd:=jM.nd;have lA:Ln.bU (A.map Ln.tnS):=⟨Ln.bP la.b,by simpa using la.few⟩;have lB:Ln.bU (B.map Ln.tnS):=⟨Ln.bP lb.b,by simpa using lb.few⟩;refine ⟨_,(aj (aw (aD ig (hr.mono (by decide)) rfl (aa (aD dH (hr.mono (by decide)) rfl (aa (aD ig (hr.mono (by decide)) rfl (aa (pv 0) af)) (aa (aD ig (hr.mono (by decide)) rfl (aa (pv 1) af)) af))) af)))),?_⟩;refine ⟨_,rfl,x,A,rfl,hx,la.few,λv1 H1 s1 d1=>?_⟩;refine ⟨_,rfl,y,B,rfl,hy.ts s1.ts,lb.few,λv2 H2 s2 d2=>?_⟩;refine ⟨v1,v2,_,_,rfl,d1.ts s2.ts,lA,d2,lB,λv3 H3 s3 d3=>?_⟩
 have gl:(up (A.map Ln.tnS) (B.map Ln.tnS)).length<=1000:=by
  unfold le at few;rw [List.length_map] at few;exact few
 exact ⟨v3,_,rfl,d3,gl,λv4 H4 s4 d4=>k v4 H4 (s1.trans (s2.trans (s3.trans s4))) d4⟩
def mh (K:W.Frag):Sp:=λvs H Q _=>∃ m h:Int,vs=[.int m,.int h]/\∀ v H',aE H H'->Dat K H' (lnD [⟨1,1,m,h⟩]) v->Q v H'
def spCut (K:W.Frag):Sp:=λvs H Q _=>∃(x:V) (A:List St4),vs=[x]/\Dat K H (lnD A) x/\Ln.bU A/\Ln.bU (up A (St1 0))/\(cut A).length<=1000/\∀ v H',aE H H'->Dat K H' (lnD (cut A)) v->Q v H'
theorem xR (T:au K mg "straight" mz) (TW:iJ K mg "WHOLE" [1,1]):Def P w K mg base 1 "straight" ["slope","height"] (mh K):=by
 refine aO T pN (λ_ _ _ _ _ _=>L2.ar2 λ_ _=>rfl) ?_ ?_
 ·walk_at "i1";obtain ⟨m,h,rfl,_⟩:=h;rfl
 walk_at "i2";obtain ⟨m,h,rfl,k⟩:=h;have nd:=pN.nd;obtain ⟨aW,wF,qW⟩:=TW.ex;refine ⟨_,(aj (aw (bE (aa (bE (aa (dN (v:=V.ref aW) rfl wF rfl) (aa (pv 0) (aa (pv 1) af)))) af)))),?_⟩;refine ⟨_,rfl,_,rfl,szD,λt ht=>⟨szB,λu hu=>?_⟩⟩;have u1:=ao ht (.tup [.ref aW,.int m,.int h]);have u2:=ao hu (.tup [.ref t]);refine k _ _ (u1.trans u2) ⟨u,_,rfl,SqT.of ae,_,_,rfl,?_,rfl⟩;exact pJ (s:=⟨1,1,m,h⟩) (SqT.of (u2 _ _ ae)) (kz (p:=1) (q:=1) (qW _))
theorem ok_cut (T:au K mg "cut_off" oN) (fO:Def P w K mg base 1 "straight" ["slope","height"] (mh K)) (dH:Def P w K mg base 4 "greater_line" ["one","other"] (spGr K)) (iK:Def P w K mg base 5 "lesser_line" ["one","other"] (spLe K)):Def P w K mg base 6 "cut_off" ["line"] (spCut K):=by
 refine aO T rK (λ_ _ _ _ _ _=>L2.ar1 λ_=>rfl) ?_ ?_
 ·walk_at "i1";obtain ⟨x,A,rfl,_⟩:=h;rfl
 walk_at "i2";obtain ⟨x,A,rfl,hx,la,lu,few,k⟩:=h;have nd:=rK.nd;have l0:Ln.bU (St1 0):=⟨vD (by decide),by decide⟩;have l1:Ln.bU (St1 1):=⟨vC (by decide),by decide⟩;refine ⟨_,(aj (aw (aD iK (hr.mono (by decide)) rfl (aa (aD dH (hr.mono (by decide)) rfl (aa (pv 0) (aa (aD fO (hr.mono (by decide)) rfl (aa ak (aa ak af))) af))) (aa (aD fO (hr.mono (by decide)) rfl (aa ak (aa ak af))) af))))),?_⟩;refine ⟨_,rfl,0,0,rfl,λv1 H1 s1 d1=>?_⟩;refine ⟨x,v1,A,St1 0,rfl,hx.ts s1.ts,la,d1,l0,λv2 H2 s2 d2=>?_⟩;refine ⟨0,1,rfl,λv3 H3 s3 d3=>?_⟩;exact ⟨v2,v3,up A (St1 0),St1 1,rfl,d2.ts s3.ts,lu,d3,l1,few,λv4 H4 s4 d4=>k v4 H4 (s1.trans (s2.trans (s3.trans s4))) d4⟩
abbrev GrV (H:Hp) (v:V) (g:Gr):Prop:=RwV H v g.rw
theorem GrV.tup {H:Hp} {v:V} {g:Gr} (h:GrV H v g):∃ a,v=.ref a/\H a=some (.tup (.str g.word::g.nums.map λi:Nat=>.int (i:Int))):=by
 obtain ⟨a,rfl,e⟩:=h;unfold Gr.rw at e;rw [qy] at e;exact ⟨a,rfl,e⟩
theorem at0 {x:V} {us:List V}:atI (x::us) 0=some x:=cZ (j:=0) rfl
theorem ja {a b:V} {A B:Prop} (h:a=b) (k:A):if decide (a=b)=true then A else B:=by rw [decide_eq_true h,if_pos rfl];exact k
theorem pW {a b:V} {A B:Prop} (h:a≠b) (k:B):if decide (a=b)=true then A else B:=by rw [decide_eq_false h,if_neg Bool.false_ne_true];exact k
def uV:Gr->List St4
 | .ne=>St1 0 | .al=>St1 1 | _=>fZ
def yU (Ls:List (List St4)) (F:List St4):Gr->Prop
 | .no i=>∃ A,Ls[i]?=some A/\A.length<=1000/\F=lineNo A
 | .fold u i j=>∃ A B,Ls[i]?=some A/\Ls[j]?=some B/\tJ u A B/\F=dO u A B
 | g=>F=uV g
def rf (K:W.Frag):Sp:=λvs H Q _=>∃ g:Gr,vs=[.str g.word]/\g.nums=[]/\∀ v H',aE H H'->Dat K H' (lnD (uV g)) v->Q v H'
def rj (K:W.Frag):Sp:=λvs H Q _=>∃(u:W5) (x y:V) (A B:List St4),vs=[.str u.str,x,y]/\Dat K H (lnD A) x/\Dat K H (lnD B) y/\tJ u A B/\∀ v H',aE H H'->Dat K H' (lnD (dO u A B)) v->Q v H'
def uv (K:W.Frag):Sp:=λvs H Q _=>∃(x:V) (l:Addr) (g:Gr) (us:List V) (Ls:List (List St4)) (F:List St4),vs=[x,.ref l]/\GrV H x g/\H l=some (.lst us)/\DatAll K H (Ls.map lnD) us/\yU Ls F g/\∀ v H',aE H H'->Dat K H' (lnD F) v->Q v H'
def Cu (gs:List Gr) (Ls:List (List St4)):Prop:=gs.length=Ls.length/\∀ i g,gs[i]?=some g->∃ F,Ls[i]?=some F/\yU (Ls.take i) F g
def mj (K:W.Frag):Sp:=λvs H Q _=>∃(l:Addr) (us:List V) (gs:List Gr) (Ls:List (List St4)) (F:List St4),vs=[.ref l]/\H l=some (.lst us)/\aZ (GrV H) us gs/\Cu gs (Ls++[F])/\gs.length<=1000/\∀ v H',aE H H'->Dat K H' (lnD F) v->Q v H'
theorem Fd {ts:List Tr} {g:Gr} {t:Tr} (h:GrT ts g t) (st:t.steep<=25) {k:Nat} (ok:oo k g):yU ((ts.take k).map eP) (eP t) g:=by
 have at_:∀{i:Nat} {x:Tr},i < k->ts[i]?=some x->((ts.take k).map eP)[i]?=some (eP x):=λ{i x} hi hx=>by
  rw [List.getElem?_map,List.getElem?_take_of_lt hi,hx];rfl
 cases g with
 | no i =>
  cases t <;> first | exact h.elim | skip
  rename_i t;have st':t.steep<=25:=st;exact ⟨eP t,at_ (ok i (by simp [Gr.nums])) h,(kj (dZ t st') st').1,rfl⟩
 | fold u i j =>
  cases t <;> first | exact h.elim | skip
  rename_i v a b;obtain ⟨rfl,h1,h2⟩:=h;have st':u.steep a.steep b.steep<=25:=st;have s:=kP u a.steep b.steep;exact ⟨eP a,eP b,at_ (ok i (by simp [Gr.nums])) h1,at_ (ok j (by simp [Gr.nums])) h2,(fK u (dZ a (by omega)) (dZ b (by omega)) st').1,rfl⟩
 | ne=>cases t <;> first | exact h.elim | rfl
 | al=>cases t <;> first | exact h.elim | rfl
 | p=>cases t <;> first | exact h.elim | rfl
 | q=>cases t <;> first | exact h.elim | rfl
theorem Ep {gs:List Gr} {ts:List Tr} (tb:Tab gs ts) (st:∀ x∈ts,x.steep<=25):Cu gs (ts.map eP):=by
 refine ⟨by rw [List.length_map];exact tb.len,λi g hg=>?_⟩;obtain ⟨x,hx,gt⟩:=tb.at hg;refine ⟨eP x,by rw [List.getElem?_map,hx];rfl,?_⟩;rw [<- List.map_take];exact Fd gt (st x (List.mem_of_getElem? hx)) (tb.ok i g hg)
variable {c:CCs}
theorem xS (T:au K mg "leaf_line" jR) (fO:Def P w K mg base 1 "straight" ["slope","height"] (mh K)):Def P w K mg base 2 "leaf_line" ["word"] (rf K):=by
 refine aO T nj (λ_ _ _ _ _ _=>L2.ar1 λ_=>rfl) ?_ ?_
 ·walk_at "i1";obtain ⟨g,rfl,_⟩:=h;rfl
 walk_at "i2";obtain ⟨g,rfl,hg,q⟩:=h;have nd:=nj.nd
 refine ⟨_,(ai (aY (aC bQ (pv 0) aL (aH _)) (aj (aw (aD fO (hr.mono (by omega)) rfl (aa ak (aa ak af))))) aI)
  (ai (aY (aC bQ (pv 0) aL (aH _)) (aj (aw (aD fO (hr.mono (by omega)) rfl (aa ak (aa ak af))))) aI)
  (aj (aw (aD fO (hr.mono (by omega)) rfl (aa ak (aa ak af))))))),?_⟩
 cases g with
 | no i=>cases hg
 | fold u i j=>cases hg
 | ne=>exact ⟨_,rfl,rfl,_,rfl,ite_yes rfl ⟨0,0,rfl,q⟩⟩
 | al=>exact ⟨_,rfl,rfl,_,rfl,ite_no (by decide+kernel) ⟨_,rfl,rfl,_,rfl,ite_yes rfl ⟨0,1,rfl,q⟩⟩⟩
 | p=>exact ⟨_,rfl,rfl,_,rfl,ite_no (by decide+kernel) ⟨_,rfl,rfl,_,rfl,ite_no (by decide+kernel) ⟨1,0,rfl,q⟩⟩⟩
 | q=>exact ⟨_,rfl,rfl,_,rfl,ite_no (by decide+kernel) ⟨_,rfl,rfl,_,rfl,ite_no (by decide+kernel) ⟨1,0,rfl,q⟩⟩⟩
theorem xY (T:au K mg "fold_line" jX) (wI:Def P w K mg base 3 "added" ["one","other"] (Bm K)) (ig:Def P w K mg base 1 "turned" ["line"] (mV K)) (oq:Def P w K mg base 1 "raised" ["line","by"] (qZ K)) (dH:Def P w K mg base 4 "greater_line" ["one","other"] (spGr K)) (iK:Def P w K mg base 5 "lesser_line" ["one","other"] (spLe K)) (pI:Def P w K mg base 6 "cut_off" ["line"] (spCut K)):Def P w K mg base 7 "fold_line" ["word","one","other"] (rj K):=by
 refine aO T ny (λ_ _ _ _ _ _=>L2.ar3 λ_ _ _=>rfl) ?_ ?_
 ·walk_at "i1";obtain ⟨u,x,y,A,B,rfl,_⟩:=h;rfl
 walk_at "i2";obtain ⟨u,x,y,A,B,rfl,dx,dy,ok,q⟩:=h;have nd:=ny.nd
 refine ⟨_,(ai (aY (aC bQ (pv 0) aL (aH _)) (aj (aw (aD pI (hr.mono (by omega)) rfl (aa (aD wI (hr.mono (by omega)) rfl (aa (pv 1) (aa (pv 2) af))) af)))) aI)
  (ai (aY (aC bQ (pv 0) aL (aH _)) (aj (aw (aD pI (hr.mono (by omega)) rfl (aa (aD oq (hr.mono (by omega)) rfl (aa (aD wI (hr.mono (by omega)) rfl (aa (pv 1) (aa (pv 2) af))) (aa (fi cS ak) af))) af)))) aI)
  (ai (aY (aC bQ (pv 0) aL (aH _)) (aj (aw (aD dH (hr.mono (by omega)) rfl (aa (pv 1) (aa (pv 2) af))))) aI)
  (ai (aY (aC bQ (pv 0) aL (aH _)) (aj (aw (aD iK (hr.mono (by omega)) rfl (aa (pv 1) (aa (pv 2) af))))) aI)
  (aj (aw (aD pI (hr.mono (by omega)) rfl (aa (aD oq (hr.mono (by omega)) rfl (aa (aD wI (hr.mono (by omega)) rfl (aa (aD ig (hr.mono (by omega)) rfl (aa (pv 1) af)) (aa (pv 2) af))) (aa ak af))) af)))))))),?_⟩
 cases u with
 | more =>
  obtain ⟨ka,kb,co⟩:=ok;refine ⟨_,rfl,rfl,_,rfl,ite_yes rfl ?_⟩;refine ⟨_,rfl,_,rfl,x,y,A,B,rfl,dx,ka,dy,kb,λv1 H1 s1 d1=>?_⟩;exact ⟨v1,fq A B,rfl,d1,co.k,co.u,co.c,λv2 H2 s2 d2=>q v2 H2 (s1.trans s2) d2⟩
 | less =>
  obtain ⟨ka,kb,few,co⟩:=ok;refine ⟨_,rfl,rfl,_,rfl,ite_no (by decide+kernel) ⟨_,rfl,rfl,_,rfl,ite_yes rfl ?_⟩⟩;refine ⟨_,rfl,_,rfl,x,y,A,B,rfl,dx,ka,dy,kb,λv1 H1 s1 d1=>?_⟩;refine ⟨_,rfl,v1,fq A B,-1,rfl,d1,few,λv2 H2 s2 d2=>?_⟩;exact ⟨v2,_,rfl,d2,co.k,co.u,co.c,λv3 H3 s3 d3=>q v3 H3 ((s1.trans s2).trans s3) d3⟩
 | greater =>
  obtain ⟨ka,kb⟩:=ok;refine ⟨_,rfl,rfl,_,rfl,ite_no (by decide+kernel) ⟨_,rfl,rfl,_,rfl,ite_no (by decide+kernel) ⟨_,rfl,rfl,_,rfl,ite_yes rfl ?_⟩⟩⟩;exact ⟨_,rfl,_,rfl,x,y,A,B,rfl,dx,ka,dy,kb,q⟩
 | lesser =>
  obtain ⟨ka,kb,few⟩:=ok;refine ⟨_,rfl,rfl,_,rfl,ite_no (by decide+kernel) ⟨_,rfl,rfl,_,rfl,ite_no (by decide+kernel) ⟨_,rfl,rfl,_,rfl,ite_no (by decide+kernel) ⟨_,rfl,rfl,_,rfl,ite_yes rfl ?_⟩⟩⟩⟩;exact ⟨_,rfl,_,rfl,x,y,A,B,rfl,dx,ka,dy,kb,few,q⟩
 | leads =>
  obtain ⟨fa,kt,kb,few,co⟩:=ok;refine ⟨_,rfl,rfl,_,rfl,ite_no (by decide+kernel) ⟨_,rfl,rfl,_,rfl,ite_no (by decide+kernel) ⟨_,rfl,rfl,_,rfl,ite_no (by decide+kernel) ⟨_,rfl,rfl,_,rfl,ite_no (by decide+kernel) ?_⟩⟩⟩⟩;refine ⟨_,rfl,x,A,rfl,dx,fa,λv0 H0 s0 d0=>?_⟩;refine ⟨_,rfl,v0,y,A.map Ln.tnS,B,rfl,d0,kt,dy.ts s0.ts,kb,λv1 H1 s1 d1=>?_⟩;refine ⟨v1,fq (A.map Ln.tnS) B,1,rfl,d1,few,λv2 H2 s2 d2=>?_⟩;exact ⟨v2,_,rfl,d2,co.k,co.u,co.c,λv3 H3 s3 d3=>q v3 H3 (((s0.trans s1).trans s2).trans s3) d3⟩
theorem zJ (T:au K mg "row_line" mB) (aU:mg "len"=none) (yY:Def P w K mg base 2 "leaf_line" ["word"] (rf K)) (ig:Def P w K mg base 1 "turned" ["line"] (mV K)) (oq:Def P w K mg base 1 "raised" ["line","by"] (qZ K)) (zc:Def P w K mg base 7 "fold_line" ["word","one","other"] (rj K)):Def P w K mg base 8 "row_line" ["row","lines"] (uv K):=by
 refine aO T pO (λ_ _ _ _ _ _=>L2.ar2 λ_ _=>rfl) ?_ ?_
 ·walk_at "i1";obtain ⟨x,l,g,us,Ls,F,rfl,_⟩:=h;rfl
 walk_at "i2";obtain ⟨x,l,g,us,Ls,F,rfl,gv,el,da,rl,q⟩:=h;have nd:=pO.nd;obtain ⟨a,rfl,e⟩:=gv.tup
 have at_:∀{i:Nat} {A:List St4},Ls[i]?=some A->∃ y,atI us (i:Int)=some y/\Dat K H (lnD A) y:=λ{i A} h=>by
  obtain ⟨y,hy,dy⟩:=da.get (i:=i) (d:=lnD A) (by rw [List.getElem?_map,h];rfl);exact ⟨y,cZ hy,dy⟩
 refine ⟨_,(ai (aY (aC bQ (aB aS rfl aU (by decide+kernel) (aa (pv 0) af)) ak (aH _)) (aj (aw (aD yY (hr.mono (by omega)) rfl (aa (aF aG (pv 0) ak (λ_ _=>rfl)) af)))) aI)
  (ai (aY (aC bQ (aB aS rfl aU (by decide+kernel) (aa (pv 0) af)) ak (aH _)) (aj (aw (aD oq (hr.mono (by omega)) rfl (aa (aD ig (hr.mono (by omega)) rfl (aa (aF bo (pv 1) (aF aG (pv 0) ak (λ_ _=>rfl)) (λ_ _=>rfl)) af)) (aa ak af))))) aI)
  (aj (aw (aD zc (hr.mono (by omega)) rfl (aa (aF aG (pv 0) ak (λ_ _=>rfl)) (aa (aF bo (pv 1) (aF aG (pv 0) ak (λ_ _=>rfl)) (λ_ _=>rfl)) (aa (aF bo (pv 1) (aF aG (pv 0) ak (λ_ _=>rfl)) (λ_ _=>rfl)) af)))))))),?_⟩
 cases g with
 | no i =>
  obtain ⟨A,hA,few,rfl⟩:=rl;obtain ⟨y,ay,dy⟩:=at_ hA;refine ⟨_,rfl,_,_,rfl,.inr ⟨_,SqT.of e,rfl⟩,rfl,_,rfl,pW (λz=>absurd (V.int.inj z) (show ¬ (((2:Nat):Int)=1) by decide)) ?_⟩;refine ⟨_,rfl,_,_,rfl,.inr ⟨_,SqT.of e,rfl⟩,rfl,_,rfl,ja rfl ?_⟩;refine ⟨_,rfl,_,rfl,_,_,_,_,rfl,rfl,SqT.of e,cZ (j:=1) rfl,_,_,_,_,rfl,rfl,SqL.of el,ay,y,A,rfl,dy,few,λv1 H1 s1 d1=>?_⟩;exact ⟨v1,A.map Ln.tnS,1,rfl,d1,by rw [List.length_map];exact few,λv2 H2 s2 d2=>q v2 H2 (s1.trans s2) d2⟩
 | fold u i j =>
  obtain ⟨A,B,hA,hB,ok,rfl⟩:=rl;obtain ⟨y,ay,dy⟩:=at_ hA;obtain ⟨z,az,dz⟩:=at_ hB;refine ⟨_,rfl,_,_,rfl,.inr ⟨_,SqT.of e,rfl⟩,rfl,_,rfl,pW (λz=>absurd (V.int.inj z) (show ¬ (((3:Nat):Int)=1) by decide)) ?_⟩;refine ⟨_,rfl,_,_,rfl,.inr ⟨_,SqT.of e,rfl⟩,rfl,_,rfl,pW (λz=>absurd (V.int.inj z) (show ¬ (((3:Nat):Int)=2) by decide)) ?_⟩;exact ⟨_,rfl,_,_,_,_,rfl,rfl,SqT.of e,at0,_,rfl,_,rfl,_,_,_,_,rfl,rfl,SqT.of e,cZ (j:=1) rfl,_,_,_,_,rfl,rfl,SqL.of el,ay,_,rfl,_,rfl,_,_,_,_,rfl,rfl,SqT.of e,cZ (j:=2) rfl,_,_,_,_,rfl,rfl,SqL.of el,az,u,y,z,A,B,rfl,dy,dz,ok,q⟩
 | ne =>
  have hF:F=uV .ne:=rl;subst hF;refine ⟨_,rfl,_,_,rfl,.inr ⟨_,SqT.of e,rfl⟩,rfl,_,rfl,ja rfl ?_⟩;exact ⟨_,rfl,_,_,_,_,rfl,rfl,SqT.of e,at0,.ne,rfl,rfl,q⟩
 | al =>
  have hF:F=uV .al:=rl;subst hF;refine ⟨_,rfl,_,_,rfl,.inr ⟨_,SqT.of e,rfl⟩,rfl,_,rfl,ja rfl ?_⟩;exact ⟨_,rfl,_,_,_,_,rfl,rfl,SqT.of e,at0,.al,rfl,rfl,q⟩
 | p =>
  have hF:F=uV .p:=rl;subst hF;refine ⟨_,rfl,_,_,rfl,.inr ⟨_,SqT.of e,rfl⟩,rfl,_,rfl,ja rfl ?_⟩;exact ⟨_,rfl,_,_,_,_,rfl,rfl,SqT.of e,at0,.p,rfl,rfl,q⟩
 | q =>
  have hF:F=uV .q:=rl;subst hF;refine ⟨_,rfl,_,_,rfl,.inr ⟨_,SqT.of e,rfl⟩,rfl,_,rfl,ja rfl ?_⟩;exact ⟨_,rfl,_,_,_,_,rfl,rfl,SqT.of e,at0,.q,rfl,rfl,q⟩
theorem xT (T:au K mg "last_line" jT) (AX:Def P w K mg base 8 "row_line" ["row","lines"] (uv K)):Def P w K mg base 9 "last_line" ["rows"] (mj K):=by
 refine aO T nk (λ_ _ _ _ _ _=>L2.ar1 λ_=>rfl) ?_ ?_
 ·walk_at "i1";obtain ⟨l,us,gs,Ls,F,rfl,_⟩:=h;rfl
 walk_at "i2";obtain ⟨l,us,gs,Ls,F,rfl,el,al,⟨hl2,tb⟩,hz,q⟩:=h;have nd:=nk.nd
 refine ⟨_,(ai (aJ (i:=1) nd rfl (Or.inl rfl) (bF af))
  (ai (cK PassesOwn.never rfl (fg (pv 0)) (aP (i:=2) nd rfl (Or.inl rfl)) (aj (bg (eO PySem.F.plainAttrs_list PySem.F.slot_list_append PySem.F.type_list_append bw (pv 1) (aa (aD AX (hr.mono (by omega)) rfl (aa (pv 2) (aa (pv 1) af))) af)))))
  (aj (aw (aF bo (pv 1) (fi cS ak) (λ_ _=>rfl)))))),?_⟩
 refine ⟨szA,λD hD=>?_⟩;have s1:=ao hD (.lst []);have hl1:=al.len;refine ⟨_,rfl,l,rfl,⟨_,SqL.of (s1 _ _ el)⟩,?_⟩
 refine gh (xs:=us) (λi σ H'=>aE H H'/\∃(ms:List V) (o:Option V),σ=[some (.ref l),some (.ref D),o]/\H' D=some (.lst ms)/\DatAll K H' (((Ls++[F]).take i).map lnD) ms)
  ⟨s1,[],_,rfl,ae,rfl⟩ (λi σ H' _ z=>SqL.of (z.1 _ _ el)) (λi v σ H' hv z=>?_) (λσ H' z=>?_)
 ·obtain ⟨sm,ms,o,rfl,eD,dm⟩:=z;obtain ⟨g,hg,gv⟩:=al.get i v hv;obtain ⟨x,hx,rl⟩:=tb i g hg;have hi:i < us.length:=(List.getElem?_eq_some_iff.mp hv).1;refine ⟨_,rfl,.inl ⟨rfl,_,SqL.of eD⟩,_,rfl,_,rfl,v,D,g,ms,_,_,rfl,RwV.to (Kp.of sm) _ _ gv,eD,dm,rl,λy H2 s2 dy=>?_⟩;have eD2:=s2 _ _ eD
  have lm:ms.length<=1000:=by
   rw [dm.len,List.length_map,List.length_take];omega
  refine ⟨D,_,_,rfl,rfl,eD2,Nat.lt_of_le_of_lt lm (by decide),?_⟩;have t2:Tst H2 (upd H2 D (.lst (ms++[y]))):=gO eD2;refine ⟨λb o hb=>by rw [aq (ax hb hD)];exact s2 _ _ (sm _ _ hb),ms++[y],_,rfl,ae,?_⟩;rw [List.take_add_one,hx,List.map_append];exact ((dm.ts s2.ts).ts t2).snoc (dy.ts t2)
 ·obtain ⟨sm,ms,o,rfl,eD,dm⟩:=z;rw [show us.length=(Ls++[F]).length by rw [hl1,hl2],List.take_length,List.map_append] at dm;have hlm:=dm.len
  obtain ⟨y,hy,dy⟩:=dm.get (i:=Ls.length) (d:=lnD F) (by
   rw [List.getElem?_append_right (by simp)];simp)
  have hm:ms.length=Ls.length+1:=by rw [hlm];simp
  refine ⟨_,rfl,_,rfl,_,_,_,y,rfl,rfl,SqL.of eD,?_,q y H' sm dy⟩;unfold atI ixN;rw [if_neg (by decide),if_pos (by omega)];show ms[((-1:Int)+(ms.length:Nat)).toNat]?=some y;rw [show ((-1:Int)+(ms.length:Nat)).toNat=Ls.length by omega];exact hy
theorem cutS (x:V) (us:List V):jd (x::us) (some 1) none=us:=by
 unfold jd
 rw [show _root_.HT.sIx (x::us).length 0 (some 1)=1 from by
  rw [show (some (1:Int))=some ((1:Nat):Int) from rfl,_root_.HT.vB,List.length_cons];omega,_root_.HT.ES]
 show List.take ((x::us).length - 1) us=us;rw [List.length_cons,Nat.add_sub_cancel,List.take_length]
theorem sl1 {K:W.Frag} {H:Hp} {a:Addr} {x:V} {us:List V} {Q:VK} (e:H a=some (.tup (x::us))) (h:∀ p,H p=none->Q (.ref p) (upd H p (.tup us))):rSlA K (.ref a) (some 1) none H Q:=by
 refine ⟨a,_,rfl,SqT.of e,λz=>?_,λ_ p=>?_⟩
 ·have hix0:_root_.HT.sIx (x::us).length 0 (some 1)=1:=by
   rw [show (some (1:Int))=some ((1:Nat):Int) from rfl,_root_.HT.vB,List.length_cons];omega
  exact absurd (hix0.symm.trans z) (by decide)
 ·intro hp';rw [cutS];exact h _ hp'
def spHow:Sp:=λvs H Q _=>∃(x:Str) (n:Int),vs=[.str x]/\PyProof.Rows.KTD.datumAt x TK=some n/\Q (.int n) H
def Bl:Sp:=λvs H Q _=>∃(i p:Int),vs=[.int i,.int p]/\0<=i/\i < p/\Q (.bl true) H
def Bj:Sp:=λvs H Q _=>∃(x:V) (k:Nat) (g:Gr),vs=[x,.int (k:Int)]/\GrV H x g/\oo k g/\k < 400/\∀ H',aE H H'->Q (.bl true) H'
def qv:Sp:=λvs H Q _=>∃(l:Addr) (us:List V) (gs:List Gr),vs=[.ref l]/\H l=some (.lst us)/\aZ (GrV H) us gs/\vp gs/\gs≠[]/\gs.length<=400/\∀ H',aE H H'->Q .non H'
theorem atW {ws:List Int} {i:Nat} (h:i < ws.length):atI (ws.map V.int) (i:Int)=some (.int (ws.getD i 0)):=cZ (by rw [List.getElem?_map,List.getD_eq_getElem?_getD,List.getElem?_eq_getElem h];rfl)
abbrev irN:List Str:=["thing","place"]
def irArg (s:Stmt):Expr:=match s with
 | .Return (some (.Call _ [e] _ _)) _=>e
 | _=>.Constant .none 0 ⟨0,0,0,0⟩
theorem zN (T:au K mg "is_whole" mE) (aX:mg "isinstance"=none) (vn:mg "int"=none) (pB:mg "bool"=none) (kb:PySem.W.kitOne K (.type "int") (.type "bool")=some false):Def P w K mg base 1 "is_whole" ["thing"] wV:=by
 refine aO T pQ (λ_ _ _ _ _ _=>L2.ar1 λ_=>rfl) ?_ ?_
 ·walk_at "i1";obtain ⟨i,rfl,_⟩:=h;rfl
 walk_at "i2";obtain ⟨i,rfl,q⟩:=h;have nd:=pQ.nd;refine ⟨_,(aj (aw (rZ (aB gj rfl aX (by decide+kernel) (aa (pv 0) (aa (gE (v:=V.ty "int") rfl vn (by decide+kernel) rfl) af))) (jr (Ft (aB gj rfl aX (by decide+kernel) (aa (pv 0) (aa (gE (v:=V.ty "bool") rfl pB (by decide+kernel) rfl) af)))))))),?_⟩;exact ⟨_,rfl,_,_,_,_,true,rfl,(λ_ h=>h),gI.int _,gf,_,rfl,fm ⟨_,rfl,_,_,_,_,false,rfl,(λ_ h=>h),gI.int _,kb,_,rfl,q⟩⟩
theorem EM:aA ["word"] ["word"] (ag dR):=L2.fsc rfl
theorem ok_how (T:au K mg "how_many_it_takes" dR) (wD:oh K mg "TAKEN" TK):Def P w K mg base 1 "how_many_it_takes" ["word"] spHow:=by
 refine aO T EM (λ_ _ _ _ _ _=>L2.ar1 λ_=>rfl) ?_ ?_
 ·walk_at "i1";obtain ⟨r,n,rfl,_⟩:=h;rfl
 walk_at "i2";obtain ⟨x,n,rfl,e,q⟩:=h;have nd:=EM.nd;refine ⟨_,(aj (aw (pe_tget wD rfl (pv 0) ⟨rfl,rfl,rfl,rfl⟩))),?_⟩;refine ⟨_,rfl,_,rfl,?_⟩;rw [e];exact q
theorem xF:aA irN ["thing","place"] (ag fD):=L2.fsc rfl
theorem FY (T:au K mg "is_place_ahead" fD) (AZ:Def P w K mg base 1 "is_whole" ["thing"] wV):Def P w K mg base 2 "is_place_ahead" ["thing","place"] Bl:=by
 refine aO T xF (λ_ _ _ _ _ _=>L2.ar2 λ_ _=>rfl) ?_ ?_
 ·walk_at "i1";obtain ⟨i,p,rfl,_⟩:=h;rfl
 walk_at "i2";obtain ⟨i,p,rfl,h0,h1,q⟩:=h;have nd:=xF.nd;refine ⟨_,(aj (aw (rZ (aD AZ (hr.mono (by decide)) rfl (aa (pv 0) af)) (jr (xN BF jE ak (pv 0) (pv 1)))))),?_⟩;refine ⟨_,rfl,i,rfl,_,rfl,fm ?_⟩;refine ⟨_,rfl,_,_,rfl,rfl,_,rfl,?_⟩;rw [if_pos (decide_eq_true h0)];refine ⟨_,rfl,_,_,rfl,rfl,?_⟩;show Q (.bl (decide (i < p))) H;rw [decide_eq_true h1];exact q
theorem xA:aA irN ["thing","place"] (ag gX):=L2.fsc rfl
theorem FT (T:au K mg "is_row" gX) (aX:mg "isinstance"=none) (bO:mg "tuple"=none) (aU:mg "len"=none) (vm:mg "str"=none) (vo:mg "all"=none) {tm:Tok} (kI:mg "MOST_ROWS"=some (.int 400 tm))
  (lT:Def P w K mg base 1 "how_many_it_takes" ["word"] spHow) (pH:Def P w K mg base 2 "is_place_ahead" ["thing","place"] Bl):Def P w K mg base 3 "is_row" ["thing","place"] Bj:=by
 refine aO T xA (λ_ _ _ _ _ _=>L2.ar2 λ_ _=>rfl) ?_ ?_
 ·walk_at "i1";obtain ⟨x,k,g,rfl,_⟩:=h;rfl
 walk_at "i2";obtain ⟨x,k,g,rfl,gv,go,hk,q⟩:=h;have nd:=xA.nd;have gl:=g.len;obtain ⟨a,rfl,e⟩:=gv.tup
 have cm:∃ te,PE (cR CX0 P w K mg base irN "is_row" (ag gX) f cdv A outer s H E).nox (irArg ((bf gX).getD 2 (.Pass ⟨0,0,0,0⟩))) te/\∀(Q':VK),(∀ D H4,aE H H4->H4 D=some (.lst (g.nums.map λ_=>.bl true))->Q' (.ref D) H4)->te [some (.ref a),some (.int (k:Int))] H Q':=by
  refine ⟨_,(iT rfl (iI (dh mZ (pv 0) (eC ak) eE)) rfl (by decide+kernel) (by decide+kernel) rfl (show L2.FrN _ (ag gX) by decide+kernel) (fW (j:=1) rfl (Or.inl rfl) (by decide+kernel) (Or.inl rfl) fL) (show (["index","place"]:List Str).Nodup by decide+kernel) (λ_ _ _ _=>ix) (λ_ _ _ _=>(aD pH (hr.mono (by decide)) rfl (aa (pv 0) (aa (pv 1) af))))),?_⟩;intro Q' fin;refine fM ?_;refine ⟨_,rfl,_,rfl,?_⟩;dsimp only [kO];refine sl1 (K:=K) e λp1 hp1=>?_;refine ⟨p1,rfl,⟨_,SqT.of ae⟩,?_⟩;have sp:=ao hp1 (.tup (g.nums.map λi:Nat=>V.int (i:Int)))
  refine lI (K:=K) (ts:=g.nums) (R:=λ_ v i=>v=V.int ((i:Nat):Int)) (xs:=g.nums.map λi:Nat=>V.int (i:Int)) (λ_=>.bl true) (λ_ _ v t _ h=>h) (λl H'=>l=p1/\H'=upd H p1 (.tup (g.nums.map λi:Nat=>V.int (i:Int)))) (λR h=>h p1 _ ⟨rfl,rfl⟩) (λl H' h=>by obtain ⟨rfl,rfl⟩:=h;exact ⟨ae,aE.refl _⟩) (by rw [List.length_map];omega)
   ?_ (λv i H' N hi hv hN=>?_) (λD H4 s4 hD eD=>fin D H4 (sp.trans s4) eD)
  ·generalize g.nums=is
   induction is with
   | nil=>exact .nil
   | cons i r ih=>exact .cons rfl ih
  ·subst hv;have:=go i hi;exact ⟨_,rfl,_,rfl,(i:Int),(k:Int),rfl,by omega,by omega,hN _ (aE.refl _)⟩
 obtain ⟨tC,htC,hqC⟩:=cm
 refine ⟨_,(ai (aY (PW.pt (nG (aC FH (pv 1) (dN (v:=V.int 400) rfl kI ⟨_,rfl⟩) (aH _)) (nG (ke (gq (aB DN rfl aX (by decide+kernel) (aa (pv 0) (aa (gE (v:=V.ty "tuple") rfl bO (by decide+kernel) rfl) af))))) (oP (aC bQ (aB aS rfl aU (by decide+kernel) (aa (pv 0) af)) ak (aH _)))))) (aj (aw nK)) aI)
  (ai (aY (PW.pt (nG (ke (gq (aB gj rfl aX (by decide+kernel) (aa (aF aG (pv 0) ak (λ_ _=>rfl)) (aa (gE (v:=V.ty "str") rfl vm (by decide+kernel) rfl) af))))) (oP (aC BE (aD lT (hr.mono (by decide)) rfl (aa (aF aG (pv 0) ak (λ_ _=>rfl)) af)) (aK du (aB aS rfl aU (by decide+kernel) (aa (pv 0) af)) ak) (aH _))))) (aj (aw nK)) aI)
  (aj (aw (aB (yJ rfl) rfl vo (by decide+kernel) (aa htC af)))))),?_⟩
 refine ⟨_,rfl,_,_,rfl,rfl,_,rfl,?_⟩;rw [decide_eq_false (show ¬ (400:Int)<=(k:Int) by omega)];refine cX ?_;refine ⟨_,rfl,a,_,_,_,true,rfl,(λ_ h=>h),SqT.of e,gf,_,rfl,cX ?_⟩;refine ⟨_,rfl,_,_,rfl,.inr ⟨_,SqT.of e,rfl⟩,rfl,_,rfl,?_⟩;rw [decide_eq_false (show ¬V.int (((V.str g.word::g.nums.map λi:Nat=>V.int (i:Int)).length:Nat):Int)=V.int 0 from λz=>by have:=V.int.inj z;rw [List.length_cons] at this;omega)];refine cX ?_;refine ⟨_,rfl,_,_,_,_,rfl,rfl,SqT.of e,at0,_,_,_,_,true,rfl,(λ_ h=>h),gI.str _,gf,_,rfl,cX ?_⟩;refine ⟨_,rfl,_,_,_,_,rfl,rfl,SqT.of e,at0,g.word,_,rfl,tk_of g,_,rfl,_,_,rfl,.inr ⟨_,SqT.of e,rfl⟩,_,_,rfl,rfl,rfl,_,rfl,?_⟩;refine GJ (congrArg V.int (by rw [List.length_cons,List.length_map];show (g.nums.length:Int)=_;omega)) ?_;refine hqC _ λD H4 s4 eD=>?_;refine ⟨D,g.nums.map λ_=>true,rfl,SqL.of (by rw [List.map_map];exact eD),?_⟩;rw [show (g.nums.map λ_=>true).all id=true by simp];exact q _ s4
abbrev rfN:List Str:=["things","place","thing"]
theorem xC:aA rfN ["things"] (ag jj):=L2.fsc rfl
theorem FV (T:au K mg "rows_fault" jj) (bu:mg "enumerate"=none) (aU:mg "len"=none) (HK:Def P w K mg base 3 "is_row" ["thing","place"] Bj):Def P w K mg base 4 "rows_fault" ["things"] qv:=by
 refine aO T xC (λ_ _ _ _ _ _=>L2.ar1 λ_=>rfl) ?_ ?_
 ·walk_at "i1";obtain ⟨l,us,gs,rfl,_⟩:=h;rfl
 walk_at "i2";obtain ⟨l,us,gs,rfl,el,al,ok,ne,few,q⟩:=h;have nd:=xC.nd;have lu:=al.len
 refine ⟨_,(ai (cK PassesOwn.never rfl (pi_enum rfl bu (pv 0)) (kh rfl (ba (aP (i:=1) nd rfl (Or.inl rfl)) (ba (aP (i:=2) nd rfl (Or.inl rfl)) fh))) (aj (aY (ke (gq (aD HK (hr.mono (by decide)) rfl (aa (pv 2) (aa (pv 1) af))))) (aj (aw (pv 1))) aI)))
  (aj (aw (iS (aC bQ (aB aS rfl aU (by decide+kernel) (aa (pv 0) af)) ak (aH _)) ak rX)))),?_⟩
 refine ⟨_,rfl,l,rfl,⟨us,SqL.of el⟩,?_⟩;refine GW (xs:=us) (λi σ H'=>aE H H'/\∃ o1 o2,σ=[some (.ref l),o1,o2]) ⟨λ_ _ z=>z,_,_,rfl⟩ (λi σ H' _ z=>SqL.of (z.1 _ _ el)) (λi v T' σ H' hv z hT=>?_) (λσ H' z=>?_)
 ·obtain ⟨sm,o1,o2,rfl⟩:=z;have uT:=ao hT (.tup [.int i,v]);have s2:=sm.trans uT;obtain ⟨g,hg,gv⟩:=al.get i v hv;have hi:i < us.length:=(List.getElem?_eq_some_iff.mp hv).1;refine ⟨T',_,rfl,SqT.of ae,rfl,_,_,rfl,_,_,rfl,rfl,?_⟩;refine ⟨_,rfl,_,rfl,v,i,g,rfl,RwV.to (Kp.of s2) _ _ gv,ok i g hg,by omega,λH3 s3=>⟨_,rfl,cX ?_⟩⟩;exact ⟨s2.trans s3,_,_,rfl⟩
 ·obtain ⟨sm,o1,o2,rfl⟩:=z;refine ⟨_,rfl,_,_,rfl,.inl ⟨_,SqL.of (sm _ _ el),rfl⟩,rfl,_,rfl,?_⟩
  rw [decide_eq_false (show ¬V.int ((us.length:Nat):Int)=V.int 0 from λz=>by
   have:=V.int.inj z;have:gs.length=0:=by omega
   exact ne (List.length_eq_zero_iff.mp this))]
  exact cX (q _ sm)
theorem Bq:aA ["things","at"] ["things"] (ag gU):=L2.fsc rfl
theorem ok_must (T:au K mg "must_be_rows" gU) (wG:Def P w K mg base 4 "rows_fault" ["things"] qv):Def P w K mg base 5 "must_be_rows" ["things"] qv:=by
 refine aO T Bq (λ_ _ _ _ _ _=>L2.ar1 λ_=>rfl) ?_ ?_
 ·walk_at "i1";obtain ⟨l,us,gs,rfl,_⟩:=h;rfl
 walk_at "i2";obtain ⟨l,us,gs,rfl,el,al,ok,ne,few,q⟩:=h;have nd:=Bq.nd
 refine ⟨_,(ai (aJ (i:=1) nd rfl (Or.inl rfl) (aD wG (hr.mono (by decide)) rfl (aa (pv 0) af)))
  (aj (aY (aC BD (pv 1) rX (aH _)) (aj nI) aI))),?_⟩
 exact ⟨_,rfl,l,us,gs,rfl,el,al,ok,ne,few,λH' s'=>⟨_,rfl,rfl,_,rfl,cX (q _ s')⟩⟩
def EC:Sp:=λvs H Q _=>∃(l:Addr) (us:List V) (rs:List Rw),vs=[.ref l]/\H l=some (.lst us)/\aZ (RwV H) us rs/\(∀ x∈rs,oj x)/\idx rs (eQ "q" [])=none/\∀ H',aE H H'->Q .non H'
theorem q_ok:oj (eQ "q" []):=iw (by decide+kernel)
theorem gr_ok (g:Gr):oj g.rw:=iw (by
 cases g with
 | fold u i j=>show PyData.strOk u.str=true;cases u <;> decide+kernel
 | no i=>show PyData.strOk "not"=true;decide+kernel
 | ne=>decide+kernel
 | al=>decide+kernel
 | p=>decide+kernel
 | q=>decide+kernel)
theorem aZ.of_map {α β γ:Type} {R:α->β->Prop} {f:γ->β}:∀{as:List α} {cs:List γ},aZ R as (cs.map f)->aZ (λa c=>R a (f c)) as cs
 | [],[],_=>.nil
 | _::_,[],h=>nomatch h
 | [],_::_,h=>nomatch h
 | _::_,_::_,.cons r t=>.cons r (aZ.of_map t)
theorem aZ.to_map {α β γ:Type} {R:α->β->Prop} {f:γ->β}:∀{as:List α} {cs:List γ},aZ (λa c=>R a (f c)) as cs->aZ R as (cs.map f)
 | [],[],_=>.nil
 | _::_,[],h=>nomatch h
 | [],_::_,h=>nomatch h
 | _::_,_::_,.cons r t=>.cons r (aZ.to_map t)
def Bi (K:W.Frag):Sp:=λvs H Q _=>∃(l:Addr) (us:List V) (gs:List Gr) (Ls:List (List St4)) (F:List St4),vs=[.ref l]/\H l=some (.lst us)/\aZ (GrV H) us gs/\vp gs/\gs.length<=400/\(∀ g∈gs,g≠.q)/\Cu gs (Ls++[F])/\∀ v H',aE H H'->Dat K H' (lnD F) v->Q v H'
theorem Gf {gs:List Gr} (h:∀ g∈gs,g≠.q):idx (gs.map Gr.rw) (eQ "q" [])=none:=by
 cases e:idx (gs.map Gr.rw) (eQ "q" []) with
 | none=>rfl
 | some i =>
  exfalso;have z:=wg e;rw [List.getElem?_map] at z;cases y:gs[i]? with
  | none=>rw [y] at z;cases z
  | some g =>
   rw [y] at z;exact h g (List.mem_of_getElem? y) (zA (k:=.q) (Option.some.inj z))
theorem ok_noQ (T:au K mg "must_be_without_q" dQ):Def P w K mg base 1 "must_be_without_q" ["rows"] EC:=by
 refine aO T fX (λ_ _ _ _ _ _=>L2.ar1 λ_=>rfl) ?_ ?_
 ·walk_at "i1";obtain ⟨l,us,rs,rfl,_⟩:=h;rfl
 walk_at "i2";obtain ⟨l,us,rs,rfl,el,al,ok,nq,q⟩:=h;have nd:=fX.nd;have hu:=hr.units;refine ⟨_,(aj (aY (aC (FG hu) (bE (aa aL af)) (pv 0) rfl) (aj nI) aI)),?_⟩;refine ⟨szB,λt ht=>?_⟩;have s1:=ao ht (.tup [V.str "q"]);have dq:Dat K (upd H t (.tup [V.str "q"])) (rwD (eQ "q" [])) (.ref t):=RwV.dat ⟨t,rfl,ae⟩;refine ⟨_,rfl,rwD (eQ "q" []),rs.map rwD,l,us,.inl dq,rfl,SqL.of (s1 _ _ el),(RwV.all al).ts s1.ts,vE ok,zy q_ok,Nat.le_trans (oO rs) (by decide),_,rfl,?_⟩;rw [Bw,nq];exact cX (q _ s1)
theorem FQ (T:au K mg "line_of_rows" gW) (tM:Def P w K mg base 5 "must_be_rows" ["things"] qv) (dW:Def P w K mg base 1 "must_be_without_q" ["rows"] EC) (kL:Def P w K mg base 9 "last_line" ["rows"] (mj K)):Def P w K mg base 10 "line_of_rows" ["rows"] (Bi K):=by
 refine aO T jB (λ_ _ _ _ _ _=>L2.ar1 λ_=>rfl) ?_ ?_
 ·walk_at "i1";obtain ⟨l,us,gs,Ls,F,rfl,_⟩:=h;rfl
 walk_at "i2";obtain ⟨l,us,gs,Ls,F,rfl,el,al,ok,few,nq,rl,q⟩:=h;have nd:=jB.nd
 have ne:gs≠[]:=λz=>by
  have:=rl.1;rw [z,List.length_append] at this;simp at this
 refine ⟨_,(ai (bg (aD tM (hr.mono (by omega)) rfl (aa (pv 0) af)))
  (ai (bg (aD dW (hr.mono (by omega)) rfl (aa (pv 0) af)))
  (aj (aw (aD kL (hr.mono (by omega)) rfl (aa (pv 0) af)))))),?_⟩
 refine ⟨_,rfl,l,us,gs,rfl,el,al,ok,ne,few,λH1 s1=>?_⟩;have al1:aZ (RwV H1) us (gs.map Gr.rw):=aZ.to_map (al.imp λv g z=>RwV.to (Kp.of s1) _ _ z);refine ⟨_,rfl,l,us,gs.map Gr.rw,rfl,s1 _ _ el,al1,?_,Gf nq,λH2 s2=>?_⟩
 ·intro x hx;obtain ⟨g,_,rfl⟩:=List.mem_map.mp hx;exact gr_ok g
 exact ⟨_,rfl,l,us,gs,Ls,F,rfl,s2 _ _ (s1 _ _ el),al.imp λv g z=>RwV.to (Kp.of (s1.trans s2)) _ _ z,rl,by omega,λv H3 s3 d3=>q v H3 ((s1.trans s2).trans s3) d3⟩
theorem GrV.to {H H':Hp} (e:Kp H H') (v:V) (g:Gr) (h:GrV H v g):GrV H' v g:=RwV.to e v _ h
theorem GrV.mk {H:Hp} {a:Addr} (g:Gr) (e:H a=some (.tup (.str g.word::g.nums.map λi:Nat=>.int (i:Int)))):GrV H (.ref a) g:=⟨a,rfl,by unfold Gr.rw;rw [qy];exact e⟩
theorem Hq {α:Type} (ys:List α) (y:α):atI (ys++[y]) (-1)=some y:=by
 unfold atI ixN;rw [if_neg (by decide),if_pos (by rw [List.length_append];simp;omega)];show (ys++[y])[((-1:Int)+((ys++[y]).length:Nat)).toNat]?=some y;rw [show ((-1:Int)+((ys++[y]).length:Nat)).toNat=ys.length by rw [List.length_append];simp;omega];simp
theorem Dy (ws:List Int) (h:ws≠[]):∃ ws' w,ws=ws'++[w]/\ws.getLastD 0=w:=by
 refine ⟨ws.dropLast,ws.getLast h,(List.dropLast_concat_getLast h).symm,?_⟩;rw [List.getLastD_eq_getLast?,List.getLast?_eq_some_getLast h];rfl
theorem uI:aA ["_law_word","_law_one","_law_other","_law_n"] ["_law_word","_law_one","_law_other","_law_n"] (ag ET):=L2.fsc rfl
def rm:Sp:=λvs H Q _=>∃(u:W5) (n x y:Int),vs=[.str u.str,.int x,.int y,.int n]/\Q (.int (u.worth n x y)) H
theorem Dl (T:au K mg "_law_fold" ET) (fv:mg "min"=none) (iC:mg "max"=none):Def P w K mg base 1 "_law_fold" ["_law_word","_law_one","_law_other","_law_n"] rm:=by
 refine aO T uI (λ_ _ _ _ _ _=>L2.ar4 λ_ _ _ _=>rfl) ?_ ?_
 ·walk_at "i1";obtain ⟨u,n,x,y,rfl,_⟩:=h;rfl
 walk_at "i2";obtain ⟨u,n,x,y,rfl,q⟩:=h;have nd:=uI.nd
 refine ⟨_,(ai (aY (aC bQ (pv 0) aL (aH _)) (aj (aw (aB (gN rfl) rfl fv (by decide+kernel) (aa (pv 3) (aa (aK bJ (pv 1) (pv 2)) af))))) aI)
  (ai (aY (aC bQ (pv 0) aL (aH _)) (aj (aw (aB (lJ rfl) rfl iC (by decide+kernel) (aa ak (aa (aK du (aK bJ (pv 1) (pv 2)) (pv 3)) af))))) aI)
  (ai (aY (aC bQ (pv 0) aL (aH _)) (aj (aw (aB (lJ rfl) rfl iC (by decide+kernel) (aa (pv 1) (aa (pv 2) af))))) aI)
  (ai (aY (aC bQ (pv 0) aL (aH _)) (aj (aw (aB (gN rfl) rfl fv (by decide+kernel) (aa (pv 1) (aa (pv 2) af))))) aI)
  (aj (aw (aB (gN rfl) rfl fv (by decide+kernel) (aa (pv 3) (aa (aK bJ (aK du (pv 3) (pv 1)) (pv 2)) af))))))))),?_⟩
 cases u
 ·refine ⟨_,rfl,rfl,_,rfl,ite_yes rfl ⟨_,rfl,_,rfl,_,rfl,_,_,rfl,rfl,_,_,rfl,?_⟩⟩;rw [oX,Int.min_comm];exact q
 ·refine ⟨_,rfl,rfl,_,rfl,ite_no (by decide+kernel) ⟨_,rfl,rfl,_,rfl,ite_yes rfl ⟨_,rfl,_,rfl,_,_,rfl,rfl,_,rfl,_,_,rfl,rfl,_,_,rfl,?_⟩⟩⟩;rw [vT,Int.max_comm];exact q
 ·refine ⟨_,rfl,rfl,_,rfl,ite_no (by decide+kernel) ⟨_,rfl,rfl,_,rfl,ite_no (by decide+kernel) ⟨_,rfl,rfl,_,rfl,ite_yes rfl ⟨_,rfl,_,rfl,_,_,rfl,?_⟩⟩⟩⟩;rw [vT];exact q
 ·refine ⟨_,rfl,rfl,_,rfl,ite_no (by decide+kernel) ⟨_,rfl,rfl,_,rfl,ite_no (by decide+kernel) ⟨_,rfl,rfl,_,rfl,ite_no (by decide+kernel) ⟨_,rfl,rfl,_,rfl,ite_yes rfl ⟨_,rfl,_,rfl,_,_,rfl,?_⟩⟩⟩⟩⟩;rw [oX];exact q
 ·refine ⟨_,rfl,rfl,_,rfl,ite_no (by decide+kernel) ⟨_,rfl,rfl,_,rfl,ite_no (by decide+kernel) ⟨_,rfl,rfl,_,rfl,ite_no (by decide+kernel) ⟨_,rfl,rfl,_,rfl,ite_no (by decide+kernel) ⟨_,rfl,_,rfl,_,rfl,_,_,rfl,rfl,_,rfl,_,_,rfl,rfl,_,_,rfl,?_⟩⟩⟩⟩⟩;rw [oX,Int.min_comm];exact q
def ur:Sp:=λvs H Q _=>∃(l:Addr) (us:List V) (gs:List Gr) (n x y:Int),vs=[.ref l,.int n,.int x,.int y]/\H l=some (.lst us)/\aZ (GrV H) us gs/\vp gs/\gs≠[]/\gs.length<=400/\∀ H',aE H H'->Q (.int (BU n x y gs)) H'
abbrev w14N:List Str:=["_law_rows","_law_n","_law_x","_law_y","_law_worths","_law_row_here"]
def iB (n x y:Int):List (Key×V):=[(.inr "never",.int 0),(.inr "always",.int n),(.inr "p",.int x),(.inr "q",.int y)]
theorem Hd (n x y:Int) (j:Str):cE (bX [] (iB n x y)) (Sum.inr j)=if (Sum.inr j:Key)=Sum.inr ("q":Str) then some (.int y) else if (Sum.inr j:Key)=Sum.inr ("p":Str) then some (.int x) else if (Sum.inr j:Key)=Sum.inr ("always":Str) then some (.int n) else if (Sum.inr j:Key)=Sum.inr ("never":Str) then some (.int 0) else none:=by
 show cE (putK (putK (putK (putK [] (Sum.inr ("never":Str):Key) (.int 0)) (Sum.inr ("always":Str)) (.int n)) (Sum.inr ("p":Str)) (.int x)) (Sum.inr ("q":Str)) (.int y)) (Sum.inr j)=_;rw [eS,eS,eS,eS];rfl
theorem lF (n x y:Int) (g:Gr) (h:g.nums=[]) (ws:List Int):cE (bX [] (iB n x y)) (.inr g.word)=some (.int (g.worth n x y ws)):=by
 rw [Hd];cases g with
 | no i=>cases h
 | fold u i j=>cases h
 | ne=>rw [if_neg (by decide+kernel),if_neg (by decide+kernel),if_neg (by decide+kernel),if_pos (by decide+kernel)];rfl
 | al=>rw [if_neg (by decide+kernel),if_neg (by decide+kernel),if_pos (by decide+kernel)];rfl
 | p=>rw [if_neg (by decide+kernel),if_pos (by decide+kernel)];rfl
 | q=>rw [if_pos (by decide+kernel)];rfl
theorem rA:aA w14N ["_law_rows","_law_n","_law_x","_law_y"] (ag oH):=L2.fsc rfl
theorem zF (T:au K mg "_law_worth" oH) (aU:mg "len"=none) (mP:Def P w K mg base 1 "_law_fold" ["_law_word","_law_one","_law_other","_law_n"] rm):Def P w K mg base 2 "_law_worth" ["_law_rows","_law_n","_law_x","_law_y"] ur:=by
 refine aO T rA (λ_ _ _ _ _ _=>L2.ar4 λ_ _ _ _=>rfl) ?_ ?_
 ·walk_at "i1";obtain ⟨l,us,gs,n,x,y,rfl,_⟩:=h;rfl
 walk_at "i2";obtain ⟨l,us,gs,n,x,y,rfl,el,al,ok,ne,few,q⟩:=h;have nd:=rA.nd;have lu:=al.len
 refine ⟨_,(ai (aJ (i:=4) nd rfl (Or.inl rfl) (bF af))
  (ai (cK PassesOwn.never rfl (fg (pv 0)) (aP (i:=5) nd rfl (Or.inl rfl)) (aj (aY (aC bQ (aB aS rfl aU (by decide+kernel) (aa (pv 5) af)) ak (aH _)) (aj (bg (eO PySem.F.plainAttrs_list PySem.F.slot_list_append PySem.F.type_list_append bw (pv 4) (aa (qE (yy hr) (BB (hI aL ak (hI aL (pv 1) (hI aL (pv 2) (hI aL (pv 3) Bz)))) rfl rfl (by intro z;cases z) (by decide)) (aF aG (pv 5) ak (λ_ _=>rfl)) (λ_ _=>rfl)) af)))) (aj (aY (aC bQ (aB aS rfl aU (by decide+kernel) (aa (pv 5) af)) ak (aH _)) (aj (bg (eO PySem.F.plainAttrs_list PySem.F.slot_list_append PySem.F.type_list_append bw (pv 4) (aa (aK du (pv 1) (aF bo (pv 4) (aF aG (pv 5) ak (λ_ _=>rfl)) (λ_ _=>rfl))) af)))) (aj (bg (eO PySem.F.plainAttrs_list PySem.F.slot_list_append PySem.F.type_list_append bw (pv 4) (aa (aD mP (hr.mono (by omega)) rfl (aa (aF aG (pv 5) ak (λ_ _=>rfl)) (aa (aF bo (pv 4) (aF aG (pv 5) ak (λ_ _=>rfl)) (λ_ _=>rfl)) (aa (aF bo (pv 4) (aF aG (pv 5) ak (λ_ _=>rfl)) (λ_ _=>rfl)) (aa (pv 1) af))))) af)))))))))
  (aj (aw (aF bo (pv 4) (fi cS ak) (λ_ _=>rfl)))))),?_⟩
 refine ⟨szA,λwl hw=>?_⟩;refine ⟨_,rfl,l,rfl,⟨us,SqL.of (ao hw _ _ _ el)⟩,?_⟩
 refine gh (xs:=us) (λi σ H3=>∃(o3:Option V),σ=[some (.ref l),some (.int n),some (.int x),some (.int y),some (.ref wl),o3]/\aE H H3/\H3 wl=some (.lst ((aR n x y (gs.take i) []).map V.int)))
  ⟨_,rfl,ao hw _,ae⟩ (λi σ H3 _ h=>?_) (λi v σ H3 hi h=>?_) (λσ H3 h=>?_)
 ·obtain ⟨o3,rfl,s3,_⟩:=h;exact SqL.of (s3 _ _ el)
 ·obtain ⟨o3,rfl,s3,ew⟩:=h;obtain ⟨g,hg,gv⟩:=al.get i v hi;have hil:i < us.length:=(List.getElem?_eq_some_iff.mp hi).1;have wl0:(aR n x y (gs.take i) []).length=i:=by rw [ip];simp;omega
  have go:=ok i g hg;have big:((aR n x y (gs.take i) []).map V.int).length < sizeLine:=by rw [List.length_map,wl0];exact Nat.lt_of_lt_of_le (show i < 400 by omega) (by decide)
  obtain ⟨r,rfl,e⟩:=(GrV.to (Kp.of s3) _ _ gv).tup
  have fin:∀(H4:Hp),aE H3 H4->∃(o3:Option V),[some (V.ref l),some (.int n),some (.int x),some (.int y),some (.ref wl),some (.ref r)]=[some (V.ref l),some (.int n),some (.int x),some (.int y),some (.ref wl),o3]/\aE H (upd H4 wl (.lst ((aR n x y (gs.take i) []).map V.int++[V.int (g.worth n x y (aR n x y (gs.take i) []))])))/\upd H4 wl (.lst ((aR n x y (gs.take i) []).map V.int++[V.int (g.worth n x y (aR n x y (gs.take i) []))])) wl=some (.lst ((aR n x y (gs.take (i+1)) []).map V.int)):=λH4 s4=>by
   refine ⟨_,rfl,bp (s3.trans s4) hw _,?_⟩;rw [ae,vq n x y gs i g hg,List.map_append];rfl
  refine ⟨_,rfl,_,_,rfl,.inr ⟨_,SqT.of e,rfl⟩,rfl,_,rfl,?_⟩;cases g with
  | no i' =>
   have hi':i' < (aR n x y (gs.take i) []).length:=by rw [wl0];exact go i' (by simp [Gr.nums])
   refine pW (λz=>by have:=V.int.inj z;simp [Gr.nums] at this) ?_;refine ⟨_,rfl,_,_,rfl,.inr ⟨_,SqT.of e,rfl⟩,rfl,_,rfl,ja rfl ?_⟩;refine ⟨_,rfl,.inl ⟨rfl,_,SqL.of ew⟩,_,rfl,_,rfl,_,rfl,_,_,_,_,rfl,rfl,SqT.of e,rfl,_,_,_,_,rfl,rfl,SqL.of ew,atW hi',_,_,rfl,rfl,wl,_,_,rfl,rfl,ew,big,?_⟩;exact fin _ (aE.refl _)
  | fold u i' j' =>
   have hi':i' < (aR n x y (gs.take i) []).length:=by rw [wl0];exact go i' (by simp [Gr.nums])
   have hj':j' < (aR n x y (gs.take i) []).length:=by rw [wl0];exact go j' (by simp [Gr.nums])
   refine pW (λz=>by have:=V.int.inj z;simp [Gr.nums] at this) ?_;refine ⟨_,rfl,_,_,rfl,.inr ⟨_,SqT.of e,rfl⟩,rfl,_,rfl,pW (λz=>by have:=V.int.inj z;simp [Gr.nums] at this) ?_⟩;refine ⟨_,rfl,.inl ⟨rfl,_,SqL.of ew⟩,_,rfl,_,_,_,_,rfl,rfl,SqT.of e,at0,_,rfl,_,rfl,_,_,_,_,rfl,rfl,SqT.of e,rfl,_,_,_,_,rfl,rfl,SqL.of ew,atW hi',_,rfl,_,rfl,_,_,_,_,rfl,rfl,SqT.of e,rfl,_,_,_,_,rfl,rfl,SqL.of ew,atW hj',_,rfl,u,n,_,_,rfl,wl,_,_,rfl,rfl,ew,big,?_⟩;exact fin _ (aE.refl _)
  | ne =>
   refine ja rfl ?_;refine ⟨_,rfl,.inl ⟨rfl,_,SqL.of ew⟩,λdp hdp=>?_⟩;have sd:=ao hdp (.dK []);have se:aE H3 (upd (upd H3 dp (.dK [])) dp (.dK (bX [] (iB n x y)))):=bp sd hdp _;have hv:=lF n x y .ne rfl (aR n x y (gs.take i) []);refine ⟨_,rfl,_,rfl,_,rfl,ae,iB n x y,rfl,(by show 4<=15;decide),_,rfl,_,_,_,_,rfl,rfl,SqT.of (se _ _ e),at0,dp,_,rfl,(by have z:=jh.k (H:=upd (upd H3 dp (.dK [])) dp (.dK (bX [] (iB n x y)))) (k:=.inr (Gr.word .ne)) ae;rw [hv] at z;exact z),wl,_,_,rfl,rfl,se _ _ ew,big,?_⟩;exact fin _ se
  | al =>
   refine ja rfl ?_;refine ⟨_,rfl,.inl ⟨rfl,_,SqL.of ew⟩,λdp hdp=>?_⟩;have sd:=ao hdp (.dK []);have se:aE H3 (upd (upd H3 dp (.dK [])) dp (.dK (bX [] (iB n x y)))):=bp sd hdp _;have hv:=lF n x y .al rfl (aR n x y (gs.take i) []);refine ⟨_,rfl,_,rfl,_,rfl,ae,iB n x y,rfl,(by show 4<=15;decide),_,rfl,_,_,_,_,rfl,rfl,SqT.of (se _ _ e),at0,dp,_,rfl,(by have z:=jh.k (H:=upd (upd H3 dp (.dK [])) dp (.dK (bX [] (iB n x y)))) (k:=.inr (Gr.word .al)) ae;rw [hv] at z;exact z),wl,_,_,rfl,rfl,se _ _ ew,big,?_⟩;exact fin _ se
  | p =>
   refine ja rfl ?_;refine ⟨_,rfl,.inl ⟨rfl,_,SqL.of ew⟩,λdp hdp=>?_⟩;have sd:=ao hdp (.dK []);have se:aE H3 (upd (upd H3 dp (.dK [])) dp (.dK (bX [] (iB n x y)))):=bp sd hdp _;have hv:=lF n x y .p rfl (aR n x y (gs.take i) []);refine ⟨_,rfl,_,rfl,_,rfl,ae,iB n x y,rfl,(by show 4<=15;decide),_,rfl,_,_,_,_,rfl,rfl,SqT.of (se _ _ e),at0,dp,_,rfl,(by have z:=jh.k (H:=upd (upd H3 dp (.dK [])) dp (.dK (bX [] (iB n x y)))) (k:=.inr (Gr.word .p)) ae;rw [hv] at z;exact z),wl,_,_,rfl,rfl,se _ _ ew,big,?_⟩;exact fin _ se
  | q =>
   refine ja rfl ?_;refine ⟨_,rfl,.inl ⟨rfl,_,SqL.of ew⟩,λdp hdp=>?_⟩;have sd:=ao hdp (.dK []);have se:aE H3 (upd (upd H3 dp (.dK [])) dp (.dK (bX [] (iB n x y)))):=bp sd hdp _;have hv:=lF n x y .q rfl (aR n x y (gs.take i) []);refine ⟨_,rfl,_,rfl,_,rfl,ae,iB n x y,rfl,(by show 4<=15;decide),_,rfl,_,_,_,_,rfl,rfl,SqT.of (se _ _ e),at0,dp,_,rfl,(by have z:=jh.k (H:=upd (upd H3 dp (.dK [])) dp (.dK (bX [] (iB n x y)))) (k:=.inr (Gr.word .q)) ae;rw [hv] at z;exact z),wl,_,_,rfl,rfl,se _ _ ew,big,?_⟩;exact fin _ se
 ·obtain ⟨o3,rfl,s3,ew⟩:=h;rw [lu,List.take_length] at ew
  have hne:aR n x y gs []≠[]:=λz=>by
   have:=ip n x y gs [];rw [z] at this;simp at this;exact ne (List.length_eq_zero_iff.mp this.symm)
  obtain ⟨ws',w0,e1,e2⟩:=Dy _ hne;rw [e1,List.map_append] at ew;refine ⟨_,rfl,_,rfl,_,_,_,_,rfl,rfl,SqL.of ew,Hq _ _,?_⟩;have:=q H3 s3;unfold BU at this;rw [e2] at this;exact this
end Mine
set_option maxHeartbeats 1000000
namespace Mine
open Ln
def hS (a b p q:Int):Int:=min (max (a*p+b*q) 0) q
def Ab (a b first near steep:Int):List St4:=
 (if 0 < near then [⟨Lo.dw near steep,Lo.di near steep,0,first⟩] else [])++[⟨Lo.dw (near+1) steep,Lo.di (near+1) steep,a,b⟩]++(if near+1 < steep then [⟨1,1,0,1 - first⟩] else [])
def bj (a b:Int):List St4:=
 if a=0 then St1 (min 1 (max 0 b))
 else
  let first:Int:=if a < 0 then 1 else 0
  let near:Int:=if a < 0 then b - 1 else -b
  let steep:Int:=if a < 0 then -a else a
  if steep<=near then St1 first else if near < 0 then St1 (1 - first) else Ab a b first near steep
def okBb (s:St4):Bool:=decide (0 < s.p) && decide (s.p<=s.q) && decide (Lo.gc s.p s.q=1) && decide (s.q.natAbs < 2 ^ 10) && decide (s.m.natAbs < 2 ^ 10) && decide (s.h.natAbs < 2 ^ 10)
def chB:List St4->Bool
 | []=>true
 | [_]=>true
 | s::t::r=>decide (s.p*t.q < t.p*s.q) && decide ((t.m - s.m)*s.p+(t.h - s.h)*s.q=0) && decide (t.m≠s.m) && chB (t::r)
def endB (L:List St4):Bool:=match L.getLast? with | some s=>decide (s.p=1) && decide (s.q=1) | none=>false
def vW (L:List St4):Bool:=L.all okBb && chB L && endB L
theorem ch_of:∀{L:List St4},chB L=true->Ch L
 | [],_=>trivial
 | [_],_=>trivial
 | s::t::r,h=>by
  have h':(decide (s.p*t.q < t.p*s.q) && decide ((t.m - s.m)*s.p+(t.h - s.h)*s.q=0) && decide (t.m≠s.m) && chB (t::r))=true:=h;rw [Bool.and_eq_true,Bool.and_eq_true,Bool.and_eq_true] at h';exact ⟨⟨of_decide_eq_true h'.1.1.1,of_decide_eq_true h'.1.1.2,of_decide_eq_true h'.1.2⟩,ch_of h'.2⟩
theorem uU {L:List St4} (h:vW L=true):aM 10 L:=by
 unfold vW at h;rw [Bool.and_eq_true,Bool.and_eq_true] at h;refine ⟨λs hs=>?_,ch_of h.1.2,?_⟩
 ·have o:=List.all_eq_true.mp h.1.1 s hs;unfold okBb at o;simp only [Bool.and_eq_true,decide_eq_true_eq] at o;exact ⟨o.1.1.1.1.1,o.1.1.1.1.2,o.1.1.1.2,o.1.1.2,o.1.2,o.2⟩
 ·have e:=h.2;unfold endB at e;cases z:L.getLast? with
  | none=>rw [z] at e;cases e
  | some s =>
   rw [z] at e;simp only [Bool.and_eq_true,decide_eq_true_eq] at e;exact ⟨s,z,e.1,e.2⟩
def midUp (s n:Nat):List St4:=Ab (s:Int) (-(n:Int)) 0 n s
def midDn (s n:Nat):List St4:=Ab (-(s:Int)) ((n:Int)+1) 1 n s
theorem mids:∀ s∈List.range 13,∀ n∈List.range 13,n < s->vW (midUp s n)=true/\vW (midDn s n)=true:=by decide+kernel
theorem qI {t b p q:Int} (hb:0 < b):Lo.dw t b*q < p*Lo.di t b↔t*q < p*b:=by
 have e1:=Lo.iy t b;have e2:=Lo.gG t b;have g:=Lo.EI (t:=t) hb;generalize Lo.sg t b=s at e1 e2 g;generalize Lo.dw t b=T at e1;generalize Lo.di t b=B at e2;subst e1 e2;have h1:s*T*q=s*(T*q):=by grind
 have h2:p*(s*B)=s*(p*B):=by grind
 rw [h1,h2];exact ⟨λh=>Int.mul_lt_mul_of_pos_left h g,λh=>Int.lt_of_mul_lt_mul_left h (Int.le_of_lt g)⟩
theorem Gu {a b first near steep p q:Int} (hs:0 < steep) (n0:0<=near) (n1:near < steep) (hq:0 < q) (h0:0<=p) (hpq:p<=q)
  (c:(a=steep/\b = -near/\first=0)\/(a = -steep/\b=near+1/\first=1)):hAt (Ab a b first near steep) p q=hS a b p q:=by
 have lastOk:near+1 < steep\/near+1=steep:=by omega
 have e3:pk [(⟨1,1,0,1 - first⟩:St4)] p q=some ⟨1,1,0,1 - first⟩:=aV (s:=⟨1,1,0,1 - first⟩) (by show ¬1*q < p*1;omega);have xy:(near+1)*q=near*q+q:=by grind
 have val:a*p+b*q=if first=0 then steep*p - near*q else near*q+q - steep*p:=by
  rcases c with ⟨rfl,rfl,rfl⟩ | ⟨rfl,rfl,rfl⟩
  ·rw [if_pos rfl];grind
  ·rw [if_neg (by decide)];grind
 have sp:p*steep=steep*p:=Int.mul_comm _ _;have X0:0<=steep*p:=Int.mul_nonneg (by omega) h0;have Y0:0<=near*q:=Int.mul_nonneg n0 (by omega);have X1:steep*p<=steep*q:=Int.mul_le_mul_of_nonneg_left hpq (by omega);have fst:first=0\/first=1:=by rcases c with ⟨_,_,h⟩ | ⟨_,_,h⟩ <;> omega
 have val1:first=0->a*p+b*q=steep*p - near*q:=λh=>by rw [val,if_pos h]
 have val2:first=1->a*p+b*q=near*q+q - steep*p:=λh=>by rw [val,if_neg (by omega)]
 have tail:(near*q < p*steep\/near=0)->hAt ([(⟨Lo.dw (near+1) steep,Lo.di (near+1) steep,a,b⟩:St4)]++(if near+1 < steep then [⟨1,1,0,1 - first⟩] else [])) p q=hS a b p q:=by
  intro hn
  by_cases k:(near+1)*q < p*steep
  ·have hlt:near+1 < steep:=by
    rcases lastOk with z | z
    ·exact z
    ·rw [z] at k;omega
   rw [if_pos hlt]
   have e:pk ([(⟨Lo.dw (near+1) steep,Lo.di (near+1) steep,a,b⟩:St4)]++[⟨1,1,0,1 - first⟩]) p q=some ⟨1,1,0,1 - first⟩:=by
    show pk (_::[_]) p q=_;rw [bq (s:=⟨Lo.dw (near+1) steep,Lo.di (near+1) steep,a,b⟩) ((qI hs).mpr k),e3]
   rw [cy e];show 0*p+(1 - first)*q=_;unfold hS;rcases fst with h | h
   ·rw [val1 h,h];omega
   ·rw [val2 h,h];omega
  ·have e:pk ([(⟨Lo.dw (near+1) steep,Lo.di (near+1) steep,a,b⟩:St4)]++(if near+1 < steep then [⟨1,1,0,1 - first⟩] else [])) p q=some ⟨Lo.dw (near+1) steep,Lo.di (near+1) steep,a,b⟩:=by
    show pk (_::_) p q=_;exact aV (s:=⟨Lo.dw (near+1) steep,Lo.di (near+1) steep,a,b⟩) (λz=>k ((qI hs).mp z))
   rw [cy e];show a*p+b*q=_;unfold hS;rcases fst with h | h
   ·rw [val1 h];rcases hn with hn | hn
    ·omega
    ·subst hn;omega
   ·rw [val2 h];rcases hn with hn | hn
    ·omega
    ·subst hn;omega
 unfold Ab
 by_cases hn:0 < near
 ·rw [if_pos hn]
  by_cases k:near*q < p*steep
  ·have e:∀ R,pk ([(⟨Lo.dw near steep,Lo.di near steep,0,first⟩:St4)]++R) p q=pk R p q:=λR=>bq (s:=⟨Lo.dw near steep,Lo.di near steep,0,first⟩) ((qI hs).mpr k);have t:=tail (.inl k);unfold hAt at t ⊢;rw [List.append_assoc,e];exact t
  ·have e:∀ R,pk ([(⟨Lo.dw near steep,Lo.di near steep,0,first⟩:St4)]++R) p q=some ⟨Lo.dw near steep,Lo.di near steep,0,first⟩:=λR=>aV (s:=⟨Lo.dw near steep,Lo.di near steep,0,first⟩) (λz=>k ((qI hs).mp z));rw [List.append_assoc,cy (e _)];show 0*p+first*q=_
   unfold hS;rcases fst with h | h
   ·rw [val1 h,h];omega
   ·rw [val2 h,h];omega
 ·rw [if_neg hn,List.nil_append];exact tail (.inr (by omega))
theorem BM {a b first near steep:Int}:∀ s∈Ab a b first near steep,s.m=0\/s.m=a:=by
 intro s hs;unfold Ab at hs;rcases List.mem_append.mp hs with hs | hs
 ·rcases List.mem_append.mp hs with hs | hs
  ·by_cases h:0 < near
   ·rw [if_pos h] at hs;rw [List.mem_singleton.mp hs];exact .inl rfl
   ·rw [if_neg h] at hs;cases hs
  ·rw [List.mem_singleton.mp hs];exact .inr rfl
 ·by_cases h:near+1 < steep
  ·rw [if_pos h] at hs;rw [List.mem_singleton.mp hs];exact .inl rfl
  ·rw [if_neg h] at hs;cases hs
theorem hS_inn {a b p q:Int} (hq:0 < q):0<=hS a b p q/\hS a b p q<=q:=by unfold hS;omega
theorem iW {a b p q:Int} (hq:0 < q) (h0:0<=p) (hpq:p<=q):hAt (bj a b) p q=hS a b p q:=by
 unfold bj
 by_cases ha:a=0
 ·subst ha;rw [if_pos rfl,gm hpq];unfold hS;rw [Int.zero_mul,Int.zero_add]
  by_cases hb:1<=b
  ·have:q<=b*q:=by have:=Int.mul_le_mul_of_nonneg_right hb (Int.le_of_lt hq);omega
   rw [show min 1 (max 0 b)=1 by omega];omega
  ·have:b*q<=0:=Int.mul_nonpos_of_nonpos_of_nonneg (by omega) (by omega);rw [show min 1 (max 0 b)=0 by omega];omega
 ·rw [if_neg ha]
  by_cases neg:a < 0
  ·simp only [if_pos neg];have e:a*p+b*q=b*q - (-a)*p:=by grind
   have X1:(-a)*p<=(-a)*q:=Int.mul_le_mul_of_nonneg_left hpq (by omega);have X0:0<=(-a)*p:=Int.mul_nonneg (by omega) h0
   by_cases c1:-a<=b - 1
   ·rw [if_pos c1,gm hpq];have:(-a)*q<=(b - 1)*q:=Int.mul_le_mul_of_nonneg_right c1 (by omega);have e2:(b - 1)*q=b*q - q:=by grind
    unfold hS;rw [e];omega
   ·rw [if_neg c1]
    by_cases c2:b - 1 < 0
    ·rw [if_pos c2,gm hpq];have:b*q<=0:=Int.mul_nonpos_of_nonpos_of_nonneg (by omega) (by omega);unfold hS;rw [e];omega
    ·rw [if_neg c2];exact Gu (by omega) (by omega) (by omega) hq h0 hpq (.inr ⟨by omega,by omega,rfl⟩)
  ·simp only [if_neg neg];have X1:a*p<=a*q:=Int.mul_le_mul_of_nonneg_left hpq (by omega);have X0:0<=a*p:=Int.mul_nonneg (by omega) h0
   by_cases c1:a<=-b
   ·rw [if_pos c1,gm hpq];have:a*q<=(-b)*q:=Int.mul_le_mul_of_nonneg_right c1 (by omega);have e2:(-b)*q = -(b*q):=by grind
    unfold hS;omega
   ·rw [if_neg c1]
    by_cases c2:-b < 0
    ·rw [if_pos c2,gm hpq];have:q<=b*q:=by have:=Int.mul_le_mul_of_nonneg_right (show 1<=b by omega) (Int.le_of_lt hq);omega
     unfold hS;omega
    ·rw [if_neg c2];exact Gu (by omega) (by omega) (by omega) hq h0 hpq (.inl ⟨rfl,by omega,rfl⟩)
theorem nO {a b:Int} (h:a.natAbs<=12):Gd a.natAbs (bj a b):=by
 have inn:Inn (bj a b):=λp q hq h0 hpq=>by rw [iW hq h0 hpq];exact hS_inn hq
 have st0:∀{h:Int},h=0\/h=1->aM 10 (St1 h)/\Slp a.natAbs (St1 h):=λhh=>⟨(Ew hh).b,(rq _).mono (Nat.zero_le _)⟩
 suffices k:aM 10 (bj a b)/\Slp a.natAbs (bj a b) from ⟨k.1,k.2,inn⟩
 unfold bj
 by_cases ha:a=0
 ·rw [if_pos ha];exact st0 (by omega)
 ·rw [if_neg ha]
  by_cases neg:a < 0
  ·simp only [if_pos neg]
   by_cases c1:-a<=b - 1
   ·rw [if_pos c1];exact st0 (.inr rfl)
   ·rw [if_neg c1]
    by_cases c2:b - 1 < 0
    ·rw [if_pos c2];exact st0 (.inl rfl)
    ·rw [if_neg c2];have m:=(mids a.natAbs (List.mem_range.mpr (by omega)) (b - 1).toNat (List.mem_range.mpr (by omega)) (by omega)).2;unfold midDn at m;rw [show -(a.natAbs:Int)=a by omega,show (((b - 1).toNat:Nat):Int)=b - 1 by omega,show b - 1+1=b by omega,show (a.natAbs:Int) = -a by omega] at m;exact ⟨uU m,λs hs=>by rcases BM s hs with z | z <;> rw [z] <;> omega⟩
  ·simp only [if_neg neg]
   by_cases c1:a<=-b
   ·rw [if_pos c1];exact st0 (.inl rfl)
   ·rw [if_neg c1]
    by_cases c2:-b < 0
    ·rw [if_pos c2];exact st0 (.inr rfl)
    ·rw [if_neg c2];have m:=(mids a.natAbs (List.mem_range.mpr (by omega)) (-b).toNat (List.mem_range.mpr (by omega)) (by omega)).1;unfold midUp at m;rw [show ((a.natAbs:Nat):Int)=a by omega,show (((-b).toNat:Nat):Int) = -b by omega,show - -b=b by omega] at m;exact ⟨uU m,λs hs=>by rcases BM s hs with z | z <;> rw [z] <;> omega⟩
def iX (up:Bool):List St4:=if up=true then fZ else lineNo fZ
def letE (up:Bool):Int:=if up=true then 1 else -1
def lN (up:Bool):Int:=if up=true then 0 else 1
theorem letS_gd (up:Bool):Gd 1 (iX up)/\∀ p q,0 < q->0<=p->p<=q->hAt (iX up) p q=letE up*p+lN up*q:=by
 cases up with
 | true=>exact ⟨FC,λp q hq h0 hpq=>by show hAt fZ p q=1*p+0*q;rw [FD hpq];omega⟩
 | false =>
  obtain ⟨_,g,at_⟩:=kj FC (by decide);exact ⟨g,λp q hq h0 hpq=>by show hAt (lineNo fZ) p q = -1*p+1*q;rw [at_ p q hq h0 hpq,FD hpq];omega⟩
theorem hS_step {a b e d p q:Int} (hq:0 < q) (hl0:0<=e*p+d*q) (hl1:e*p+d*q<=q):max (min (hS a b p q+(e*p+d*q)) q+hS a (b+1) p q - q) 0=hS (a+e) (b+d) p q:=by
 unfold hS;have e1:(a+e)*p+(b+d)*q=(a*p+b*q)+(e*p+d*q):=by grind
 have e2:a*p+(b+1)*q=(a*p+b*q)+q:=by grind
 rw [e1,e2];generalize a*p+b*q=x;generalize e*p+d*q=y at *;clear e1 e2
 rcases Int.lt_or_le x 0 with h|h
 ·rw [Int.max_eq_right (Int.le_of_lt h),Int.min_eq_left (Int.le_of_lt hq),Int.zero_add,Int.min_eq_left hl1,Int.min_eq_left (show max (x+q) 0<=q from Int.max_le.2 ⟨by omega,by omega⟩),Int.min_eq_left (show max (x+y) 0<=q from Int.max_le.2 ⟨by omega,by omega⟩)]
  rcases Int.lt_or_le (x+q) 0 with g|g
  ·rw [Int.max_eq_right (Int.le_of_lt g),Int.max_eq_right (show y+0-q<=0 by omega),Int.max_eq_right (show x+y<=0 by omega)]
  rw [Int.max_eq_left g,show y+(x+q)-q=x+y by omega]
 rw [Int.max_eq_left h,Int.max_eq_left (show 0<=x+q by omega),Int.min_eq_right (show q<=x+q by omega),Int.add_sub_cancel,Int.max_eq_left (show 0<=x+y by omega)]
 rcases Int.le_total x q with g|g
 ·rw [Int.min_eq_left g,Int.max_eq_left (Int.le_min.2 ⟨by omega,by omega⟩)]
 rw [Int.min_eq_right g,Int.min_eq_right (show q<=q+y by omega),Int.max_eq_left (Int.le_of_lt hq),Int.min_eq_right (show q<=x+y by omega)]
theorem stepS {a b:Int} {up:Bool} (h:a.natAbs<=11) (hs:(a+letE up).natAbs<=12) :
  tJ .more (bj a b) (iX up)/\tJ .less (dO .more (bj a b) (iX up)) (bj a (b+1))/\dO .less (dO .more (bj a b) (iX up)) (bj a (b+1))=bj (a+letE up) (b+lN up)/\
  (∀ p q,0 < q->0<=p->p<=q->hAt (dO .more (bj a b) (iX up)) p q=W5.worth .more q (hAt (bj a b) p q) (hAt (iX up) p q))/\
  (∀ p q,0 < q->0<=p->p<=q->hAt (bj (a+letE up) (b+lN up)) p q=W5.worth .less q (hAt (dO .more (bj a b) (iX up)) p q) (hAt (bj a (b+1)) p q)):=by
 have ga:=nO (a:=a) (b:=b) (by omega);have gb:=nO (a:=a) (b:=b+1) (by omega);obtain ⟨gl,hl⟩:=letS_gd up;obtain ⟨f1,g1,h1⟩:=fK .more ga gl (show a.natAbs+1<=25 by omega);obtain ⟨f2,g2,h2⟩:=fK .less g1 gb (show a.natAbs+1+a.natAbs<=25 by omega)
 have key:dO .less (dO .more (bj a b) (iX up)) (bj a (b+1))=bj (a+letE up) (b+lN up):=by
  refine yp g2.b (nO (a:=a+letE up) (b:=b+lN up) hs).b λp q hq h0 hpq=>?_;rw [h2 p q hq h0 hpq,h1 p q hq h0 hpq,iW hq h0 hpq,iW hq h0 hpq,iW hq h0 hpq,hl p q hq h0 hpq];have z:=gl.at hq h0 hpq;rw [hl p q hq h0 hpq] at z;exact hS_step hq z.1 z.2
 exact ⟨f1,f2,key,h1,λp q hq h0 hpq=>by rw [<- key];exact h2 p q hq h0 hpq⟩
end Mine
set_option maxHeartbeats 4000000
namespace Mine
open PySem L2
structure SR (gs:List Gr) (Ls:List (List St4)):Prop where
 rl:Cu gs Ls
 ok:vp gs
 nq:∀ g∈gs,g≠.q
 wo:∀ n x,0 < n->0<=x->x<=n->aR n x 0 gs []=Ls.map λF=>hAt F x n
theorem SR.nil:SR [] []:=⟨⟨rfl,(λ_ _ h=>nomatch h)⟩,(λ_ _ h=>nomatch h),(λ_ h=>nomatch h),λ_ _ _ _ _=>rfl⟩
theorem SR.push {gs:List Gr} {Ls:List (List St4)} {g:Gr} {F:List St4} (h:SR gs Ls) (rl:yU Ls F g) (go:oo gs.length g) (nq:g≠.q) (w:∀ n x,0 < n->0<=x->x<=n->g.worth n x 0 (Ls.map λF=>hAt F x n)=hAt F x n):SR (gs++[g]) (Ls++[F]):=by
 have len:=h.rl.1;refine ⟨⟨by simp [len],λi g' hg=>?_⟩,λi g' hg=>?_,λg' hg=>?_,λn x h1 h2 h3=>?_⟩
 ·rcases Nat.lt_or_ge i gs.length with z | z
  ·rw [List.getElem?_append_left z] at hg;obtain ⟨F',e,r⟩:=h.rl.2 i g' hg;refine ⟨F',by rw [List.getElem?_append_left (by omega)];exact e,?_⟩;rw [List.take_append_of_le_length (by omega)];exact r
  ·rw [List.getElem?_append_right z] at hg;have e0:i - gs.length=0:=by have:=(List.getElem?_eq_some_iff.mp hg).1;simp at this;omega
   rw [e0] at hg;cases hg
   have ei:i=Ls.length:=by omega
   subst ei;refine ⟨F,by simp,?_⟩;rw [List.take_append_of_le_length (Nat.le_refl _),List.take_length];exact rl
 ·rcases Nat.lt_or_ge i gs.length with z | z
  ·rw [List.getElem?_append_left z] at hg;exact h.ok i g' hg
  ·rw [List.getElem?_append_right z] at hg;have e0:i - gs.length=0:=by have:=(List.getElem?_eq_some_iff.mp hg).1;simp at this;omega
   rw [e0] at hg;cases hg
   have ei:i=gs.length:=by omega
   subst ei;exact go
 ·rcases List.mem_append.mp hg with hg | hg
  ·exact h.nq g' hg
  ·rw [List.mem_singleton.mp hg];exact nq
 ·rw [mS,h.wo n x h1 h2 h3,List.map_append,w n x h1 h2 h3];rfl
theorem hZ {Ls:List (List St4)} {i:Nat} {F:List St4} (h:Ls[i]?=some F) (x n:Int):(Ls.map λF=>hAt F x n).getD i 0=hAt F x n:=by
 rw [List.getD_eq_getElem?_getD,List.getElem?_map,h];rfl
theorem SR.last {gs:List Gr} {Ls:List (List St4)} {F:List St4} (h:SR gs (Ls++[F])) {n x:Int} (h1:0 < n) (h2:0<=x) (h3:x<=n):BU n x 0 gs=hAt F x n:=by
 unfold BU;rw [h.wo n x h1 h2 h3,List.map_append];simp
abbrev cn (ns:List Nat):List V:=ns.map λi:Nat=>V.int (i:Int)
theorem vP {ns:List Nat} {k i:Nat} (h:ns[k]?=some i):atI (cn ns) (k:Int)=some (.int (i:Int)):=cZ (by rw [List.getElem?_map,h];rfl)
theorem keep {Ls:List (List St4)} (E:List (List St4)) {j:Nat} {F:List St4} (h:Ls[j]?=some F):(Ls++E)[j]?=some F:=by
 rw [List.getElem?_append_left (List.getElem?_eq_some_iff.mp h).1];exact h
structure St30 (H H':Hp) (r st p:Addr) (us0:Nat) (Ls0:List (List St4)) (ns ms:List Nat) (L:Nat) (a b:Int) (up:Bool) (us:List V) (gs:List Gr) (Ls:List (List St4)):Prop where
 sb:SB (.ref r) H H'
 hr:H' r=some (.lst us)
 hs:H' st=some (.lst (cn ms))
 hp:H' p=some (.lst (cn ns))
 al:aZ (GrV H') us gs
 sr:SR gs Ls
 kp:∀(j:Nat) (F:List St4),Ls0[j]?=some F->Ls[j]?=some F
 lu:us.length=us0+2*ms.length
 pl:∀(k i:Nat),ms[k]?=some i->Ls[i]?=some (bj (a+letE up) (b+lN up+k))
 la:ms≠[]->∃ i,ms.getLast?=some i/\i+1=us.length
def uu:Sp:=λvs H Q _=>∃(r p:Addr) (us:List V) (gs:List Gr) (Ls:List (List St4)) (ns:List Nat) (L:Nat) (a b:Int) (up:Bool),vs=[.ref r,.ref p,.int (L:Int)]/\r≠p/\H r=some (.lst us)/\aZ (GrV H) us gs/\SR gs Ls/\H p=some (.lst (cn ns))/\1<=ns.length/\ns.length<=13/\us.length<=300/\Ls[L]?=some (iX up)/\
 (∀(k i:Nat),ns[k]?=some i->Ls[i]?=some (bj a (b+k)))/\a.natAbs<=11/\(a+letE up).natAbs<=12/\
 ∀(l:Addr) (ms:List Nat) (us':List V) (gs':List Gr) (Ls':List (List St4)) (H':Hp),H l=none->ms.length+1=ns.length->St30 H H' r l p us.length Ls ns ms L a b up us' gs' Ls'->Q (.ref l) H'
variable {P:Program} {w:World} {K:W.Frag} {mg:Str->Option Value} {base:Heap}
theorem zI (T:au K mg "put_steeper" iF) (aU:mg "len"=none) (cx:mg "range"=none):Def P w K mg base 1 "put_steeper" ["rows","places","letter"] uu:=by
 refine aO T jL (λ_ _ _ _ _ _=>L2.ar3 λ_ _ _=>rfl) ?_ ?_
 ·walk_at "i1";obtain ⟨r,p,us,gs,Ls,ns,L,a,b,up,rfl,_⟩:=h;rfl
 walk_at "i2";obtain ⟨r,p,us,gs,Ls,ns,L,a,b,up,rfl,nrp,hr0,al0,sr0,hp0,n1,n13,few,hL,pl0,a11,a12,q⟩:=h;have nd:=jL.nd;have ln:(cn ns).length=ns.length:=List.length_map _
 refine ⟨_,(ai (aJ (i:=3) nd rfl (Or.inl rfl) (bF af))
  (ai (cK PassesOwn.never rfl (gL rfl cx (aa (aK du (aB aS rfl aU (by decide+kernel) (aa (pv 1) af)) ak) af)) (aP (i:=4) nd rfl (Or.inl rfl)) (ai (bg (eO PySem.F.plainAttrs_list PySem.F.slot_list_append PySem.F.type_list_append bw (pv 0) (aa (bE (aa aL (aa (aF bo (pv 1) (pv 4) (λ_ _=>rfl)) (aa (pv 2) af)))) af)))
  (ai (bg (eO PySem.F.plainAttrs_list PySem.F.slot_list_append PySem.F.type_list_append bw (pv 0) (aa (bE (aa aL (aa (aK du (aB aS rfl aU (by decide+kernel) (aa (pv 0) af)) ak) (aa (aF bo (pv 1) (aK bJ (pv 4) ak) (λ_ _=>rfl)) af)))) af)))
  (aj (bg (eO PySem.F.plainAttrs_list PySem.F.slot_list_append PySem.F.type_list_append bw (pv 3) (aa (aK du (aB aS rfl aU (by decide+kernel) (aa (pv 0) af)) ak) af)))))))
  (aj (aw (pv 3))))),?_⟩
 refine ⟨szA,λst hst=>?_⟩;have u0:=ao hst (.lst []);have nsr:st≠r:=λz=>by rw [z,hr0] at hst;cases hst
 have nsp:st≠p:=λz=>by rw [z,hp0] at hst;cases hst
 refine ⟨_,rfl,_,_,rfl,.inl ⟨_,SqL.of (u0 _ _ hp0),rfl⟩,_,_,rfl,rfl,_,rfl,by omega,by omega,?_⟩
 refine jb (λi σ H'=>∃(o4:Option V) (ms:List Nat) (us':List V) (gs':List Gr) (Ls':List (List St4)),σ=[some (.ref r),some (.ref p),some (.int (L:Int)),some (.ref st),o4]/\ms.length=i/\St30 H H' r st p us.length Ls ns ms L a b up us' gs' Ls')
  ⟨_,[],us,gs,Ls,rfl,rfl,⟨SB.of u0,u0 _ _ hr0,ae,u0 _ _ hp0,al0.imp (GrV.to (Kp.of u0)),sr0,λ_ _ h=>h,by simp,(λ_ _ h=>nomatch h),λz=>absurd rfl z⟩⟩ (λi σ H' hi z=>?_) (λσ H' z=>?_)
 ·obtain ⟨o4,ms,us',gs',Ls',rfl,lm,S⟩:=z;have i1:i+1 < ns.length:=by omega
  have e0:(0:Int)+(i:Int)=(i:Int):=by omega
  rw [e0];have x1:ns[i]?=some ns[i]:=List.getElem?_eq_getElem (by omega);have x2:ns[i+1]?=some ns[i+1]:=List.getElem?_eq_getElem i1;have A1:=S.kp _ _ (pl0 i _ x1);have A2:=S.kp _ _ (pl0 (i+1) _ x2);have AL:=S.kp _ _ hL;have lg:=S.al.len;have lr:=S.sr.rl.1;obtain ⟨f1,f2,key,h1,h2⟩:=stepS (a:=a) (b:=b+(i:Int)) (up:=up) a11 a12;have lus:=S.lu;refine ⟨_,rfl,.inl ⟨rfl,_,SqL.of S.hr⟩,_,rfl,_,rfl,_,_,_,_,rfl,rfl,SqL.of S.hp,vP x1,_,rfl,szD,λt1 ht1=>?_⟩;have v1:=ao ht1 (.tup [.str "more",.int (ns[i]:Int),.int (L:Int)]);refine ⟨r,us',_,rfl,rfl,v1 _ _ S.hr,fA (by omega),?_⟩
  have g1:oo gs'.length (.fold .more ns[i] L):=λx hx=>by
   have:x=ns[i]\/x=L:=by simpa [Gr.nums] using hx
   have b1:=(List.getElem?_eq_some_iff.mp A1).1;have b2:=(List.getElem?_eq_some_iff.mp AL).1;rcases this with rfl | rfl <;> omega
  have s1:SR (gs'++[.fold .more ns[i] L]) (Ls'++[dO .more (bj a (b+(i:Int))) (iX up)]):=S.sr.push ⟨_,_,A1,AL,f1,rfl⟩ g1 (by intro z;cases z) λn x z1 z2 z3=>by
   show W5.worth .more n _ _=_;rw [hZ A1,hZ AL,h1 x n z1 z2 z3]
  have hr2:upd (upd H' t1 (.tup [.str "more",.int (ns[i]:Int),.int (L:Int)])) r (.lst (us'++[.ref t1])) r=some (.lst (us'++[.ref t1])):=ae;have hp2:upd (upd H' t1 (.tup [.str "more",.int (ns[i]:Int),.int (L:Int)])) r (.lst (us'++[.ref t1])) p=some (.lst (cn ns)):=by rw [aq (Ne.symm nrp)];exact v1 _ _ S.hp
  have hs2:upd (upd H' t1 (.tup [.str "more",.int (ns[i]:Int),.int (L:Int)])) r (.lst (us'++[.ref t1])) st=some (.lst (cn ms)):=by rw [aq nsr];exact v1 _ _ S.hs
  have sb2:SB (.ref r) H (upd (upd H' t1 (.tup [.str "more",.int (ns[i]:Int),.int (L:Int)])) r (.lst (us'++[.ref t1]))):=(S.sb.trans (SB.of v1)).trans (mw _ _);have k2:Kp (upd H' t1 (.tup [.str "more",.int (ns[i]:Int),.int (L:Int)])) (upd (upd H' t1 (.tup [.str "more",.int (ns[i]:Int),.int (L:Int)])) r (.lst (us'++[.ref t1]))):=cW (v1 _ _ S.hr) rfl;have al2:aZ (GrV (upd (upd H' t1 (.tup [.str "more",.int (ns[i]:Int),.int (L:Int)])) r (.lst (us'++[.ref t1])))) (us'++[.ref t1]) (gs'++[.fold .more ns[i] L]):=((S.al.imp (GrV.to (Kp.of v1))).imp (GrV.to k2)).app (.cons (GrV.to k2 _ _ (GrV.mk (.fold .more ns[i] L) ae)) .nil);generalize upd (upd H' t1 (.tup [.str "more",.int (ns[i]:Int),.int (L:Int)])) r (.lst (us'++[.ref t1]))=H2 at hr2 hp2 hs2 sb2 al2 ⊢;have c1:((i:Int)+1)=((i+1:Nat):Int):=by omega
  have c2:((((us'++[V.ref t1]).length:Nat):Int) - 1)=((us'.length:Nat):Int):=by simp
  refine ⟨_,rfl,.inl ⟨rfl,_,SqL.of hr2⟩,_,rfl,_,_,rfl,.inl ⟨_,SqL.of hr2,rfl⟩,_,_,rfl,rfl,_,rfl,_,rfl,_,_,rfl,rfl,_,_,_,_,rfl,rfl,SqL.of hp2,(by rw [c1];exact vP x2),szD,λt2 ht2=>?_⟩;dsimp only;rw [c2];have v2:=ao ht2 (.tup [.str "less",.int (us'.length:Int),.int (ns[i+1]:Int)]);refine ⟨r,_,_,rfl,rfl,v2 _ _ hr2,fA (by simp;omega),?_⟩
  have M1:(Ls'++[dO .more (bj a (b+(i:Int))) (iX up)])[us'.length]?=some (dO .more (bj a (b+(i:Int))) (iX up)):=by
   rw [show us'.length=Ls'.length by omega];simp
  have A2':(Ls'++[dO .more (bj a (b+(i:Int))) (iX up)])[ns[i+1]]?=some (bj a (b+(i:Int)+1)):=by
   have:=keep [dO .more (bj a (b+(i:Int))) (iX up)] A2;rw [this];congr 2;omega
  have g2:oo (gs'++[Gr.fold .more ns[i] L]).length (.fold .less us'.length ns[i+1]):=λx hx=>by
   have:x=us'.length\/x=ns[i+1]:=by simpa [Gr.nums] using hx
   have b2:=(List.getElem?_eq_some_iff.mp A2).1;rw [List.length_append];rcases this with rfl | rfl
   ·simp;omega
   ·simp;omega
  have s2:SR (gs'++[.fold .more ns[i] L]++[.fold .less us'.length ns[i+1]]) (Ls'++[dO .more (bj a (b+(i:Int))) (iX up)]++[bj (a+letE up) (b+(i:Int)+lN up)]):=s1.push ⟨_,_,M1,A2',f2,key.symm⟩ g2 (by intro z;cases z) λn x z1 z2 z3=>by
   show W5.worth .less n _ _=_;rw [hZ M1,hZ A2',h2 x n z1 z2 z3]
  have hr3:upd (upd H2 t2 (.tup [.str "less",.int (us'.length:Int),.int (ns[i+1]:Int)])) r (.lst (us'++[.ref t1]++[.ref t2])) r=some (.lst (us'++[.ref t1]++[.ref t2])):=ae;have hp3:upd (upd H2 t2 (.tup [.str "less",.int (us'.length:Int),.int (ns[i+1]:Int)])) r (.lst (us'++[.ref t1]++[.ref t2])) p=some (.lst (cn ns)):=by rw [aq (Ne.symm nrp)];exact v2 _ _ hp2
  have hs3:upd (upd H2 t2 (.tup [.str "less",.int (us'.length:Int),.int (ns[i+1]:Int)])) r (.lst (us'++[.ref t1]++[.ref t2])) st=some (.lst (cn ms)):=by rw [aq nsr];exact v2 _ _ hs2
  have sb3:SB (.ref r) H (upd (upd H2 t2 (.tup [.str "less",.int (us'.length:Int),.int (ns[i+1]:Int)])) r (.lst (us'++[.ref t1]++[.ref t2]))):=(sb2.trans (SB.of v2)).trans (mw _ _);have k3:Kp (upd H2 t2 (.tup [.str "less",.int (us'.length:Int),.int (ns[i+1]:Int)])) (upd (upd H2 t2 (.tup [.str "less",.int (us'.length:Int),.int (ns[i+1]:Int)])) r (.lst (us'++[.ref t1]++[.ref t2]))):=cW (v2 _ _ hr2) rfl;have al3:aZ (GrV (upd (upd H2 t2 (.tup [.str "less",.int (us'.length:Int),.int (ns[i+1]:Int)])) r (.lst (us'++[.ref t1]++[.ref t2])))) (us'++[.ref t1]++[.ref t2]) (gs'++[.fold .more ns[i] L]++[.fold .less us'.length ns[i+1]]):=((al2.imp (GrV.to (Kp.of v2))).imp (GrV.to k3)).app (.cons (GrV.to k3 _ _ (GrV.mk (.fold .less us'.length ns[i+1]) ae)) .nil);generalize upd (upd H2 t2 (.tup [.str "less",.int (us'.length:Int),.int (ns[i+1]:Int)])) r (.lst (us'++[.ref t1]++[.ref t2]))=H3 at hr3 hp3 hs3 sb3 al3 ⊢;have c3:((((us'++[V.ref t1]++[V.ref t2]).length:Nat):Int) - 1)=((us'.length+1:Nat):Int):=by simp;omega
  refine ⟨_,rfl,.inl ⟨rfl,_,SqL.of hs3⟩,_,rfl,_,_,rfl,.inl ⟨_,SqL.of hr3,rfl⟩,_,_,rfl,rfl,st,_,_,rfl,rfl,hs3,fA (by simp;omega),?_⟩;dsimp only;rw [c3];have k4:Kp H3 (upd H3 st (.lst (cn ms++[.int ((us'.length+1:Nat):Int)]))):=cW hs3 rfl;have kpm:∀(j:Nat) (F:List St4),Ls[j]?=some F->(Ls'++[dO .more (bj a (b+(i:Int))) (iX up)]++[bj (a+letE up) (b+(i:Int)+lN up)])[j]?=some F:=λj F h=>keep _ (keep _ (S.kp j F h));refine ⟨_,ms++[us'.length+1],us'++[.ref t1]++[.ref t2],_,_,rfl,by simp [lm],?_,?_,?_,?_,al3.imp (GrV.to k4),s2,kpm,by simp;omega,λk j hk=>?_,λ_=>⟨us'.length+1,by simp,by simp⟩⟩
  ·exact λc o hc nc=>by rw [aq (ax hc hst)];exact sb3 c o hc nc
  ·rw [aq (Ne.symm nsr)];exact hr3
  ·rw [ae];simp [cn]
  ·rw [aq (Ne.symm nsp)];exact hp3
  ·rcases Nat.lt_or_ge k ms.length with z | z
   ·rw [List.getElem?_append_left z] at hk;exact keep _ (keep _ (S.pl k j hk))
   ·rw [List.getElem?_append_right z] at hk;have ek:k - ms.length=0:=by have:=(List.getElem?_eq_some_iff.mp hk).1;simp at this;omega
    rw [ek] at hk;cases hk
    have e5:k=i:=by omega
    subst e5;rw [show us'.length+1=(Ls'++[dO .more (bj a (b+(k:Int))) (iX up)]).length by simp;omega];rw [List.getElem?_concat_length];congr 2;omega
 ·obtain ⟨o4,ms,us',gs',Ls',rfl,lm,S⟩:=z;exact ⟨_,rfl,q st ms us' gs' Ls' H' hst (by omega) S⟩
theorem mK (b:Int):bj 0 b=St1 (((if 1<=b then 1 else 0:Nat)):Int):=by
 unfold bj;rw [if_pos rfl];congr 1
 by_cases h:1<=b
 ·rw [if_pos h];show min 1 (max 0 b)=1;omega
 ·rw [if_neg h];show min 1 (max 0 b)=0;omega
structure Rs30 (H H':Hp) (l:Addr) (sl h:Int) (us:List V) (gs:List Gr) (Ls:List (List St4)):Prop where
 sm:aE H H'
 fr:H l=none
 el:H' l=some (.lst us)
 al:aZ (GrV H') us gs
 sr:SR gs (Ls++[bj sl h])
 few:us.length<=4+sl.natAbs*(sl.natAbs+1)
theorem SR.ne {gs:List Gr} {Ls:List (List St4)} (h:SR gs Ls):SR (gs++[.ne]) (Ls++[St1 0]):=h.push rfl (λx hx=>nomatch hx) (by intro z;cases z) λn x z1 z2 z3=>by rw [gm z3];show (0:Int)=_;omega
theorem SR.al' {gs:List Gr} {Ls:List (List St4)} (h:SR gs Ls):SR (gs++[.al]) (Ls++[St1 1]):=h.push rfl (λx hx=>nomatch hx) (by intro z;cases z) λn x z1 z2 z3=>by rw [gm z3];show n=_;omega
theorem SR.pp {gs:List Gr} {Ls:List (List St4)} (h:SR gs Ls):SR (gs++[.p]) (Ls++[fZ]):=h.push rfl (λx hx=>nomatch hx) (by intro z;cases z) λn x z1 z2 z3=>by rw [FD z3];rfl
def gs3:List Gr:=[.ne,.al,.p]
def Ls3:List (List St4):=[St1 0,St1 1,fZ]
theorem sr3:SR gs3 Ls3:=SR.nil.ne.al'.pp
def gs4:List Gr:=[.ne,.al,.p,.no 2]
def Ls4:List (List St4):=[St1 0,St1 1,fZ,lineNo fZ]
theorem sr4:SR gs4 Ls4:=by
 obtain ⟨_,g,at_⟩:=kj FC (by decide);refine sr3.push (g:=.no 2) ⟨fZ,rfl,by decide,rfl⟩ (λx hx=>?_) (by intro z;cases z) λn x z1 z2 z3=>?_
 ·have:x=2:=by simpa [Gr.nums] using hx
  subst this;decide
 ·rw [at_ x n z1 z2 z3];show n - ((Ls3.map λF=>hAt F x n).getD 2 0)=_;rw [hZ (F:=fZ) rfl]
theorem Ej {f:Nat->Nat} {ys:List V} {l:List Nat} (h:aZ (λv i=>v=V.int ((f i:Nat):Int)) ys l):ys=cn (l.map f):=by
 induction h with
 | nil=>rfl
 | cons r _ ih=>rw [r,ih];rfl
theorem BR {Ls:List (List St4)} {i:Nat} {F:List St4} (h:Ls[i]?=some F) (e:i+1=Ls.length):Ls=Ls.take i++[F]:=by
 have:=List.take_append_drop i Ls
 have d:Ls.drop i=[F]:=by
  obtain ⟨hi,z⟩:=List.getElem?_eq_some_iff.mp h;rw [List.drop_eq_getElem_cons hi,z,List.drop_eq_nil_of_le (by omega)]
 rw [d] at this;exact this.symm
structure Wh30 (H H':Hp) (r p:Addr) (us:List V) (gs:List Gr) (Ls:List (List St4)) (ns:List Nat) (s n L:Nat) (b:Int) (up:Bool):Prop where
 sm:aE H H'
 rp:r≠p
 er:H' r=some (.lst us)
 ep:H' p=some (.lst (cn ns))
 al:aZ (GrV H') us gs
 sr:SR gs Ls
 hL:Ls[L]?=some (iX up)
 cnt:s+ns.length=n+1
 pos:1<=ns.length
 few:us.length+(n - s)*(n - s+1)<=4+n*(n+1)
 pl:∀(k i:Nat),ns[k]?=some i->Ls[i]?=some (bj ((s:Int)*letE up) (b+(s:Int)*lN up+k))
 la:1<=s->∃ i,ns.getLast?=some i/\i+1=us.length
def xc:Sp:=λvs H Q _=>∃ h:Int,vs=[.int h]/\∀(l:Addr) (us:List V) (gs:List Gr) (Ls:List (List St4)) (H':Hp),Rs30 H H' l 0 h us gs Ls->Q (.ref l) H'
def mW:Sp:=λvs H Q _=>∃ sl h:Int,vs=[.int sl,.int h]/\sl.natAbs<=12/\∀(l:Addr) (us:List V) (gs:List Gr) (Ls:List (List St4)) (H':Hp),Rs30 H H' l sl h us gs Ls->Q (.ref l) H'
theorem Dm (T:au K mg "flat_rows" jY):Def P w K mg base 1 "flat_rows" ["height"] xc:=by
 refine aO T nz (λ_ _ _ _ _ _=>L2.ar1 λ_=>rfl) ?_ ?_
 ·walk_at "i1";obtain ⟨h,rfl,_⟩:=h;rfl
 walk_at "i2";obtain ⟨h,rfl,q⟩:=h;have nd:=nz.nd;have sz:∀ n:Nat,n<=100->n<=sizeLine:=λn h=>Nat.le_trans h (by decide);refine ⟨_,(aj (aw (iS (aC FH (pv 0) ak (aH _)) (bF (aa (bE (aa aL af)) af)) (bF (aa (bE (aa aL af)) af))))),?_⟩;refine ⟨_,rfl,_,_,rfl,rfl,_,rfl,?_⟩;refine cQ (λc=>?_) (λc=>?_)
 ·have c:1<=h:=of_decide_eq_true c;refine ⟨sz 1 (by decide),λp hp=>⟨sz 1 (by decide),λl hl=>?_⟩⟩;have u1:=ao hp (.tup [V.str "always"]);have u2:=ao hl (.lst [V.ref p]);refine q l _ [.al] [] _ ⟨u1.trans u2,u1.free hl,ae,.cons (GrV.mk .al (u2 _ _ ae)) .nil,?_,by simp⟩;rw [mK,if_pos c];exact SR.nil.al'
 ·have c:¬1<=h:=λz=>c (decide_eq_true z);refine ⟨sz 1 (by decide),λp hp=>⟨sz 1 (by decide),λl hl=>?_⟩⟩;have u1:=ao hp (.tup [V.str "never"]);have u2:=ao hl (.lst [V.ref p]);refine q l _ [.ne] [] _ ⟨u1.trans u2,u1.free hl,ae,.cons (GrV.mk .ne (u2 _ _ ae)) .nil,?_,by simp⟩;rw [mK,if_neg c];exact SR.nil.ne
theorem tU (T:au K mg "straight_rows" bV) (iD:mg "abs"=none) (aU:mg "len"=none) (cx:mg "range"=none) {tm:Tok} (dG:mg "STEEPEST_straights"=some (.int 12 tm)) (zd:Def P w K mg base 1 "flat_rows" ["height"] xc) (ui:Def P w K mg base 1 "put_steeper" ["rows","places","letter"] uu):Def P w K mg base 2 "straight_rows" ["slope","height"] mW:=by
 refine aO T iO (λ_ _ _ _ _ _=>L2.ar2 λ_ _=>rfl) ?_ ?_
 ·walk_at "i1";obtain ⟨sl,h,rfl,_⟩:=h;rfl
 walk_at "i2";obtain ⟨sl,h,rfl,sl12,q⟩:=h;have nd:=iO.nd;have sz:∀ n:Nat,n<=100->n<=sizeLine:=λn h=>Nat.le_trans h (by decide)
 have t5:∃ t,om (cR CX0 P w K mg base jF "straight_rows" (ag bV) f cdv A outer s H E).nox ((bf bV).drop 5) t/\∀(r:Addr) (up:Bool) (us:List V) (gs:List Gr) (Ls:List (List St4)) (b:Int) (o4 o5:Option V) (H1:Hp),aE H H1->H r=none->H1 r=some (.lst us)->aZ (GrV H1) us gs->SR gs Ls->1<=us.length->us.length<=4->Ls[us.length - 1]?=some (iX up)->Ls[0]?=some (St1 0)->Ls[1]?=some (St1 1)->sl≠0->sl=(sl.natAbs:Int)*letE up->h=b+(sl.natAbs:Int)*lN up->
   t {nx:=λ_ H'=>Q .non H',rt:=Q} [some (.int sl),some (.int h),some (.ref r),some (.int b),o4,o5] H1:=by
  refine ⟨_,⟨(ai (aJ (i:=4) nd rfl (Or.inl rfl) (aK du (aB aS rfl aU (by decide+kernel) (aa (pv 2) af)) ak))
  (ai (vG (i:=5) nd rfl (Or.inl rfl) (Or.inl rfl) rfl rfl (gL rfl cx (aa (aK bJ (aB je rfl iD (by decide+kernel) (aa (pv 0) af)) ak) af)) rfl (by decide+kernel) (by decide+kernel) rfl (show L2.FrN _ (ag bV) by decide+kernel) (fW (j:=3) rfl (Or.inl rfl) (by decide+kernel) (Or.inl rfl) fL) (show (["k","lowest"]:List Str).Nodup by decide+kernel) (λ_ _ _ _=>ix) (λ_ _ _ _=>(iS (aC FH (aK bJ (pv 1) (pv 0)) ak (aH _)) ak ak)))
  (ai (kg PassesOwn.never (aC hU (aB aS rfl aU (by decide+kernel) (aa (pv 5) af)) ak (aH _)) (aj (aJ (i:=5) nd rfl (Or.inl rfl) (aD ui (hr.mono (by omega)) rfl (aa (pv 2) (aa (pv 5) (aa (pv 4) af)))))))
  (aj (aw (pv 2))))))⟩,?_⟩
  intro r up us gs Ls b o4 o5 H1 s1 hr0 er al sr l1 l4 hL h0 h1 ne es eh;refine ⟨_,rfl,_,_,rfl,.inl ⟨_,SqL.of er,rfl⟩,_,_,rfl,rfl,?_⟩;dsimp only [pZ,tSeq,wO,List.set];have en:((if sl < 0 then -sl else sl)+1).toNat=sl.natAbs+1:=by by_cases c:sl < 0 <;> simp only [c,if_true,if_false] <;> omega
  have em:(if sl < 0 then -sl else sl)<=12:=by by_cases c:sl < 0 <;> simp only [c,if_true,if_false] <;> omega
  refine yH (lo:=0) (n:=((if sl < 0 then -sl else sl)+1).toNat) (λ_ v i=>v=V.int (((if 1<=b+(i:Int) then 1 else 0:Nat)):Int)) (λ_ _ _ _ _ _ _ h=>h) (λH'=>H'=H1) (λR h=>⟨_,rfl,_,rfl,_,_,rfl,rfl,_,rfl,by omega,by omega,h _ rfl⟩) (λH' h=>by rw [h];exact aE.refl _) (by omega) (λi H' N hi s' hN=>?_) (λD ys H' s' hD eD al'=>?_)
  ·have e0:(0:Int)+(i:Int)=(i:Int):=by omega
   rw [e0];refine ⟨_,rfl,_,rfl,_,_,rfl,rfl,_,_,rfl,rfl,_,rfl,cQ (λc=>?_) (λc=>?_)⟩
   ·have c:=of_decide_eq_true c;refine hN _ _ (aE.refl _) (λa z=>by cases z) ?_;rw [if_pos c];rfl
   ·have c:¬1<=b+(i:Int):=λz=>c (decide_eq_true z);refine hN _ _ (aE.refl _) (λa z=>by cases z) ?_;rw [if_neg c];rfl
  ·rw [en] at al';have ey:=Ej al';have ryD:r≠D:=λz=>by rw [<- z,er] at hD;cases hD
   have eL:(us.length:Int) - 1=((us.length - 1:Nat):Int):=by omega
   rw [eL];refine ⟨λm σ H2=>∃(p:Addr) (us2:List V) (gs2:List Gr) (Ls2:List (List St4)) (ns:List Nat) (s:Nat),σ=[some (.int sl),some (.int h),some (.ref r),some (.int b),some (.int ((us.length - 1:Nat):Int)),some (.ref p)]/\m=ns.length/\Wh30 H H2 r p us2 gs2 Ls2 ns s sl.natAbs (us.length - 1) b up,⟨_,D,us,gs,Ls,(List.range (sl.natAbs+1)).map λi:Nat=>if 1<=b+(i:Int) then 1 else 0,0,rfl,rfl,?_⟩,?_⟩
   ·refine ⟨s1.trans s',ryD,s' _ _ er,by rw [<- ey];exact eD,al.imp (GrV.to (Kp.of s')),sr,hL,by simp,by simp,by rw [Nat.sub_zero];omega,λk i hk=>?_,λz=>by omega⟩;rw [List.getElem?_map] at hk;rcases Nat.lt_or_ge k (sl.natAbs+1) with z | z
    ·rw [List.getElem?_range z] at hk;cases hk
     show Ls[if 1<=b+(k:Int) then 1 else 0]?=_;rw [show ((0:Nat):Int)*letE up=0 by simp,show b+((0:Nat):Int)*lN up+(k:Int)=b+(k:Int) by simp,mK]
     by_cases c:1<=b+(k:Int)
     ·rw [if_pos c];exact h1
     ·rw [if_neg c];exact h0
    ·rw [List.getElem?_eq_none (by simpa using z)] at hk;cases hk
   ·rintro m σ H2 ⟨p,us2,gs2,Ls2,ns,s2,rfl,rfl,W⟩
    have ln:(cn ns).length=ns.length:=List.length_map _;refine ⟨_,rfl,_,_,rfl,.inl ⟨_,SqL.of W.ep,rfl⟩,_,_,rfl,rfl,_,rfl,cQ (λc=>?_) (λc=>?_)⟩
    ·have c:=of_decide_eq_true c;have cnt:=W.cnt;have few:=W.few;have n2:2<=ns.length:=by omega
     have nn:sl.natAbs*(sl.natAbs+1)<=12*13:=Nat.mul_le_mul sl12 (by omega);obtain ⟨e,he⟩:∃ e,sl.natAbs - s2=e+1:=⟨sl.natAbs - s2 - 1,by omega⟩;have he2:sl.natAbs - (s2+1)=e:=by omega
     have hee:(e+1)*(e+1+1)=e*(e+1)+2*(e+1):=by rw [Nat.mul_comm (e+1) (e+1+1),Nat.add_mul,Nat.add_mul,Nat.mul_comm e (e+1),Nat.add_mul];omega
     have lms:∀ ms:List Nat,ms.length+1=ns.length->ms.length=e+1:=λms h=>by omega
     rw [he,hee] at few;have lE:letE up=1\/letE up = -1:=by cases up;exact .inr rfl;exact .inl rfl
     have ea:((s2:Int)*letE up).natAbs=s2:=by rcases lE with z | z <;> rw [z] <;> omega
     have ea2:((s2:Int)*letE up+letE up).natAbs=s2+1:=by rcases lE with z | z <;> rw [z] <;> omega
     refine ⟨_,λσ' H' z=>z,?_⟩;refine ⟨_,rfl,_,rfl,_,rfl,r,p,us2,gs2,Ls2,ns,us.length - 1,(s2:Int)*letE up,b+(s2:Int)*lN up,up,rfl,W.rp,W.er,W.al,W.sr,W.ep,W.pos,by omega,by omega,W.hL,W.pl,by omega,by omega,λl ms us' gs' Ls' H' hl lm S=>?_⟩;refine ⟨ms.length,by omega,l,us',gs',Ls',ms,s2+1,rfl,rfl,?_⟩;have lu:=S.lu;refine ⟨λc o hc=>S.sb c o (W.sm c o hc) (λz=>(by cases z;rw [hr0] at hc;cases hc)),(λz=>(by rw [<- z,W.er] at hl;cases hl)),S.hr,S.hs,S.al,S.sr,S.kp _ _ W.hL,by omega,by omega,(by rw [he2];have:=lms ms lm;omega),λk i hk=>?_,λ_=>S.la (λz=>by rw [z] at lm;simp at lm;omega)⟩;have:=S.pl k i hk;rw [this];rw [show (((s2+1:Nat)):Int)*letE up=(s2:Int)*letE up+letE up by rw [Int.natCast_add,Int.add_mul];simp,show (((s2+1:Nat)):Int)*lN up=(s2:Int)*lN up+lN up by rw [Int.natCast_add,Int.add_mul];simp];congr 2;omega
    ·have c:¬1 < ((cn ns).length:Int):=λz=>c (decide_eq_true z);have cnt:=W.cnt;have few:=W.few;have pos:=W.pos;have n1:ns.length=1:=by omega
     obtain ⟨i,gl,li⟩:=W.la (by omega)
     obtain ⟨j,rfl⟩:∃ j,ns=[j]:=by
      match ns,n1 with
      | [j],_=>exact ⟨j,rfl⟩
     have:i=j:=by simpa using gl.symm
     subst this;have key:=W.pl 0 i rfl;have es2:s2=sl.natAbs:=by omega
     subst es2;rw [<- es,show b+(sl.natAbs:Int)*lN up+((0:Nat):Int)=h by omega] at key;have lg:=W.al.len;have lr:=W.sr.rl.1;refine ⟨_,rfl,q r us2 gs2 (Ls2.take i) H2 ⟨W.sm,hr0,W.er,W.al,?_,(by have:=few;omega)⟩⟩;rw [<- BR key (by omega)];exact W.sr
 obtain ⟨t5,ht5,k5⟩:=t5
 have es:∀ up:Bool,sl≠0->(up=true↔0 < sl)->sl=(sl.natAbs:Int)*letE up:=λup _ hu=>by
  cases up with
  | true=>have:=hu.mp rfl;show sl=(sl.natAbs:Int)*1;omega
  | false =>
       have : ¬ 0 < sl := λz => by cases hu.mpr z
       show sl=(sl.natAbs:Int)*(-1);omega
 refine ⟨_,ai (aY (aC hU (aB je rfl iD (by decide+kernel) (aa (pv 0) af)) (dN (v:=V.int 12) rfl dG ⟨_,rfl⟩) (aH _)) (aj qB) aI) (ai (aY (aC bQ (pv 0) ak (aH _)) (aj (aw (aD zd (hr.mono (by omega)) rfl (aa (pv 1) af)))) aI) (ai (aJ (i:=2) nd rfl (Or.inl rfl) (bF (aa (bE (aa aL af)) (aa (bE (aa aL af)) (aa (bE (aa aL af)) af))))) (ai (aJ (i:=3) nd rfl (Or.inr rfl) (pv 1)) (kZ (aY (aC jE (pv 0) ak (aH _)) (ai (bg (eO PySem.F.plainAttrs_list PySem.F.slot_list_append PySem.F.type_list_append bw (pv 2) (aa (bE (aa aL (aa ak af))) af)))
  (aj (aJ (i:=3) nd rfl (Or.inr rfl) (aK bJ (pv 1) (pv 0))))) aI) ht5)))),?_⟩
 refine ⟨_,rfl,_,rfl,_,_,rfl,rfl,_,rfl,cQ (λc=>?_) (λ_=>?_)⟩
 ·exfalso;have c:=of_decide_eq_true c
  by_cases n:sl < 0
  ·rw [if_pos n] at c;omega
  ·rw [if_neg n] at c;omega
 refine ⟨_,rfl,rfl,_,rfl,cQ (λc=>?_) (λc=>?_)⟩
 ·have c:V.int sl=V.int 0:=of_decide_eq_true c;cases c
  exact ⟨_,rfl,h,rfl,λl us gs Ls H' R=>q l us gs Ls H' R⟩
 have ne:sl≠0:=λz=>c (by rw [z];rfl);refine ⟨sz 1 (by decide),λp1 hp1=>⟨sz 1 (by decide),λp2 hp2=>⟨sz 1 (by decide),λp3 hp3=>⟨sz 3 (by decide),λl hl=>?_⟩⟩⟩⟩;have u1:=ao hp1 (.tup [V.str "never"]);have u2:=ao hp2 (.tup [V.str "always"]);have u3:=ao hp3 (.tup [V.str "p"]);have u4:=ao hl (.lst [V.ref p1,V.ref p2,V.ref p3]);have g1:=GrV.mk .ne (((u2.trans u3).trans u4) _ _ ae);have g2:=GrV.mk .al ((u3.trans u4) _ _ ae);have g3:=GrV.mk .p (u4 _ _ ae);have s4:=((u1.trans u2).trans u3).trans u4;have fl:H l=none:=((u1.trans u2).trans u3).free hl;have el:upd (upd (upd (upd H p1 (.tup [V.str "never"])) p2 (.tup [V.str "always"])) p3 (.tup [V.str "p"])) l (.lst [V.ref p1,V.ref p2,V.ref p3]) l=some (.lst [V.ref p1,V.ref p2,V.ref p3]):=ae;generalize upd (upd (upd (upd H p1 (.tup [V.str "never"])) p2 (.tup [V.str "always"])) p3 (.tup [V.str "p"])) l (.lst [V.ref p1,V.ref p2,V.ref p3])=H4 at g1 g2 g3 s4 el ⊢;refine ⟨_,rfl,_,rfl,_,_,rfl,rfl,_,rfl,cQ (λc=>?_) (λc=>?_)⟩
 ·have c:=of_decide_eq_true c;refine ⟨_,rfl,.inl ⟨rfl,_,SqL.of el⟩,sz 2 (by decide),λt ht=>?_⟩;have u5:=ao ht (.tup [V.str "not",V.int 2]);refine ⟨l,_,_,rfl,rfl,u5 _ _ el,fA (by simp),?_⟩;have k5':Kp (upd H4 t (.tup [V.str "not",V.int 2])) (upd (upd H4 t (.tup [V.str "not",V.int 2])) l (.lst ([V.ref p1,V.ref p2,V.ref p3]++[V.ref t]))):=cW (u5 _ _ el) rfl;refine ⟨_,rfl,_,rfl,_,_,rfl,rfl,?_⟩;refine k5 l false _ gs4 Ls4 (h+sl) _ _ _ (bp (s4.trans u5) fl _) fl ae ?_ sr4 (by simp) (by simp) rfl rfl rfl ne (es false ne ⟨λz=>(by cases z),λz=>(by omega)⟩) (by show h=h+sl+(sl.natAbs:Int)*1;omega);have k6:=(Kp.of u5).trans k5';exact .cons (GrV.to k6 _ _ g1) (.cons (GrV.to k6 _ _ g2) (.cons (GrV.to k6 _ _ g3) (.cons (GrV.to k5' _ _ (GrV.mk (.no 2) ae)) .nil)))
 ·have c:¬sl < 0:=λz=>c (decide_eq_true z);exact k5 l true _ gs3 Ls3 h _ _ _ s4 fl el (.cons g1 (.cons g2 (.cons g3 .nil))) sr3 (by simp) (by simp) rfl rfl rfl ne (es true ne ⟨λ_=>by omega,λ_=>rfl⟩) (by show h=h+(sl.natAbs:Int)*0;omega)
def mvG (by_:Nat):Gr->Gr
 | .no i=>.no (i+by_)
 | .fold u i j=>.fold u (i+by_) (j+by_)
 | g=>g
theorem qP (n x y:Int):∀(gs:List Gr) (ws:List Int),∃ r,aR n x y gs ws=ws++r
 | [],ws=>⟨[],by simp [aR]⟩
 | g::gs,ws=>by
  obtain ⟨r,e⟩:=qP n x y gs (ws++[g.worth n x y ws]);exact ⟨g.worth n x y ws::r,by show aR n x y gs (ws++[g.worth n x y ws])=_;rw [e];simp⟩
theorem qQ (n x y:Int):∀(a b:List Gr) (ws:List Int),aR n x y (a++b) ws=aR n x y b (aR n x y a ws)
 | [],b,ws=>rfl
 | g::a,b,ws=>by show aR n x y (a++b) (ws++[g.worth n x y ws])=_;rw [qQ n x y a b];rfl
theorem SR.at {gs:List Gr} {Ls:List (List St4)} (h:SR gs Ls) {k:Nat} {g:Gr} (hg:gs[k]?=some g):∃ F,Ls[k]?=some F/\yU (Ls.take k) F g/\oo k g/\g≠.q/\∀ n x,0 < n->0<=x->x<=n->g.worth n x 0 ((Ls.take k).map λF=>hAt F x n)=hAt F x n:=by
 obtain ⟨F,hF,r⟩:=h.rl.2 k g hg;refine ⟨F,hF,r,h.ok k g hg,h.nq g (List.mem_of_getElem? hg),λn x z1 z2 z3=>?_⟩;have hk:=(List.getElem?_eq_some_iff.mp hg).1;have w:=h.wo n x z1 z2 z3
 have e1:gs=gs.take k++g::gs.drop (k+1):=by
  have:=(List.getElem?_eq_some_iff.mp hg).2;rw [<- this,<- List.drop_eq_getElem_cons hk,List.take_append_drop]
 rw [e1,qQ] at w;obtain ⟨r2,e2⟩:=qP n x 0 (gs.drop (k+1)) (aR n x 0 (gs.take k) []++[g.worth n x 0 (aR n x 0 (gs.take k) [])]);have w2:aR n x 0 (gs.take k) []++[g.worth n x 0 (aR n x 0 (gs.take k) [])]++r2=Ls.map λF=>hAt F x n:=by rw [<- e2];exact w
 have lk:(aR n x 0 (gs.take k) []).length=k:=by rw [ip];simp;omega
 generalize aR n x 0 (gs.take k) []=W at w2 lk
 have t1:W=(Ls.take k).map λF=>hAt F x n:=by
  have:=congrArg (List.take k) w2;rw [List.append_assoc,List.take_append_of_le_length (by omega),List.take_of_length_le (by omega),<- List.map_take] at this;exact this
 have t2:=congrArg (λl=>l[k]?) w2;rw [List.append_assoc,List.getElem?_append_right (by omega),List.getElem?_map,hF,lk,Nat.sub_self] at t2;rw [<- t1];exact Option.some.inj t2
theorem yU.mv {A B:List (List St4)} {F:List St4} {g:Gr} (h:yU B F g):yU (A++B) F (mvG A.length g):=by
 have sh:∀{i:Nat} {C:List St4},B[i]?=some C->(A++B)[i+A.length]?=some C:=λ{i C} e=>by rw [List.getElem?_append_right (by omega),show i+A.length - A.length=i by omega];exact e
 cases g with
 | no i=>obtain ⟨C,e,l,f⟩:=h;exact ⟨C,sh e,l,f⟩
 | fold u i j=>obtain ⟨C,D,e1,e2,f1,f2⟩:=h;exact ⟨C,D,sh e1,sh e2,f1,f2⟩
 | ne=>exact h
 | al=>exact h
 | p=>exact h
 | q=>exact h
theorem Gn {n x y:Int} {as bs:List Int} {g:Gr} {k:Nat} (hk:bs.length=k) (h:oo k g):(mvG as.length g).worth n x y (as++bs)=g.worth n x y bs:=by
 have sh:∀ i,i < k->(as++bs).getD (i+as.length) 0=bs.getD i 0:=λi hi=>by
  rw [List.getD_eq_getElem?_getD,List.getElem?_append_right (by omega),show i+as.length - as.length=i by omega,<- List.getD_eq_getElem?_getD]
 cases g with
 | no i=>show n - (as++bs).getD (i+as.length) 0=n - bs.getD i 0;rw [sh i (h i (by simp [Gr.nums]))]
 | fold u i j=>show u.worth n ((as++bs).getD (i+as.length) 0) ((as++bs).getD (j+as.length) 0)=u.worth n (bs.getD i 0) (bs.getD j 0);rw [sh i (h i (by simp [Gr.nums])),sh j (h j (by simp [Gr.nums]))]
 | ne=>rfl
 | al=>rfl
 | p=>rfl
 | q=>rfl
theorem mv_ok {k b:Nat} {g:Gr} (h:oo k g):oo (b+k) (mvG b g):=by
 intro x hx;cases g with
 | no i =>
  have:x=i+b:=by simpa [mvG,Gr.nums] using hx
  have:=h i (by simp [Gr.nums]);omega
 | fold u i j =>
  have:x=i+b\/x=j+b:=by simpa [mvG,Gr.nums] using hx
  have:=h i (by simp [Gr.nums]);have:=h j (by simp [Gr.nums]);omega
 | _=>simp [mvG,Gr.nums] at hx
theorem SR.app {gs gs':List Gr} {Ls Ls':List (List St4)} (h:SR gs Ls) (h':SR gs' Ls'):SR (gs++gs'.map (mvG gs.length)) (Ls++Ls'):=by
 have lg:=h.rl.1;have lg':=h'.rl.1
 have step:∀ k,k<=gs'.length->SR (gs++(gs'.take k).map (mvG gs.length)) (Ls++Ls'.take k):=by
  intro k
  induction k with
  | zero=>intro _;simpa using h
  | succ k ih =>
   intro hk;have hg:gs'[k]?=some gs'[k]:=List.getElem?_eq_getElem (by omega);obtain ⟨F,hF,r,ok,nq,w⟩:=h'.at hg;have e1:(gs'.take (k+1)).map (mvG gs.length)=(gs'.take k).map (mvG gs.length)++[mvG gs.length gs'[k]]:=by rw [List.take_succ,hg,List.map_append];rfl
   have e2:Ls'.take (k+1)=Ls'.take k++[F]:=by rw [List.take_succ,hF];rfl
   rw [e1,e2,<- List.append_assoc,<- List.append_assoc];refine (ih (by omega)).push ?_ ?_ ?_ λn x z1 z2 z3=>?_
   ·rw [lg];exact r.mv
   ·have:=mv_ok (b:=gs.length) ok;rw [List.length_append,List.length_map,List.length_take,Nat.min_eq_left (by omega)];exact this
   ·cases e:gs'[k] with
    | q=>exact absurd e nq
    | _=>intro z;cases z
   ·rw [List.map_append];have:=Gn (n:=n) (x:=x) (y:=0) (as:=Ls.map λF=>hAt F x n) (bs:=(Ls'.take k).map λF=>hAt F x n) (g:=gs'[k]) (k:=k) (by simp;omega) ok;rw [List.length_map,<- lg] at this;rw [this];exact w n x z1 z2 z3
 have:=step gs'.length (Nat.le_refl _)
 rwa [List.take_length,lg',List.take_length] at this
def fw (u:W5) (q:Int):List Int->Int
 | []=>0
 | a::r=>r.foldl (u.worth q) a
theorem fw_snoc {u:W5} {q:Int} {l:List Int} (h:l≠[]) (b:Int):fw u q (l++[b])=u.worth q (fw u q l) b:=by
 cases l with
 | nil=>exact absurd rfl h
 | cons a r=>show (r++[b]).foldl (u.worth q) a=_;rw [List.foldl_append];rfl
structure Fd32 (H H':Hp) (r:Addr) (us:List V) (Ls:List (List St4)) (ns:List Nat) (Fs:List (List St4)) (u:W5) (f:Nat) (us':List V) (gs':List Gr) (Ls':List (List St4)) (G:List St4):Prop where
 sb:SB (.ref r) H H'
 er:H' r=some (.lst us')
 al:aZ (GrV H') us' gs'
 sr:SR gs' Ls'
 kp:∀(j:Nat) (F:List St4),Ls[j]?=some F->Ls'[j]?=some F
 lu:us'.length+1=us.length+Fs.length
 gi:Ls'[f]?=some G
 gd:Gd 4 G
 la:2<=Fs.length->f+1=us'.length
 one:Fs.length=1->ns[0]?=some f
 ht:∀ p q,0 < q->0<=p->p<=q->hAt G p q=fw u q (Fs.map λF=>hAt F p q)
def rh:Sp:=λvs H Q _=>∃(r p:Addr) (u:W5) (us:List V) (gs:List Gr) (Ls:List (List St4)) (ns:List Nat) (Fs:List (List St4)),vs=[.ref r,.str u.str,.ref p]/\(u=.lesser\/u=.greater)/\r≠p/\H r=some (.lst us)/\aZ (GrV H) us gs/\SR gs Ls/\H p=some (.lst (cn ns))/\1<=ns.length/\ns.length<=10/\us.length<=300/\ns.length=Fs.length/\
 (∀(k i:Nat),ns[k]?=some i->∃ F,Fs[k]?=some F/\Ls[i]?=some F/\Gd 4 F)/\
 ∀(f:Nat) (us':List V) (gs':List Gr) (Ls':List (List St4)) (G:List St4) (H':Hp),Fd32 H H' r us Ls ns Fs u f us' gs' Ls' G->Q (.int (f:Int)) H'
theorem xX (T:au K mg "put_folded" jk) (aU:mg "len"=none):Def P w K mg base 1 "put_folded" ["rows","word","places"] rh:=by
 refine aO T lV (λ_ _ _ _ _ _=>L2.ar3 λ_ _ _=>rfl) ?_ ?_
 ·walk_at "i1";obtain ⟨r,p,u,us,gs,Ls,ns,Fs,rfl,_⟩:=h;rfl
 walk_at "i2";obtain ⟨r,p,u,us,gs,Ls,ns,Fs,rfl,hu,nrp,er,al,sr,ep,n1,n10,few,ln,pl,q⟩:=h;have nd:=lV.nd;obtain ⟨n0,nr,rfl⟩:∃ n0 nr,ns=n0::nr:=by cases ns with | nil=>simp at n1 | cons a b=>exact ⟨a,b,rfl⟩
 obtain ⟨F0,hF0,hL0,g0⟩:=pl 0 n0 rfl;obtain ⟨Fr,rfl⟩:∃ Fr,Fs=F0::Fr:=by cases Fs with | nil=>simp at hF0 | cons a b=>cases hF0;exact ⟨b,rfl⟩
 have lf:nr.length=Fr.length:=by simpa using ln
 refine ⟨_,(ai (aJ (i:=3) nd rfl (Or.inl rfl) (aF bo (pv 2) ak (λ_ _=>rfl)))
  (ai (cK PassesOwn.never rfl (fg (dh sl_list (pv 2) (eC ak) eE)) (aP (i:=4) nd rfl (Or.inl rfl)) (ai (bg (eO PySem.F.plainAttrs_list PySem.F.slot_list_append PySem.F.type_list_append bw (pv 0) (aa (bE (aa (pv 1) (aa (pv 3) (aa (pv 4) af)))) af)))
  (aj (aJ (i:=3) nd rfl (Or.inl rfl) (aK du (aB aS rfl aU (by decide+kernel) (aa (pv 0) af)) ak)))))
  (aj (aw (pv 3))))),?_⟩
 refine ⟨_,rfl,_,_,_,_,rfl,rfl,SqL.of ep,vP (k:=0) rfl,?_⟩;refine ⟨_,rfl,_,rfl,p,_,rfl,SqL.of ep,λp2 hp2=>?_⟩;have ec:jd (cn (n0::nr)) (some 1) none=cn nr:=cutS _ _;rw [ec];have u2:=ao hp2 (.lst (cn nr));have n2r:p2≠r:=λz=>by rw [z,er] at hp2;cases hp2
 refine ⟨p2,rfl,⟨_,SqL.of ae⟩,?_⟩
 refine gh (xs:=cn nr) (λi σ H'=>∃(o4:Option V) (fo:Nat) (us':List V) (gs':List Gr) (Ls':List (List St4)) (G:List St4),σ=[some (.ref r),some (.str u.str),some (.ref p),some (.int (fo:Int)),o4]/\H' p2=some (.lst (cn nr))/\Fd32 H H' r us Ls ((n0::nr).take (i+1)) ((F0::Fr).take (i+1)) u fo us' gs' Ls' G)
  ⟨_,n0,us,gs,Ls,F0,rfl,ae,⟨SB.of u2,u2 _ _ er,al.imp (GrV.to (Kp.of u2)),sr,λ_ _ h=>h,by simp,hL0,g0,λz=>by simp at z,λ_=>rfl,λp q _ _ _=>rfl⟩⟩ (λi σ H' _ z=>?_) (λi x σ H' hx z=>?_) (λσ H' z=>?_)
 ·obtain ⟨_,_,_,_,_,_,_,e,_⟩:=z;exact SqL.of e
 ·obtain ⟨o4,fo,us',gs',Ls',G,rfl,e2,D⟩:=z;rw [List.getElem?_map] at hx
  have hi:i < nr.length:=by
   rcases Nat.lt_or_ge i nr.length with z | z
   ·exact z
   ·rw [List.getElem?_eq_none z] at hx;cases hx
  have hx':nr[i]?=some nr[i]:=List.getElem?_eq_getElem hi;rw [hx'] at hx;cases hx
  obtain ⟨F,hF,hL,gF⟩:=pl (i+1) nr[i] (by simpa using hx');have lu:=D.lu;rw [List.length_take,Nat.min_eq_left (by simp;omega)] at lu;have st4:u.steep 4 4=4:=by rcases hu with rfl | rfl <;> rfl
  obtain ⟨f1,f2,f3⟩:=fK u D.gd gF (by rw [st4];decide);rw [st4] at f2;have hLF:=D.kp _ _ hL;have lg:=D.al.len;have lr:=D.sr.rl.1;refine ⟨_,rfl,.inl ⟨rfl,_,SqL.of D.er⟩,_,rfl,_,rfl,_,rfl,szD,λt ht=>?_⟩;have u3:=ao ht (.tup [.str u.str,.int (fo:Int),.int (nr[i]:Int)]);refine ⟨r,us',_,rfl,rfl,u3 _ _ D.er,fA (by simp at n10;omega),?_⟩;have hr3:upd (upd H' t (.tup [.str u.str,.int (fo:Int),.int (nr[i]:Int)])) r (.lst (us'++[.ref t])) r=some (.lst (us'++[.ref t])):=ae;have k3:Kp (upd H' t (.tup [.str u.str,.int (fo:Int),.int (nr[i]:Int)])) (upd (upd H' t (.tup [.str u.str,.int (fo:Int),.int (nr[i]:Int)])) r (.lst (us'++[.ref t]))):=cW (u3 _ _ D.er) rfl;refine ⟨_,rfl,_,_,rfl,.inl ⟨_,SqL.of hr3,rfl⟩,_,_,rfl,rfl,?_⟩;dsimp only;have c2:((((us'++[V.ref t]).length:Nat):Int) - 1)=((us'.length:Nat):Int):=by simp
  rw [c2]
  have go:oo gs'.length (.fold u fo nr[i]):=λx hx=>by
   have:x=fo\/x=nr[i]:=by simpa [Gr.nums] using hx
   have b1:=(List.getElem?_eq_some_iff.mp D.gi).1;have b2:=(List.getElem?_eq_some_iff.mp hLF).1;rcases this with rfl | rfl <;> omega
  have s3:SR (gs'++[.fold u fo nr[i]]) (Ls'++[dO u G F]):=D.sr.push ⟨_,_,D.gi,hLF,f1,rfl⟩ go (by intro z;cases z) λn x z1 z2 z3=>by
   show u.worth n _ _=_;rw [hZ D.gi,hZ hLF,f3 x n z1 z2 z3]
  have tk:(F0::Fr).take (i+1+1)=(F0::Fr).take (i+1)++[F]:=by rw [List.take_succ,hF];rfl
  refine ⟨_,us'.length,us'++[.ref t],_,_,dO u G F,rfl,?_,⟨?_,hr3,?_,s3,λj F h=>keep _ (D.kp j F h),?_,?_,f2,?_,?_,λp q z1 z2 z3=>?_⟩⟩
  ·rw [aq n2r];exact u3 _ _ e2
  ·exact (D.sb.trans (SB.of u3)).trans (mw _ _)
  ·exact ((D.al.imp (GrV.to (Kp.of u3))).imp (GrV.to k3)).app (.cons (GrV.to k3 _ _ (GrV.mk (.fold u fo nr[i]) ae)) .nil)
  ·rw [List.length_take,Nat.min_eq_left (by simp;omega)];simp;omega
  ·rw [show us'.length=Ls'.length by omega,List.getElem?_concat_length]
  ·intro _;simp
  ·intro z;rw [List.length_take,Nat.min_eq_left (by simp;omega)] at z;omega
  ·rw [f3 p q z1 z2 z3,D.ht p q z1 z2 z3,tk,List.map_append];exact (fw_snoc (by simp) _).symm
 ·obtain ⟨o4,fo,us',gs',Ls',G,rfl,e2,D⟩:=z;rw [show (cn nr).length+1=(n0::nr).length by simp,List.take_length,show (n0::nr).length=(F0::Fr).length by simp [lf],List.take_length] at D;exact ⟨_,rfl,q fo us' gs' Ls' G H' D⟩
def mvArg32 (s:Stmt):Expr:=match s with
 | .Return (some (.BinOp _ _ (.Call _ [e] _ _) _)) _=>e
 | _=>.Constant .none 0 ⟨0,0,0,0⟩
theorem BK (b:Nat) (g:Gr):(mvG b g).word=g.word:=by cases g <;> rfl
theorem BL (b:Nat) (g:Gr):(mvG b g).nums=g.nums.map (·+b):=by cases g <;> rfl
theorem Ga (g:Gr):g.nums.length<=2:=by cases g <;> simp [Gr.nums]
def uy:Sp:=λvs H Q _=>∃(v:V) (b:Nat) (g:Gr),vs=[v,.int (b:Int)]/\GrV H v g/\∀ a H',aE H H'->H a=none->GrV H' (.ref a) (mvG b g)->Q (.ref a) H'
theorem zM (T:au K mg "moved" jl) (bO:mg "tuple"=none):Def P w K mg base 1 "moved" ["row","by"] uy:=by
 refine aO T xt (λ_ _ _ _ _ _=>L2.ar2 λ_ _=>rfl) ?_ ?_
 ·walk_at "i1";obtain ⟨v,b,g,rfl,_⟩:=h;rfl
 walk_at "i2";obtain ⟨v,b,g,rfl,gv,q⟩:=h;have nd:=xt.nd
 have cm:∃ te,PE (cR CX0 P w K mg base BJ "moved" (ag jl) f cdv A outer s H E).nox (mvArg32 ((bf jl).getD 0 (.Pass ⟨0,0,0,0⟩))) te/\∀(Q':VK) (p:Addr) (x:Str) (is:List Nat) (H3:Hp),H3 p=some (.tup (.str x::is.map λi:Nat=>.int (i:Int)))->is.length<=2->
   (∀ D H4,aE H3 H4->H4 D=some (.lst (is.map λi:Nat=>.int ((i+b:Nat):Int)))->Q' (.ref D) H4)->te [some (.ref p),some (.int (b:Int))] H3 Q':=by
  refine ⟨_,(iT rfl (iI (dh mZ (pv 0) (eC ak) eE)) rfl (by decide+kernel) (by decide+kernel) rfl (show L2.FrN _ (ag jl) by decide+kernel) (fW (j:=1) rfl (Or.inl rfl) (by decide+kernel) (Or.inl rfl) fL) (show (["place","by"]:List Str).Nodup by decide+kernel) (λ_ _ _ _=>ix) (λ_ _ _ _=>(aK bJ (pv 0) (pv 1)))),?_⟩;intro Q' p x is H3 e3 hl fin;refine fM ?_;refine ⟨_,rfl,_,rfl,?_⟩;dsimp only [kO];refine sl1 (K:=K) e3 λp1 hp1=>?_;refine ⟨p1,rfl,⟨_,SqT.of ae⟩,?_⟩;have sp:=ao hp1 (.tup (is.map λi:Nat=>V.int (i:Int)))
  refine lI (K:=K) (ts:=is) (R:=λ_ v i=>v=V.int ((i:Nat):Int)) (xs:=is.map λi:Nat=>V.int (i:Int)) (λi=>.int ((i+b:Nat):Int)) (λ_ _ v t _ h=>h) (λl H'=>l=p1/\H'=upd H3 p1 (.tup (is.map λi:Nat=>V.int (i:Int)))) (λR h=>h p1 _ ⟨rfl,rfl⟩) (λl H' h=>by obtain ⟨rfl,rfl⟩:=h;exact ⟨ae,aE.refl _⟩) (by rw [List.length_map];omega)
   ?_ (λv i H' N _ hv hN=>?_) (λD H4 s4 hD eD=>fin D H4 (sp.trans s4) eD)
  ·clear hl sp hp1 e3 fin
   induction is with
   | nil=>exact .nil
   | cons i r ih=>exact .cons rfl ih
  ·subst hv;refine ⟨_,rfl,_,rfl,_,_,rfl,rfl,?_⟩;have:=hN _ (aE.refl _);rw [Int.natCast_add] at this;exact this
 obtain ⟨tC,htC,hqC⟩:=cm;obtain ⟨r,rfl,e⟩:=gv.tup;have gl:=Ga g;refine ⟨_,(aj (aw (aK lj (bE (aa (aF aG (pv 0) ak (λ_ _=>rfl)) af)) (iU eo rfl bO (by decide+kernel) (aa htC af))))),?_⟩;refine ⟨_,rfl,_,_,_,_,rfl,rfl,SqT.of e,at_of (by decide) rfl,szB,λp1 hp1=>?_⟩;have u1:=ao hp1 (.tup [V.str g.word]);refine hqC _ r g.word g.nums _ (u1 _ _ e) gl λD H2 s2 eD=>?_;refine ⟨D,_,rfl,.inl ⟨SqL.of eD,λp2 hp2=>?_⟩⟩;have u3:=ao hp2 (.tup (g.nums.map λi:Nat=>V.int ((i+b:Nat):Int)));have e1:=u3 _ _ (s2 _ _ (show upd H p1 (.tup [V.str g.word]) p1=_ from ae));have sA:=(u1.trans s2).trans u3;refine ⟨p1,p2,[V.str g.word],_,rfl,rfl,SqT.of e1,SqT.of ae,by simp,(by simp only [List.length_cons,List.length_nil,List.length_map];exact Nat.le_trans (show _<=3 by omega) (by decide)),λz=>?_,λz p3 hp3=>?_⟩
 ·refine q p1 _ sA hp1 (GrV.mk (mvG b g) ?_);have z':g.nums=[]:=by simpa using z
  rw [e1,BK,BL,z'];rfl
 ·have u4:=ao hp3 (.tup ([V.str g.word]++g.nums.map λi:Nat=>V.int ((i+b:Nat):Int)));refine q p3 _ (sA.trans u4) (sA.free hp3) (GrV.mk (mvG b g) ?_);rw [ae,BK,BL,List.map_map];rfl
theorem Ay {α:Type} {K:W.Frag} {wi:TI} {te:TE} {js:List Nat} {σ:St} {H:Hp} {Q:VK} {xs:List V} {ts:List α} {R0 R:Hp->V->α->Prop} (hR0:∀ H H' v t,aE H H'->R0 H v t->R0 H' v t) (hR:∀ D H H' v t,SB (.ref D) H H'->v≠.ref D->R H v t->R H' v t) (Src:Addr->Hp->Prop)
  (hwi:∀ R:It->Hp->Prop,(∀ l H,Src l H->R (Itl K l) H)->wi σ H R) (hsrc:∀ l H',Src l H'->H' l=some (.lst xs)/\aE H H') (hx:xs.length<=1000) (o:aZ (R0 H) xs ts)
  (hs:∀ v t H' (N:VK),t∈ts->aE H H'->R0 H' v t->(∀ v' H'',aE H' H''->(∀ a,v'=.ref a->H' a=none)->R H'' v' t->N v' H'')->te (some v::dj js σ) H' N)
  (hd:∀ D ys H',aE H H'->H D=none->H' D=some (.lst ys)->aZ (R H') ys ts->Q (.ref D) H'):gP wi mT te js σ H Q:=by
 refine pz Src hwi (λl H src=>(hsrc l H src).1) hx (λl D i ys H'=>H D=none/\aE H H'/\(∀ v∈ys,v≠.ref D)/\aZ (R H') ys (ts.take i)) (λl H' D src hD=>⟨(hsrc l H' src).2.free hD,(hsrc l H' src).2.trans (ao hD _),(λ_ z=>nomatch z),.nil⟩) (λl D i v ys H' hv nl el eD h N hN=>?_) (λl D ys H' el eD h=>?_)
 ·obtain ⟨hD,sm,nD,al⟩:=h;obtain ⟨t,ht,hr⟩:=o.get i v hv;refine hs v t H' N (List.mem_of_getElem? ht) sm (hR0 _ _ _ _ sm hr) λv' H'' s2 fr r=>?_;have eD2:=s2 _ _ eD;have nv:v'≠.ref D:=λz=>by have:=fr D z;rw [eD] at this;cases this
  have sb1:SB (.ref D) H' (upd H'' D (.lst (ys++[v']))):=(SB.of s2).trans (mw _ _);refine hN _ _ (s2 _ _ el) eD2 ⟨hD,bp (sm.trans s2) hD _,λu hu=>?_,?_⟩
  ·rcases List.mem_append.mp hu with hu | hu
   ·exact nD u hu
   ·rw [List.mem_singleton.mp hu];exact nv
  ·rw [List.take_succ,ht];exact (al.mem λu hu t ru=>hR D _ _ _ _ sb1 (nD u hu) ru).app (.cons (hR D _ _ _ _ (mw _ _) nv r) .nil)
 ·obtain ⟨hD,sm,nD,al⟩:=h;refine hd D ys H' sm hD eD ?_
  rwa [o.len,List.take_length] at al
def psArg (s:Stmt):Expr:=match s with
 | .For _ _ b _ _=>match b.getD 1 (.Pass ⟨0,0,0,0⟩) with
  | .If _ c _ _=>match c.getD 1 (.Pass ⟨0,0,0,0⟩) with
   | .Expr (.Call _ [e] _ _) _=>e
   | _=>.Constant .none 0 ⟨0,0,0,0⟩
  | _=>.Constant .none 0 ⟨0,0,0,0⟩
 | _=>.Constant .none 0 ⟨0,0,0,0⟩
abbrev cO (s:St4):List Key:=[.inl s.m,.inl s.h]
structure Ps32 (H H':Hp) (r d:Addr) (L:List St4) (i:Nat) (kvs:List (List Key×V)) (us:List V) (gs:List Gr) (Ls:List (List St4)):Prop where
 sb:∀ c o,H c=some o->c≠r->H' c=some o
 fd:H d=none
 er:H' r=some (.lst us)
 ed:H' d=some (.dT kvs)
 al:aZ (GrV H') us gs
 sr:SR gs Ls
 lk:kvs.length<=i
 lu:us.length<=24*kvs.length
 ks:∀(j:Nat) (k:List Key) (v:V),kvs[j]?=some (k,v)->∃(s:St4) (pl:Nat),s∈L/\k=cO s/\v=.int (pl:Int)/\Ls[pl]?=some (bj s.m s.h)
 own:∀(j:Nat) (k:List Key) (v:V),kvs[j]?=some (k,v)->cE kvs k=some v
 has:∀(j:Nat) (s:St4),j < i->L[j]?=some s->∃ v,cE kvs (cO s)=some v
 la:kvs≠[]->∃ k,kvs.getLast?=some (k,.int (((us.length - 1:Nat)):Int))/\1<=us.length
theorem put_new {kvs:List (List Key×V)} {k:List Key} {v:V} (h:cE kvs k=none):putK kvs k v=kvs++[(k,v)]:=by
 unfold putK;rw [iL,h];rfl
theorem sl1Q {K:W.Frag} {H:Hp} {a:Addr} {x:V} {us:List V} {Q:VK} (e:SqT K H a (x::us)) (h:∀ p,H p=none->Q (.ref p) (upd H p (.tup us))):rSlA K (.ref a) (some 1) none H Q:=by
 refine ⟨a,_,rfl,e,λz=>?_,λ_ p=>?_⟩
 ·have hix0:_root_.HT.sIx (x::us).length 0 (some 1)=1:=by
   rw [show (some (1:Int))=some ((1:Nat):Int) from rfl,_root_.HT.vB,List.length_cons];omega
  exact absurd (hix0.symm.trans z) (by decide)
 ·intro hp';rw [cutS];exact h _ hp'
theorem Gg {σ:St} {H:Hp} {Q:Option Int->Hp->Prop} (h:Q none H):kO σ H Q:=h
def Bh (K:W.Frag):Sp:=λvs H Q _=>∃(r:Addr) (x:V) (L:List St4),vs=[.ref r,x]/\H r=some (.lst [])/\Dat K H (lnD L) x/\L.length<=6/\(∀ s∈L,s.m.natAbs<=4)/\∀(d:Addr) (kvs:List (List Key×V)) (us:List V) (gs:List Gr) (Ls:List (List St4)) (H':Hp),Ps32 H H' r d L L.length kvs us gs Ls->Q (.ref d) H'
theorem DS {α β γ:Type} {R:α->γ->Prop} {f:β->γ} {as:List α} {bs:List β} (h:aZ (λa b=>R a (f b)) as bs):aZ R as (bs.map f):=by
 induction h with
 | nil=>exact .nil
 | cons r _ ih=>exact .cons r ih
theorem FN (T:au K mg "put_straights" bW) (aU:mg "len"=none) (qo:Def P w K mg base 2 "straight_rows" ["slope","height"] mW) (D_moved:Def P w K mg base 1 "moved" ["row","by"] uy):Def P w K mg base 3 "put_straights" ["rows","line"] (Bh K):=by
 refine aO T iP (λ_ _ _ _ _ _=>L2.ar2 λ_ _=>rfl) ?_ ?_
 ·walk_at "i1";obtain ⟨r,x,L,rfl,_⟩:=h;rfl
 walk_at "i2";obtain ⟨r,x,L,rfl,er0,dx,few,mild,q⟩:=h;have nd:=iP.nd;have hu:=yy hr;obtain ⟨la,xs,rfl,sa,da⟩:=jH dx;have lx:=dU da
 have cm:∃ te,PE (cR CX0 P w K mg base jG "put_straights" (ag bW) f cdv A outer s H E).nox (psArg ((bf bW).getD 1 (.Pass ⟨0,0,0,0⟩))) te/\∀(Q':VK) (o0 o1 o2 o3:Option V) (p:Addr) (m h:Int) (b:Nat) (H3:Hp),H3 p=some (.tup [.int m,.int h])->m.natAbs<=4->
   (∀(D:Addr) (ys:List V) (gs:List Gr) (Ls:List (List St4)) (H4:Hp),aE H3 H4->H3 D=none->H4 D=some (.lst ys)->aZ (GrV H4) ys (gs.map (mvG b))->SR gs (Ls++[bj m h])->ys.length<=24->Q' (.ref D) H4)->te [o0,o1,o2,o3,some (.ref p),some (.int (b:Int))] H3 Q':=by
  refine ⟨_,(iT rfl (fg (aD qo (hr.mono (by omega)) rfl (aa (aF aG (pv 4) ak (λ_ _=>rfl)) (aa (aF aG (pv 4) ak (λ_ _=>rfl)) af)))) rfl (by decide+kernel) (by decide+kernel) rfl (show L2.FrN _ (ag bW) by decide+kernel) (fW (j:=5) rfl (Or.inl rfl) (by decide+kernel) (Or.inl rfl) fL) (show (["row","by"]:List Str).Nodup by decide+kernel) (λ_ _ _ _=>ix) (λ_ _ _ _=>(aD D_moved (hr.mono (by decide)) rfl (aa (pv 0) (aa (pv 1) af))))),?_⟩;intro Q' o0 o1 o2 o3 p m h b H3 e3 m4 fin;refine fM ?_;refine ⟨_,rfl,_,_,_,_,rfl,rfl,SqT.of e3,rfl,_,rfl,_,_,_,_,rfl,rfl,SqT.of e3,rfl,m,h,rfl,by omega,λl us gs Ls H1 R=>?_⟩;have fw':us.length<=24:=Nat.le_trans R.few (by have:=Nat.mul_le_mul m4 (show m.natAbs+1<=5 by omega);omega);refine ⟨l,rfl,⟨us,SqL.of R.el⟩,?_⟩;refine Ay (K:=K) (R0:=GrV) (R:=λH' v g=>GrV H' v (mvG b g)) (xs:=us) (ts:=gs) (λ_ _ v t s h=>GrV.to (Kp.of s) v t h) (λD _ _ v t sb nv h=>?_) (λl' H'=>l'=l/\H'=H1) (λR h=>h l _ ⟨rfl,rfl⟩) (λl' H' h=>by obtain ⟨rfl,rfl⟩:=h;exact ⟨R.el,aE.refl _⟩) (by omega) R.al (λv t H' N _ s' gv hN=>?_) (λD ys H4 s4 hD eD al=>?_)
  ·obtain ⟨a,rfl,e⟩:=h;exact ⟨a,rfl,sb a _ e (λz=>nv z)⟩
  ·exact ⟨_,rfl,_,rfl,v,b,t,rfl,gv,λa H'' s2 fa gv2=>hN (.ref a) H'' s2 (λa' z=>by cases z;exact fa) gv2⟩
  ·refine fin D ys gs Ls H4 (R.sm.trans s4) (R.sm.free hD) eD (DS al) R.sr (by rw [al.len,<- R.al.len];exact fw')
 obtain ⟨tC,htC,hqC⟩:=cm
 refine ⟨_,(ai (aJ (i:=2) nd rfl (Or.inl rfl) xM)
  (ai (cK PassesOwn.never rfl (iI (pv 1)) (aP (i:=3) nd rfl (Or.inl rfl)) (ai (aJ (i:=4) nd rfl (Or.inl rfl) (dh mZ (pv 3) (eC ak) eE))
  (aj (aY (Fm (uM hu (pv 4) (pv 2))) (ai (aJ (i:=5) nd rfl (Or.inr rfl) (aB aS rfl aU (by decide+kernel) (aa (pv 0) af)))
  (ai (bg (eO PySem.F.plainAttrs_list PySem.F.slot_list_extend PySem.F.type_list_extend oV (pv 0) (aa htC af)))
  (aj (By hu (pv 2) (pv 4) (aK du (aB aS rfl aU (by decide+kernel) (aa (pv 0) af)) ak) rfl)))) aI))))
  (aj (aw (pv 2))))),?_⟩
 intro d hd;have ud:=ao hd (.dT []);have ndr:d≠r:=λz=>by rw [z,er0] at hd;cases hd
 have tst:∀{H':Hp},(∀ c o,H c=some o->c≠r->H' c=some o)->Tst H H':=λsb=>⟨λa ys e=>sb a _ e (λz=>by rw [z,er0] at e;cases e),λa o u e=>sb a _ e (λz=>by rw [z,er0] at e;cases e)⟩
 refine ⟨_,rfl,la,rfl,⟨xs,sa.ts ud.ts⟩,?_⟩
 refine wt (xs:=xs) (λi σ H'=>∃(o3 o4 o5:Option V) (kvs:List (List Key×V)) (us:List V) (gs:List Gr) (Ls:List (List St4)),σ=[some (.ref r),some (.ref la),some (.ref d),o3,o4,o5]/\Ps32 H H' r d L i kvs us gs Ls)
  ⟨_,_,_,[],[],[],[],rfl,⟨λc o h _=>ud _ _ h,hd,ud _ _ er0,ae,.nil,SR.nil,Nat.le_refl _,Nat.le_refl _,(λ_ _ _ h=>by simp at h),(λ_ _ _ h=>by simp at h),(λ_ _ h=>by omega),λz=>absurd rfl z⟩⟩ (λi σ H' _ z=>?_) (λi x σ H' hx z=>?_) (λσ H' z=>?_)
 ·obtain ⟨_,_,_,_,_,_,_,_,S⟩:=z;exact sa.ts (tst S.sb)
 ·obtain ⟨o3,o4,o5,kvs,us,gs,Ls,rfl,S⟩:=z;obtain ⟨st,hst,dst⟩:=hV (da.ts (tst S.sb)) hx;obtain ⟨c,e,rfl,q1,d1⟩:=dA dst;have hi:i < L.length:=(List.getElem?_eq_some_iff.mp hst).1;have mem:=List.mem_of_getElem? hst;have lk:=S.lk;have lu:=S.lu;refine ⟨_,rfl,_,rfl,?_⟩;refine Gg ?_;refine sl1Q (K:=K) q1 λp1 hp1=>?_;have u1:=ao hp1 (.tup [.int st.m,.int st.h]);have ep1:upd H' p1 (.tup [.int st.m,.int st.h]) p1=some (.tup ((cO st).map kV)):=ae;have sb1:∀ c o,H c=some o->c≠r->upd H' p1 (.tup [.int st.m,.int st.h]) c=some o:=λc o h1 h2=>u1 _ _ (S.sb c o h1 h2);have al1:=S.al.imp (GrV.to (Kp.of u1));have er1:=u1 _ _ S.er;have ed1:=u1 _ _ S.ed;generalize upd H' p1 (.tup [.int st.m,.int st.h])=H1 at ep1 sb1 al1 er1 ed1 ⊢;refine ⟨_,rfl,_,rfl,d,_,rfl,jh.t ed1 ep1,_,rfl,cQ (λz=>?_) (λz=>?_)⟩
  ·have hn:cE kvs (cO st)=none:=by
    cases e:cE kvs (cO st) with
    | none=>rfl
    | some v=>rw [e] at z;cases z
   refine ⟨_,rfl,_,_,rfl,.inl ⟨_,SqL.of er1,rfl⟩,?_⟩;refine ⟨_,rfl,.inl ⟨rfl,_,SqL.of er1⟩,?_⟩;refine hqC _ _ _ _ _ p1 st.m st.h us.length H1 ep1 (mild st mem) λD ys gs' Ls' H4 s4 hD eD al' sr' l24=>?_;have er4:=s4 _ _ er1;have ed4:=s4 _ _ ed1;refine ⟨r,D,us,ys,rfl,rfl,er4,eD,(Nat.le_trans (show us.length+ys.length<=200 by omega) (by decide)),?_⟩;have k5:Kp H4 (upd H4 r (.lst (us++ys))):=cW er4 rfl;have er5:upd H4 r (.lst (us++ys)) r=some (.lst (us++ys)):=ae;have ed5:upd H4 r (.lst (us++ys)) d=some (.dT kvs):=by rw [aq ndr];exact ed4
   have ep5:upd H4 r (.lst (us++ys)) p1=some (.tup ((cO st).map kV)):=k5 _ _ (s4 _ _ ep1) rfl;have al5:aZ (GrV (upd H4 r (.lst (us++ys)))) (us++ys) (gs++gs'.map (mvG us.length)):=((al1.imp (GrV.to (Kp.of s4))).imp (GrV.to k5)).app (al'.imp (GrV.to k5));have sb5:∀ c o,H c=some o->c≠r->upd H4 r (.lst (us++ys)) c=some o:=λc o h1 h2=>by rw [aq h2];exact s4 _ _ (sb1 c o h1 h2)
   generalize upd H4 r (.lst (us++ys))=H5 at er5 ed5 ep5 al5 sb5 ⊢;refine ⟨_,rfl,_,_,rfl,.inl ⟨_,SqL.of er5,rfl⟩,_,_,rfl,rfl,_,rfl,_,rfl,d,_,rfl,Ed.t ed5 ep5 (Nat.lt_of_le_of_lt (show kvs.length<=100 by omega) (by decide)),?_⟩;have lg:=S.al.len;have srA:=S.sr.app sr';rw [<- lg] at srA;have lr:=srA.rl.1;have lal:=al5.len
   have y1:1<=ys.length:=by
    have h1:=sr'.rl.1;have h2:=al'.len;rw [List.length_map] at h2;simp at h1;omega
   have k6:Kp H5 (upd H5 d (.dT (putK kvs (cO st) (.int ((((us++ys).length:Nat):Int) - 1))))):=cW ed5 rfl;have cp:((((us++ys).length:Nat):Int) - 1)=((((us++ys).length - 1:Nat)):Int):=by simp;omega
   rw [cp] at k6;dsimp only;rw [cp];rw [put_new hn] at k6 ⊢
   have pl1:(Ls++(Ls'++[bj st.m st.h]))[(us++ys).length - 1]?=some (bj st.m st.h):=by
    rw [<- List.append_assoc];rw [<- List.append_assoc] at lr
    have:(us++ys).length - 1=(Ls++Ls').length:=by
     rw [List.length_append (as:=Ls++Ls')] at lr;simp only [List.length_cons,List.length_nil] at lr;omega
    rw [this,List.getElem?_concat_length]
   refine ⟨_,_,_,kvs++[(cO st,.int (((us++ys).length - 1:Nat):Int))],us++ys,_,_,rfl,⟨λc o h1 h2=>?_,S.fd,?_,ae,al5.imp (GrV.to k6),srA,?_,?_,λj k v hj=>?_,λj k v hj=>?_,λj s hj hs=>?_,λ_=>⟨cO st,by simp,by simp;omega⟩⟩⟩
   ·rw [aq (λz=>by rw [z,S.fd] at h1;cases h1)];exact sb5 c o h1 h2
   ·rw [aq (Ne.symm ndr)];exact er5
   ·simp;omega
   ·simp;omega
   ·rcases Nat.lt_or_ge j kvs.length with z | z
    ·rw [List.getElem?_append_left z] at hj;obtain ⟨s,pl,h1,h2,h3,h4⟩:=S.ks j k v hj;exact ⟨s,pl,h1,h2,h3,keep _ h4⟩
    ·rw [List.getElem?_append_right z] at hj;have ej:j - kvs.length=0:=by have:=(List.getElem?_eq_some_iff.mp hj).1;simp at this;omega
     rw [ej] at hj;cases hj
     exact ⟨st,_,mem,rfl,rfl,pl1⟩
   ·rw [kM _ _ _ _ hn];rcases Nat.lt_or_ge j kvs.length with z | z
    ·rw [List.getElem?_append_left z] at hj;have ow:=S.own j k v hj;rw [if_neg (λz2=>by rw [z2,hn] at ow;cases ow)]
     exact ow
    ·rw [List.getElem?_append_right z] at hj;have ej:j - kvs.length=0:=by have:=(List.getElem?_eq_some_iff.mp hj).1;simp at this;omega
     rw [ej] at hj;cases hj
     rw [if_pos rfl]
   ·rw [kM _ _ _ _ hn]
    by_cases c:cO s=cO st
    ·exact ⟨_,by rw [if_pos c]⟩
    ·rw [if_neg c];rcases Nat.lt_or_ge j i with z | z
     ·exact S.has j s z hs
     ·have:j=i:=by omega
      subst this;rw [hst] at hs;cases hs
      exact absurd rfl c
  ·have hs':∃ v,cE kvs (cO st)=some v:=by
    cases e:cE kvs (cO st) with
    | none=>rw [e] at z;exact absurd rfl z
    | some v=>exact ⟨v,rfl⟩
   refine ⟨_,_,_,kvs,us,gs,Ls,rfl,⟨sb1,S.fd,er1,ed1,al1,S.sr,by omega,S.lu,S.ks,S.own,λj s hj hs=>?_,S.la⟩⟩;rcases Nat.lt_or_ge j i with z | z
   ·exact S.has j s z hs
   ·have:j=i:=by omega
    subst this;rw [hst] at hs;cases hs
    exact hs'
 ·obtain ⟨o3,o4,o5,kvs,us,gs,Ls,rfl,S⟩:=z;rw [lx] at S;exact ⟨_,rfl,q d kvs us gs Ls H' S⟩
end Mine
set_option maxHeartbeats 1000000
namespace Mine
open Ln
def beg (L:List St4):Nat->Int×Int
 | 0=>(0,1)
 | k+1=>match L[k]? with | some s=>(s.p,s.q) | none=>(0,1)
def Abv (L:List St4) (k:Nat) (s r:St4):Prop:=s.at (beg L k).1 (beg L k).2<=r.at (beg L k).1 (beg L k).2/\s.at s.p s.q<=r.at s.p s.q
theorem Abv.self (L:List St4) (k:Nat) (s:St4):Abv L k s s:=⟨Int.le_refl _,Int.le_refl _⟩
theorem ve:∀{L:List St4} {i:Nat} {s t:St4},Ch L->L[i]?=some s->L[i+1]?=some t->Adj s t
 | s'::t'::r,0,s,t,h,e1,e2=>by cases e1;cases e2;exact h.1
 | s'::t'::r,i+1,s,t,h,e1,e2=>ve (L:=t'::r) (i:=i) h.2 (by simpa using e1) (by simpa using e2)
 | [_],0,_,_,_,_,e2=>by cases e2
 | [_],i+1,_,_,_,e1,_=>by simp at e1
 | [],_,_,_,_,e1,_=>by simp at e1
theorem Cm {r j:St4} {pe qe px qx pt qt:Int} (he:0 < qe) (hx:0 < qx) (ht:0 < qt) (o:(pe*qx<=px*qe/\pt*qe<=pe*qt)\/(px*qe<=pe*qx/\pe*qt<=pt*qe)) (h1:r.at pe qe<=j.at pe qe) (h2:j.at px qx < r.at px qx):r.at pt qt<=j.at pt qt:=by
 unfold St4.at at *;have key:qe*(r.m*px+r.h*qx - (j.m*px+j.h*qx)) - qx*(r.m*pe+r.h*qe - (j.m*pe+j.h*qe))=(r.m - j.m)*(px*qe - pe*qx):=by grind
 have key2:qe*(r.m*pt+r.h*qt - (j.m*pt+j.h*qt)) - qt*(r.m*pe+r.h*qe - (j.m*pe+j.h*qe))=(r.m - j.m)*(pt*qe - pe*qt):=by grind
 have hX:0 < r.m*px+r.h*qx - (j.m*px+j.h*qx):=by omega
 have hE:r.m*pe+r.h*qe - (j.m*pe+j.h*qe)<=0:=by omega
 suffices k:r.m*pt+r.h*qt - (j.m*pt+j.h*qt)<=0 by omega
 generalize r.m*px+r.h*qx - (j.m*px+j.h*qx)=X at key hX;generalize r.m*pe+r.h*qe - (j.m*pe+j.h*qe)=E at key key2 hE;generalize r.m*pt+r.h*qt - (j.m*pt+j.h*qt)=T at key2 ⊢;generalize r.m - j.m=A at key key2;have a1:0 < qe*X:=Int.mul_pos he hX;have a2:qx*E<=0:=Int.mul_nonpos_of_nonneg_of_nonpos (by omega) hE;have a3:qt*E<=0:=Int.mul_nonpos_of_nonneg_of_nonpos (by omega) hE
 have a4:A*(pt*qe - pe*qt)<=0:=by
  rcases o with ⟨o1,o2⟩ | ⟨o1,o2⟩
  ·have:0 < A:=by
    rcases Int.lt_or_le 0 A with z | z
    ·exact z
    ·have:=Int.mul_nonpos_of_nonpos_of_nonneg z (show 0<=px*qe - pe*qx by omega);omega
   exact Int.mul_nonpos_of_nonneg_of_nonpos (by omega) (by omega)
  ·have:A < 0:=by
    rcases Int.lt_or_le A 0 with z | z
    ·exact z
    ·have:=Int.mul_nonpos_of_nonneg_of_nonpos z (show px*qe - pe*qx<=0 by omega);omega
   exact Int.mul_nonpos_of_nonpos_of_nonneg (by omega) (by omega)
 rcases Int.lt_or_le 0 T with z | z
 ·have:=Int.mul_pos he z;omega
 ·exact z
theorem cP {L:List St4} {k:Nat} {s:St4} (h:L[k]?=some s):beg L (k+1)=(s.p,s.q):=by
 show (match L[k]? with | some s=>(s.p,s.q) | none=>((0,1):Int×Int))=_
 rw [h]
theorem yN {L:List St4} {k:Nat} (h:L[k]?=none):beg L (k+1)=(0,1):=by
 show (match L[k]? with | some s=>(s.p,s.q) | none=>((0,1):Int×Int))=_
 rw [h]
theorem eJ {n:Nat} {L:List St4} (l:aM n L):∀ k,0 < (beg L k).2
 | 0=>(show (0:Int) < 1 by decide)
 | k+1=>by
  cases e:L[k]? with
  | none=>rw [yN e];decide
  | some s=>have:=l.ok s (List.mem_of_getElem? e);rw [cP e];exact Int.lt_of_lt_of_le this.1 this.2.1
theorem gw {n:Nat} {L:List St4} (l:aM n L) {k:Nat} {s:St4} (h:L[k]?=some s):0 < s.q:=by
 have:=l.ok s (List.mem_of_getElem? h);exact Int.lt_of_lt_of_le this.1 this.2.1
theorem yt {p q r s t u:Int} (hs:0 < s) (hq:0 < q) (hu:0 < u) (h1:p*s<=r*q) (h2:r*u<=t*s):p*u<=t*q:=by
 have e1:=Int.mul_le_mul_of_nonneg_right h1 (Int.le_of_lt hu);have e2:=Int.mul_le_mul_of_nonneg_right h2 (Int.le_of_lt hq);have e3:r*q*u=r*u*q:=by grind
 have e4:p*s*u=s*(p*u):=by grind
 have e5:t*s*q=s*(t*q):=by grind
 exact Int.le_of_mul_le_mul_left (show s*(p*u)<=s*(t*q) by omega) hs
theorem jy {n:Nat} {L:List St4} (l:aM n L) {k:Nat} {s:St4} (h:L[k]?=some s):(beg L k).1*s.q<=s.p*(beg L k).2:=by
 cases k with
 | zero=>have:=l.ok s (List.mem_of_getElem? h);show 0*s.q<=s.p*1;have:=this.1;omega
 | succ k =>
  have hk:k < L.length:=by have:=(List.getElem?_eq_some_iff.mp h).1;omega
  have e:L[k]?=some L[k]:=List.getElem?_eq_getElem hk;have a:=ve l.ch e h;rw [cP e];exact Int.le_of_lt a.1
theorem Hn {n:Nat} {L:List St4} (l:aM n L) {k:Nat} {s:St4} (h:L[k]?=some s):(beg L k).1*s.q < s.p*(beg L k).2:=by
 cases k with
 | zero=>have:=l.ok s (List.mem_of_getElem? h);show 0*s.q < s.p*1;have:=this.1;omega
 | succ k =>
  have hk:k < L.length:=by have:=(List.getElem?_eq_some_iff.mp h).1;omega
  have e:L[k]?=some L[k]:=List.getElem?_eq_getElem hk;have a:=ve l.ch e h;rw [cP e];exact a.1
theorem nW {n:Nat} {L:List St4} (l:aM n L) {k:Nat} {s:St4} (h:L[k]?=some s):∀ d,k+1+d<=L.length->s.p*(beg L (k+1+d)).2<=(beg L (k+1+d)).1*s.q
 | 0,_=>by show s.p*(beg L (k+1)).2<=(beg L (k+1)).1*s.q;rw [cP h];exact Int.le_refl _
 | d+1,hd=>by
  have ih:=nW l h d (by omega);have hk:k+1+d < L.length:=by omega
  have e:L[k+1+d]?=some L[k+1+d]:=List.getElem?_eq_getElem hk;have b:=jy l e;have eb:beg L (k+1+(d+1))=(L[k+1+d].p,L[k+1+d].q):=cP e;rw [eb];exact yt (eJ l _) (gw l h) (gw l e) ih b
theorem sY {s t:St4} (a:Adj s t):t.at s.p s.q=s.at s.p s.q:=by
 have:=a.2.1;unfold St4.at;have e:(t.m - s.m)*s.p+(t.h - s.h)*s.q=(t.m*s.p+t.h*s.q) - (s.m*s.p+s.h*s.q):=by grind
 omega
theorem wL {n:Nat} {L:List St4} (l:aM n L) {k:Nat} {s:St4} (hk:L[k]?=some s):∀(d:Nat) {j:St4},L[k+d]?=some j->∀{p q:Int},0 < q->(beg L (k+d)).1*q<=p*(beg L (k+d)).2->∃(i:Nat) (r:St4),L[i]?=some r/\Abv L k s r/\r.at p q<=j.at p q
 | 0,j,hj,p,q,_,_=>by
  have:L[k]?=some j:=hj;rw [hk] at this;cases this
  exact ⟨k,s,hk,Abv.self L k s,Int.le_refl _⟩
 | d+1,j,hj,p,q,hq,hb=>by
  have hlt:k+d < L.length:=by have:=(List.getElem?_eq_some_iff.mp hj).1;omega
  have e:L[k+d]?=some L[k+d]:=List.getElem?_eq_getElem hlt;have eb:beg L (k+(d+1))=(L[k+d].p,L[k+d].q):=cP e;rw [eb] at hb;have ch:=sY (ve l.ch e (show L[k+d+1]?=some j from hj));have qe:=gw l e;obtain ⟨i,r,hi,ab,le⟩:=wL l hk d e (p:=L[k+d].p) (q:=L[k+d].q) qe (jy l e);rw [<- ch] at le
  by_cases c:r.at p q<=j.at p q
  ·exact ⟨i,r,hi,ab,c⟩
  have c':j.at p q < r.at p q:=by omega
  refine ⟨k+(d+1),j,hj,⟨Int.le_trans ab.1 ?_,Int.le_trans ab.2 ?_⟩,Int.le_refl _⟩
  ·refine Cm qe hq (eJ l k) (.inl ⟨hb,?_⟩) le c';cases d with
   | zero=>have:=jy l e;simpa using this
   | succ d =>
    have h1:=jy l hk;have h2:=nW l hk d (by omega);have h3:=yt (gw l hk) (eJ l k) (eJ l (k+1+d)) h1 h2;rw [show k+1+d=k+(d+1) by omega] at h3;exact yt (eJ l (k+(d+1))) (eJ l k) qe h3 (jy l e)
  ·refine Cm qe hq (gw l hk) (.inl ⟨hb,?_⟩) le c';cases d with
   | zero =>
    have:L[k]?=some L[k+0]:=e;rw [hk] at this;rw [<- Option.some.inj this];exact Int.le_refl _
   | succ d =>
    have h2:=nW l hk d (by omega);rw [show k+1+d=k+(d+1) by omega] at h2;exact yt (eJ l (k+(d+1))) (gw l hk) qe h2 (jy l e)
theorem Bc {n:Nat} {L:List St4} (l:aM n L) {k:Nat} {s:St4} (hk:L[k]?=some s):∀(d i0:Nat) {j:St4},i0+d=k->L[i0]?=some j->∀{p q:Int},0 < q->p*j.q<=j.p*q->∃(i:Nat) (r:St4),L[i]?=some r/\Abv L k s r/\r.at p q<=j.at p q
 | 0,i0,j,hi,hj,p,q,_,_=>by
  have:i0=k:=hi;subst this;rw [hk] at hj;cases hj
  exact ⟨i0,s,hk,Abv.self L i0 s,Int.le_refl _⟩
 | d+1,i0,j,hi,hj,p,q,hq,hb=>by
  have hkl:=(List.getElem?_eq_some_iff.mp hk).1;have e:L[i0+1]?=some L[i0+1]:=List.getElem?_eq_getElem (by omega);have a:=ve l.ch hj e;have ch:=sY a;have qe:=gw l hj;obtain ⟨i,r,hi',ab,le⟩:=Bc l hk d (i0+1) (by omega) e (p:=j.p) (q:=j.q) qe (Int.le_of_lt a.1);rw [ch] at le
  by_cases c:r.at p q<=j.at p q
  ·exact ⟨i,r,hi',ab,c⟩
  have c':j.at p q < r.at p q:=by omega
  have h2:=nW l hj d (by omega);rw [show i0+1+d=k by omega] at h2;refine ⟨i0,j,hj,⟨Int.le_trans ab.1 (Cm qe hq (eJ l k) (.inr ⟨hb,h2⟩) le c'),Int.le_trans ab.2 (Cm qe hq (gw l hk) (.inr ⟨hb,yt (eJ l k) qe (gw l hk) h2 (jy l hk)⟩) le c')⟩,Int.le_refl _⟩
theorem pk_idx {L:List St4} {p q:Int} {s:St4} (h:pk L p q=some s):∃ j:Nat,L[j]?=some s/\¬s.p*q < p*s.q/\∀ i,i < j->∀ t,L[i]?=some t->t.p*q < p*t.q:=by
 unfold pk at h;obtain ⟨hp,i,hi,e,k⟩:=List.find?_eq_some_iff_getElem.mp h;refine ⟨i,by rw [List.getElem?_eq_getElem hi,e],by simpa using hp,λj hj t ht=>?_⟩;have:=k j hj;obtain ⟨hj',et⟩:=List.getElem?_eq_some_iff.mp ht;rw [et] at this;simpa using this
theorem between {r s:St4} {pb qb pe qe p q:Int} (hd:pb*qe < pe*qb) (h1:pb*q<=p*qb) (h2:p*qe<=pe*q) (hb:s.at pb qb<=r.at pb qb) (he:s.at pe qe<=r.at pe qe):s.at p q<=r.at p q:=by
 unfold St4.at at *;have key:(pe*qb - pb*qe)*(r.m*p+r.h*q - (s.m*p+s.h*q))=(pe*q - p*qe)*(r.m*pb+r.h*qb - (s.m*pb+s.h*qb))+(p*qb - pb*q)*(r.m*pe+r.h*qe - (s.m*pe+s.h*qe)):=by grind
 have a1:=Int.mul_nonneg (show 0<=pe*q - p*qe by omega) (show 0<=r.m*pb+r.h*qb - (s.m*pb+s.h*qb) by omega);have a2:=Int.mul_nonneg (show 0<=p*qb - pb*q by omega) (show 0<=r.m*pe+r.h*qe - (s.m*pe+s.h*qe) by omega);rcases Int.lt_or_le (r.m*p+r.h*q - (s.m*p+s.h*q)) 0 with z | z
 ·have:=Int.mul_neg_of_pos_of_neg (show 0 < pe*qb - pb*qe by omega) z;omega
 ·omega
theorem backs {n:Nat} {L:List St4} (l:aM n L) (inn:Inn L) {p q:Int} (hq:0 < q) (h0:0<=p) (hpq:p<=q) :
  (∃(j:Nat) (s:St4),L[j]?=some s/\∀ r,Abv L j s r->hAt L p q<=hS r.m r.h p q)/\
  ∀(k:Nat) (s:St4),L[k]?=some s->∃(i:Nat) (r:St4),L[i]?=some r/\Abv L k s r/\hS r.m r.h p q<=hAt L p q:=by
 obtain ⟨s,hs⟩:=sR l.way hq hpq;obtain ⟨j,hj,he,hb⟩:=pk_idx hs
 have bb:(beg L j).1*q<=p*(beg L j).2:=by
  cases j with
  | zero=>show 0*q<=p*1;omega
  | succ j =>
   have hlt:j < L.length:=by have:=(List.getElem?_eq_some_iff.mp hj).1;omega
   have e:L[j]?=some L[j]:=List.getElem?_eq_getElem hlt;rw [cP e];exact Int.le_of_lt (hb j (by omega) _ e)
 have ee:p*s.q<=s.p*q:=by omega
 have I:=inn p q hq h0 hpq;have ea:=cy hs;refine ⟨⟨j,s,hj,λr ab=>?_⟩,λk t hk=>?_⟩
 ·have:=between (Hn l hj) bb ee ab.1 ab.2;rw [<- ea] at this;unfold St4.at at this;unfold hS;omega
 ·have:∃(i:Nat) (r:St4),L[i]?=some r/\Abv L k t r/\r.at p q<=s.at p q:=by
   rcases Nat.lt_or_ge j k with z | z
   ·exact Bc l hk (k - j) j (by omega) hj hq ee
   ·exact wL l hk (j - k) (by rw [show k+(j - k)=j by omega];exact hj) hq (by rw [show k+(j - k)=j by omega];exact bb)
  obtain ⟨i,r,h1,h2,h3⟩:=this;refine ⟨i,r,h1,h2,?_⟩;rw [<- ea] at h3;unfold St4.at at h3;unfold hS;omega
theorem lt_tr {p q r s t u:Int} (hs:0 < s) (hq:0 < q) (hu:0 < u) (h1:p*s<=r*q) (h2:r*u < t*s):p*u < t*q:=by
 have e1:=Int.mul_le_mul_of_nonneg_right h1 (Int.le_of_lt hu);have e2:=Int.mul_lt_mul_of_pos_right h2 hq;have e3:r*q*u=r*u*q:=by grind
 have e4:p*s*u=s*(p*u):=by grind
 have e5:t*s*q=s*(t*q):=by grind
 exact Int.lt_of_mul_lt_mul_left (show s*(p*u) < s*(t*q) by omega) (Int.le_of_lt hs)
theorem Av {n:Nat} {L:List St4} (l:aM n L) (inn:Inn L) {k:Nat} {s:St4} (h:L[k]?=some s):0<=s.at s.p s.q/\s.at s.p s.q<=s.q:=by
 have ok:=l.ok s (List.mem_of_getElem? h);have hk:=(List.getElem?_eq_some_iff.mp h).1
 have e:pk L s.p s.q=some s:=xJ (k:=k) (λj hj t ht=>by
  have b:=nW l ht (k - (j+1)) (by omega);rw [show j+1+(k - (j+1))=k by omega] at b;exact lt_tr (eJ l k) (gw l ht) (gw l h) b (Hn l h)) h (by omega)
 have:=inn s.p s.q (gw l h) (Int.le_of_lt ok.1) ok.2.1;rw [cy e] at this;exact this
theorem Ho {n:Nat} {L:List St4} (l:aM n L) (inn:Inn L) {k:Nat} {s:St4} (h:L[k]?=some s):0<=s.at (beg L k).1 (beg L k).2/\s.at (beg L k).1 (beg L k).2<=(beg L k).2:=by
 cases k with
 | zero =>
  have ok:=l.ok s (List.mem_of_getElem? h);have e:pk L 0 1=some s:=xJ (k:=0) (λj hj=>absurd hj (by omega)) h (by have:=ok.1;omega);have:=inn 0 1 (by decide) (by decide) (by decide);rw [cy e] at this;exact this
 | succ k =>
  have hk:k < L.length:=by have:=(List.getElem?_eq_some_iff.mp h).1;omega
  have e:L[k]?=some L[k]:=List.getElem?_eq_getElem hk;rw [cP e];show 0<=s.at L[k].p L[k].q/\s.at L[k].p L[k].q<=L[k].q;rw [sY (ve l.ch e h)];exact Av l inn e
end Mine
set_option maxHeartbeats 4000000
namespace Mine
open PySem L2
local macro_rules | `(tactic| walk_at "mul") => `(tactic| first | exact fF (by assumption) (by assumption) | exact fF (by first | assumption | exact bc (by omega) | exact bc (by decide) | exact sm_mod (by decide) (by decide)) (by first | assumption | exact bc (by omega) | exact bc (by decide) | exact sm_mod (by decide) (by decide)))
local macro_rules | `(tactic| walk_at "rd1") => `(tactic| first
 | refine ⟨_,rfl,?_⟩
 | refine ⟨_,_,rfl,rfl,?_⟩
 | (refine ⟨_,_,rfl,rfl,?m,?_⟩;(case' m=>walk_at "mul"))
 | (refine ⟨_,_,rfl,rfl,?m,?_⟩;(case' m=>exact cY (by first | assumption | omega) (by assumption)))
 | (refine ⟨_,_,rfl,rfl,?m,?_⟩;(case' m=>show (0:Int) < _;decide))
 | (refine ⟨_,_,rfl,rfl,?m,?_⟩;(case' m=>exact ⟨by decide,by decide⟩))
 | (refine ⟨_,_,rfl,rfl,?m,?_⟩;(case' m=>exact ⟨by decide,by decide,by decide⟩))
 | (refine' ⟨_,_,_,_,rfl,rfl,?sq,?ia,?k⟩;(case' sq=>first | assumption | exact Scr.l (by assumption));(case' ia=>first | rfl | assumption))
 | refine ⟨rfl,?_⟩
 | (refine ⟨?m,?_⟩;(case' m=>walk_at "mul"))
 | (refine ⟨?m,?_⟩;(case' m=>exact cY (by first | assumption | omega) (by assumption)))
 | (refine ⟨?m,?_⟩;(case' m=>show (0:Int) < _;decide))
 | (refine ⟨?m,?_⟩;(case' m=>exact ⟨by decide,by decide⟩))
 | (refine ⟨?m,?_⟩;(case' m=>exact ⟨by decide,by decide,by decide⟩)))
local macro_rules | `(tactic| walk_at "rd") => `(tactic| repeat walk_at "rd1")
def hgD (s:St4) (p q:Int):PyData:=frD (Lo.dw (s.m*p+s.h*q) q) (Lo.di (s.m*p+s.h*q) q)
def Bf (K:W.Frag):Sp:=λvs H Q _=>∃(x y:V) (s:St4) (p q:Int),vs=[x,y]/\Dat K H (stD s) x/\Dat K H (frD p q) y/\0 < q/\Sm p/\Sm q/\Sm s.m/\Sm s.h/\∀ v H',aE H H'->Dat K H' (hgD s p q) v->Q v H'
variable {P:Program} {w:World} {K:W.Frag} {mg:Str->Option Value} {base:Heap}
theorem ok_told (T:au K mg "told_by_stretch" eV) (mR:Def P w K mg base 2 "fraction" ["top","bottom"] ED):Def P w K mg base 3 "told_by_stretch" ["stretch","x"] (Bf K):=by
 refine aO T gS (λ_ _ _ _ _ _=>L2.ar2 λ_ _=>rfl) ?_ ?_
 ·walk_at "i1";obtain ⟨x,y,s,p,q,rfl,_⟩:=h;rfl
 walk_at "i2";obtain ⟨x,y,s,p,q,rfl,hx,hy,q0,b1,b2,b3,b4,k⟩:=h;obtain ⟨a,e,rfl,sa,_⟩:=dA hx;obtain ⟨c,rfl,sc⟩:=nS hy;have nd:=gS.nd;refine ⟨_,(aj (aw (aD mR (hr.mono (by decide)) rfl (aa (aK bJ (aK bM (aF aG (pv 0) ak (λ_ _=>rfl)) (aF aG (pv 1) ak (λ_ _=>rfl))) (aK bM (aF aG (pv 0) ak (λ_ _=>rfl)) (aF aG (pv 1) ak (λ_ _=>rfl)))) (aa (aF aG (pv 1) ak (λ_ _=>rfl)) af))))),?_⟩
 walk_at "rd"
 exact ⟨_,q,rfl,by omega,b2,λz H' sm e=>k _ _ sm (kz (SqT.of e))⟩
def ux (K:W.Frag):Sp:=λvs H Q _=>∃(x:V) (p q:Int),vs=[x]/\Dat K H (frD p q) x/\Sm p/\Sm q/\Q (.bl (decide (p < 0\/q < p))) H
theorem zL (T:au K mg "is_outside" jm) (TN:iJ K mg "NOUGHT" [0,1]) (TW:iJ K mg "WHOLE" [1,1]) (wH:Def P w K mg base 1 "less" ["one","other"] (zo K)):Def P w K mg base 2 "is_outside" ["x"] (ux K):=by
 refine aO T lW (λ_ _ _ _ _ _=>L2.ar1 λ_=>rfl) ?_ ?_
 ·walk_at "i1";obtain ⟨x,p,q,rfl,_⟩:=h;rfl
 walk_at "i2";obtain ⟨x,p,q,rfl,hx,b1,b2,k⟩:=h;have nd:=lW.nd;obtain ⟨aN,fu,qN⟩:=TN.ex;obtain ⟨aW,wF,qW⟩:=TW.ex;refine ⟨_,(aj (aw (BA (aD wH (hr.mono (by decide)) rfl (aa (pv 0) (aa (dN (v:=V.ref aN) rfl fu rfl) af))) (jr (aD wH (hr.mono (by decide)) rfl (aa (dN (v:=V.ref aW) rfl wF rfl) (aa (pv 0) af))))))),?_⟩;have s0:Sm 0:=bc (by decide);have s1:Sm 1:=bc (by decide);refine ⟨_,rfl,_,_,p,q,0,1,rfl,hx,kz (qN H),b1,b2,s0,s1,_,rfl,?_⟩;refine cQ (λc=>?_) (λc=>?_)
 ·have c':p*1 < 0*q:=of_decide_eq_true c;rw [decide_eq_true (show p < 0\/q < p from .inl (by omega))] at k;exact k
 ·have c':¬p*1 < 0*q:=λz=>c (decide_eq_true z);refine ⟨_,rfl,_,_,1,1,p,q,rfl,kz (qW H),hx,s1,s1,b1,b2,?_⟩
  have e:decide (1*q < p*1)=decide (p < 0\/q < p):=by
   by_cases z:q < p
   ·rw [decide_eq_true (show 1*q < p*1 by omega),decide_eq_true (show p < 0\/q < p from .inr z)]
   ·rw [decide_eq_false (show ¬1*q < p*1 by omega),decide_eq_false (show ¬ (p < 0\/q < p) by omega)]
  rw [e];exact k
structure Bk (n:Nat) (L:List St4):Prop where
 b:Ln.aM n L
 i:Inn L
 few:L.length<=6
 mild:∀ s∈L,s.m.natAbs<=4
def oC (K:W.Frag):Sp:=λvs H Q _=>∃(x y:V) (s:St4) (p q:Int),vs=[x,y]/\Dat K H (stD s) x/\Dat K H (frD p q) y/\0 < q/\0 < s.q/\Sm p/\Sm q/\Sm s.m/\Sm s.h/\Sm s.p/\Sm s.q/\(0<=s.at p q/\s.at p q<=q)/\(0<=s.at s.p s.q/\s.at s.p s.q<=s.q)/\∀ H',aE H H'->Q (.bl false) H'
def mX (K:W.Frag):Sp:=λvs H Q _=>∃(x:V) (n:Nat) (L:List St4),vs=[x]/\n<=100/\Dat K H (lnD L) x/\Bk n L/\∀ H',aE H H'->Q .non H'
theorem Gy {t q:Int} (hq:0 < q) (h:0<=t/\t<=q):decide (Lo.dw t q < 0\/Lo.di t q < Lo.dw t q)=false:=by
 have e1:=Lo.iy t q;have e2:=Lo.gG t q;have g:=Lo.EI (t:=t) hq;refine decide_eq_false λz=>?_;rcases z with z | z
 ·have:=Int.mul_neg_of_pos_of_neg g z;omega
 ·have:=Int.mul_lt_mul_of_pos_left z g;omega
theorem zO (T:au K mg "is_out" rT) (oA:Def P w K mg base 2 "is_outside" ["x"] (ux K)) (iE:Def P w K mg base 3 "told_by_stretch" ["stretch","x"] (Bf K)):Def P w K mg base 4 "is_out" ["stretch","start"] (oC K):=by
 refine aO T uH (λ_ _ _ _ _ _=>L2.ar2 λ_ _=>rfl) ?_ ?_
 ·walk_at "i1";obtain ⟨x,y,s,p,q,rfl,_⟩:=h;rfl
 walk_at "i2";obtain ⟨x,y,st,p,q,rfl,dx,dy,q0,sq0,b1,b2,b3,b4,b5,b6,i1,i2,k⟩:=h;have nd:=uH.nd;obtain ⟨a,e,rfl,sa,de⟩:=dA dx
 have sm1:∀{t r:Int},0 < r->Sm r->0<=t/\t<=r->Sm (Lo.dw t r)/\Sm (Lo.di t r):=λ{t r} h0 hs ht=>by
  have h1:=Lo.lowT_le (t:=t) (show r≠0 by omega);have h2:=Lo.BP (t:=t) (show r≠0 by omega);unfold Sm at *;exact ⟨by omega,by omega⟩
 refine ⟨_,(aj (aw (BA (aD oA (hr.mono (by decide)) rfl (aa (aD iE (hr.mono (by decide)) rfl (aa (pv 0) (aa (pv 1) af))) af)) (jr (aD oA (hr.mono (by decide)) rfl (aa (aD iE (hr.mono (by decide)) rfl (aa (pv 0) (aa (aF aG (pv 0) ak (λ_ _=>rfl)) af))) af)))))),?_⟩;refine ⟨_,rfl,_,rfl,_,y,st,p,q,rfl,dx,dy,q0,b1,b2,b3,b4,λv1 H1 s1 d1=>?_⟩;have z1:=sm1 q0 b2 i1;refine ⟨v1,_,_,rfl,d1,z1.1,z1.2,_,rfl,?_⟩;have f1:=Gy q0 i1;unfold St4.at at f1;rw [f1];refine cX ?_;refine ⟨_,rfl,_,rfl,_,_,_,_,rfl,rfl,sa.ts s1.ts,rfl,_,e,st,st.p,st.q,rfl,dx.ts s1.ts,de.ts s1.ts,sq0,b5,b6,b3,b4,λv2 H2 s2 d2=>?_⟩;have z2:=sm1 sq0 b6 i2;refine ⟨v2,_,_,rfl,d2,z2.1,z2.2,?_⟩;have f2:=Gy sq0 i2;unfold St4.at at f2;rw [f2];exact k H2 (s1.trans s2)
theorem vx {x:Int} {n:Nat} (hn:n<=100) (h:x.natAbs < 2 ^ n):Sm x:=Nat.lt_of_lt_of_le h (Nat.pow_le_pow_right (by decide) (by omega))
theorem zE {n:Nat} {s:St4} (hn:n<=100) (h:Ln.OkB n s):Sm s.p/\Sm s.q/\Sm s.m/\Sm s.h/\0 < s.q:=by
 obtain ⟨h1,h2,_,h4,h5,h6⟩:=h;exact ⟨vx hn (Nat.lt_of_le_of_lt (show s.p.natAbs<=s.q.natAbs by omega) h4),vx hn h4,vx hn h5,vx hn h6,by omega⟩
theorem Hm {n:Nat} {L:List St4} (hn:n<=100) (l:Ln.aM n L) (k:Nat):Sm (beg L k).1/\Sm (beg L k).2:=by
 have c0:Sm 0:=bc (by decide);have c1:Sm 1:=bc (by decide);cases k with
 | zero=>exact ⟨c0,c1⟩
 | succ k =>
  cases e:L[k]? with
  | none=>rw [yN e];exact ⟨c0,c1⟩
  | some s=>rw [cP e];have:=zE hn (l.ok s (List.mem_of_getElem? e));exact ⟨this.1,this.2.1⟩
theorem CY (T:au K mg "must_stay" ir) (bu:mg "enumerate"=none) (TN:iJ K mg "NOUGHT" [0,1]) (tP:Def P w K mg base 4 "is_out" ["stretch","start"] (oC K)):Def P w K mg base 5 "must_stay" ["line"] (mX K):=by
 refine aO T gz (λ_ _ _ _ _ _=>L2.ar1 λ_=>rfl) ?_ ?_
 ·walk_at "i1";obtain ⟨x,n,L,rfl,_⟩:=h;rfl
 walk_at "i2";obtain ⟨x,n,L,rfl,hn,dx,bk,k⟩:=h;have nd:=gz.nd;obtain ⟨aN,fu,qN⟩:=TN.ex;obtain ⟨a,xs,rfl,sa,da⟩:=jH dx
 refine ⟨_,(ai (aJ (i:=1) nd rfl (Or.inl rfl) (dN (v:=V.ref aN) rfl fu rfl))
  (aj (cK PassesOwn.never rfl (nJ rfl bu (pv 0)) (kh rfl (ba (aP (i:=2) nd rfl (Or.inl rfl)) (ba (aP (i:=3) nd rfl (Or.inl rfl)) fh))) (ai (aY (gq (aD tP (hr.mono (by decide)) rfl (aa (pv 3) (aa (pv 1) af)))) (aj qB) aI)
  (aj (aJ (i:=1) nd rfl (Or.inl rfl) (aF aG (pv 3) ak (λ_ _=>rfl)))))))),?_⟩
 refine ⟨_,rfl,a,rfl,⟨xs,sa⟩,?_⟩;refine lD (xs:=xs) (λi σ H'=>aE H H'/\∃ t o2 o3,σ=[some (.ref a),some t,o2,o3]/\Dat K H' (frD (beg L i).1 (beg L i).2) t) ⟨aE.refl _,_,_,_,rfl,kz (qN H)⟩ (λi σ H' _ h=>sa.ts h.1.ts) (λi x T' σ H' hx h hT=>?_) (λσ H' h=>?_)
 ·obtain ⟨sm',t,o2,o3,rfl,dt⟩:=h;obtain ⟨st,hst,dst⟩:=hV (da.ts sm'.ts) hx;have u1:=ao hT (.tup [.int i,x]);have ds:=dst.ts u1.ts;obtain ⟨c,e,rfl,q1,d1⟩:=dA ds;obtain ⟨m1,m2,m3,m4,m5⟩:=zE hn (bk.b.ok st (List.mem_of_getElem? hst));obtain ⟨b1,b2⟩:=Hm hn bk.b i;refine ⟨T',_,rfl,SqT.of ae,rfl,_,_,rfl,_,_,rfl,rfl,?_⟩;refine ⟨_,rfl,_,rfl,_,t,st,(beg L i).1,(beg L i).2,rfl,ds,dt.ts u1.ts,eJ bk.b i,m5,b1,b2,m3,m4,m1,m2,Ho bk.b bk.i hst,Av bk.b bk.i hst,λH2 s2=>⟨_,rfl,cX ?_⟩⟩;refine ⟨_,rfl,_,_,_,_,rfl,rfl,q1.ts s2.ts,rfl,(sm'.trans u1).trans s2,e,_,_,rfl,?_⟩;rw [cP hst];exact d1.ts s2.ts
 ·exact k _ h.1
theorem Dq {tm ts:Tok} (T:au K mg "must_lead_back" dI) (bu:mg "enumerate"=none) (aU:mg "len"=none) (iD:mg "abs"=none) (cg:mg "MOST_STRETCHES"=some (.int 6 tm)) (cf:mg "STEEPEST_backs"=some (.int 4 ts)) (kK:Def P w K mg base 5 "must_stay" ["line"] (mX K)):Def P w K mg base 6 "must_lead_back" ["line"] (mX K):=by
 refine aO T dB (λ_ _ _ _ _ _=>L2.ar1 λ_=>rfl) ?_ ?_
 ·walk_at "i1";obtain ⟨x,n,L,rfl,_⟩:=h;rfl
 walk_at "i2";obtain ⟨x,n,L,rfl,hn,dx,bk,k⟩:=h;have nd:=dB.nd;obtain ⟨a,xs,rfl,sa,da⟩:=jH dx;have lx:=dU da;have few:=bk.few
 refine ⟨_,(ai (bg (aD kK (hr.mono (by decide)) rfl (aa (pv 0) af)))
  (ai (aY (aC hU (aB aS rfl aU (by decide+kernel) (aa (pv 0) af)) (dN (v:=V.int 6) rfl cg ⟨_,rfl⟩) (aH _)) (aj qB) aI)
  (aj (cK PassesOwn.never rfl (nJ rfl bu (pv 0)) (kh rfl (ba (aP (i:=1) nd rfl (Or.inl rfl)) (ba (aP (i:=2) nd rfl (Or.inl rfl)) fh))) (aj (aY (aC hU (aB je rfl iD (by decide+kernel) (aa (aF aG (pv 2) ak (λ_ _=>rfl)) af)) (dN (v:=V.int 4) rfl cf ⟨_,rfl⟩) (aH _)) (aj qB) aI)))))),?_⟩
 refine ⟨_,rfl,_,n,L,rfl,hn,dx,bk,λH1 s1=>?_⟩;refine ⟨_,rfl,_,_,rfl,.inr ⟨_,sa.ts s1.ts,rfl⟩,_,_,rfl,rfl,_,rfl,cQ (λc=>?_) (λ_=>?_)⟩
 ·have c:=of_decide_eq_true c;exfalso;omega
 refine ⟨_,rfl,a,rfl,⟨xs,sa.ts s1.ts⟩,?_⟩;refine lD (xs:=xs) (λi σ H'=>aE H H'/\∃ o1 o2,σ=[some (.ref a),o1,o2]) ⟨s1,_,_,rfl⟩ (λi σ H' _ h=>sa.ts h.1.ts) (λi x T' σ H' hx h hT=>?_) (λσ H' h=>?_)
 ·obtain ⟨sm',o1,o2,rfl⟩:=h;obtain ⟨st,hst,dst⟩:=hV (da.ts sm'.ts) hx;have u1:=ao hT (.tup [.int i,x]);obtain ⟨c,e,rfl,q1,d1⟩:=dA (dst.ts u1.ts);have mi:=bk.mild st (List.mem_of_getElem? hst);refine ⟨T',_,rfl,SqT.of ae,rfl,_,_,rfl,_,_,rfl,rfl,?_⟩;refine ⟨_,rfl,_,_,_,_,rfl,rfl,q1,rfl,_,rfl,_,_,rfl,rfl,_,rfl,cQ (λc=>?_) (λ_=>?_)⟩
  ·have c:=of_decide_eq_true c;rw [wy] at c;exfalso;omega
  ·exact ⟨sm'.trans u1,_,_,rfl⟩
 ·exact k _ h.1
def yL (m h:Int) (s:St4) (p q:Int):Bool:=decide ((m - s.m)*p+(h - s.h)*q < 0)
def Sm32 (m h:Int) (s:St4):Prop:=m.natAbs<=2000/\h.natAbs<=2000/\s.m.natAbs<=2000/\s.h.natAbs<=2000/\s.p.natAbs<=2000/\s.q.natAbs<=2000
def pL (K:W.Frag):Sp:=λvs H Q _=>∃(b:Addr) (v x:V) (m h:Int) (s:St4) (p q:Int),vs=[.ref b,v,x]/\H b=some (.tup [.int m,.int h])/\Dat K H (stD s) v/\Dat K H (frD p q) x/\Sm32 m h s/\p.natAbs<=2000/\q.natAbs<=2000/\Q (.bl (yL m h s p q)) H
def uz (K:W.Frag):Sp:=λvs H Q _=>∃(b:Addr) (v x:V) (m h:Int) (s:St4) (p q:Int),vs=[.ref b,v,x]/\H b=some (.tup [.int m,.int h])/\Dat K H (stD s) v/\Dat K H (frD p q) x/\Sm32 m h s/\p.natAbs<=2000/\q.natAbs<=2000/\Q (.bl (yL m h s p q || yL m h s s.p s.q)) H
theorem vO (T:au K mg "is_below_at" iH):Def P w K mg base 1 "is_below_at" ["rule","stretch","x"] (pL K):=by
 refine aO T jN (λ_ _ _ _ _ _=>L2.ar3 λ_ _ _=>rfl) ?_ ?_
 ·walk_at "i1";obtain ⟨b,v,x,m,h,s,p,q,rfl,_⟩:=h;rfl
 walk_at "i2";obtain ⟨b,v,x,m,h,st,p,q,rfl,eb,dv,dx,⟨s1,s2,s3,s4,s5,s6⟩,s7,s8,k⟩:=h;have nd:=jN.nd;have sb:SqT K H b [.int m,.int h]:=SqT.of eb;obtain ⟨c,e,rfl,sc,_⟩:=dA dv;obtain ⟨a,rfl,sa⟩:=nS dx;have m1:Sm (m - st.m):=bc (by omega);have m2:Sm (h - st.h):=bc (by omega);have m3:Sm p:=bc (by omega);have m4:Sm q:=bc (by omega);refine ⟨_,(aj (aw (jt jE (aK bJ (aK bM (aK du (aF aG (pv 0) ak (λ_ _=>rfl)) (aF aG (pv 1) ak (λ_ _=>rfl))) (aF aG (pv 2) ak (λ_ _=>rfl))) (aK bM (aK du (aF aG (pv 0) ak (λ_ _=>rfl)) (aF aG (pv 1) ak (λ_ _=>rfl))) (aF aG (pv 2) ak (λ_ _=>rfl)))) ak (aH _)))),?_⟩;refine ⟨_,rfl,_,_,_,_,rfl,rfl,sb,rfl,_,rfl,_,_,_,_,rfl,rfl,sc,rfl,_,_,rfl,rfl,_,rfl,_,_,_,_,rfl,rfl,sa,rfl,_,_,rfl,rfl,fF m1 m3,_,rfl,_,_,_,_,rfl,rfl,sb,rfl,_,rfl,_,_,_,_,rfl,rfl,sc,rfl,_,_,rfl,rfl,_,rfl,_,_,_,_,rfl,rfl,sa,rfl,_,_,rfl,rfl,fF m2 m4,_,_,rfl,rfl,_,_,rfl,rfl,k⟩
theorem zR (T:au K mg "is_below" mF) (md:Def P w K mg base 1 "is_below_at" ["rule","stretch","x"] (pL K)):Def P w K mg base 2 "is_below" ["rule","stretch","start"] (uz K):=by
 refine aO T pR (λ_ _ _ _ _ _=>L2.ar3 λ_ _ _=>rfl) ?_ ?_
 ·walk_at "i1";obtain ⟨b,v,x,m,h,s,p,q,rfl,_⟩:=h;rfl
 walk_at "i2";obtain ⟨b,v,x,m,h,st,p,q,rfl,eb,dv,dx,S,s7,s8,k⟩:=h;have nd:=pR.nd;obtain ⟨c,e,rfl,sc,de⟩:=dA dv;refine ⟨_,(aj (aw (BA (aD md (hr.mono (by decide)) rfl (aa (pv 0) (aa (pv 1) (aa (pv 2) af)))) (jr (aD md (hr.mono (by decide)) rfl (aa (pv 0) (aa (pv 1) (aa (aF aG (pv 1) ak (λ_ _=>rfl)) af)))))))),?_⟩;refine ⟨_,rfl,_,rfl,_,rfl,b,_,x,m,h,st,p,q,rfl,eb,dv,dx,S,s7,s8,_,rfl,?_⟩;refine cQ (λz=>?_) (λz=>?_)
 ·rw [z,Bool.true_or] at k;exact k
 ·rw [Bool.not_eq_true] at z;rw [z,Bool.false_or] at k;exact ⟨_,rfl,_,rfl,_,rfl,_,_,_,_,rfl,rfl,sc,rfl,b,_,e,m,h,st,st.p,st.q,rfl,eb,dv,de,S,S.2.2.2.2.1,S.2.2.2.2.2,k⟩
end Mine
namespace L2
open PySem PySem.Spec PyProof.Rows
section
variable {prog:Program} {w:World} {A:Around} {E:Value->Shared->Prop} {s:Shared}
structure HJ (h:Heap) (d:Addr) (es:Array DictEntry) (ep:Nat):Prop where
 ex:∃ o,h.get? d=some o/\o.ExactDict/\o.data=.dict es ep
theorem HJ.ty {d:Addr} {es:Array DictEntry} {ep:Nat} (x:HJ s.heap d es ep):s.TypeIs (.ref d) "dict":=by
 obtain ⟨o,ho,hc,_⟩:=x.ex;exact ⟨o,ho,hc.1⟩
theorem es_iter {d:Addr} {es:Array DictEntry} {ep:Nat} {Q:Value->Shared->Prop} (hd:(d == sysModules)=false) (x:HJ s.heap d es ep)
  (q:Q (.ref s.heap.objs.size) {s with heap:=s.heap.push {cls:=.type "dict_keyiterator",data:=.fields #[.ref d,.int 0 0,.int es.size 0,.int ep 0] } }):wpAny (model prog w) A (pyIter (.ref d)) Q E s:=by
 have ty:=x.ty;obtain ⟨o,ho,hc,dat⟩:=x.ex;refine wpAny_pyIter_slot ty F.slot_dict_iter (wpAny_call_entry F.slot_dict_iter ty F.entry_dict_iter ?_ (F.args_dict_iter_1 _));show wpAny _ _ (Builtin.Dict.dictSlotNone _ _ >>= _) _ _ s;unfold Builtin.Dict.dictSlotNone;refine wpAny_bind (wpAny_bind (wpAny_notOrdered_dict ty (wpAny_pure ?_)));have no:¬ ((d == sysModules)=true):=by rw [hd];exact Bool.false_ne_true
 show wpAny _ _ (Builtin.Dict.showsAll d >>= _) _ _ s;unfold Builtin.Dict.showsAll;rw [if_neg no];refine wpAny_bind (wpAny_pure (wpAny_bind (wpAny_dictEntries ho dat (wpAny_bind (wpAny_dictEpoch ho dat (wpAny_bind (wpAny_newObj_type (wpAny_pure ⟨_,rfl,"dict_keyiterator",_,⟨_,Heap.get?_push_size _ rfl,rfl⟩,F.slot_dict_keyiterator_next.lookup,?_⟩))))))));simpa [rawInt] using q
theorem Cc {it d:Addr} {i ep:Nat} {es:Array DictEntry} {Q:Option Value->Shared->Prop} (hh:A.handled=none) (k:s.heap.IsKeyIter it d i es.size ep) (x:HJ s.heap d es ep)
  (q1:∀ e h',es[i]?=some e->h'.IsKeyIter it d (i+1) es.size ep->Heap.SameBut it s.heap h'->Q (some e.key) {s with heap:=h' })
  (q2:∀ h',es[i]?=none->Heap.ExtBut it s.heap h'->Q none {s with heap:=h' }):wpAny (model prog w) A (pyNext (.ref it)) Q E s:=by
 have ty:=k.typeIs;obtain ⟨io,hio,ic,idt⟩:=id k;obtain ⟨o,ho,hc,dat⟩:=x.ex;unfold pyNext;refine wpAny_bind (wpAny_attempt (wpAny_callSpecial?_slot (name:=Str.ofString "__next__") ty F.slot_dict_keyiterator_next (wpAny_call_entry F.slot_dict_keyiterator_next ty F.entry_dict_keyiterator_next ?_ (F.args_dict_keyiterator_next_1 _))));have own:Builtin.Dict_items.ownsTuple "dict_keyiterator"=false:=by decide
 have nn:¬ ((Value.ref d == Value.none)=true):=Bool.false_ne_true;have i0:¬ ((i:Int) < 0):=by omega
 refine wpAny_bind (wpAny_pure (wpAny_bind (wpAny_bind ?_)));refine wpAny_bind (wpAny_typeNameOfWhole_keyiter ty (wpAny_pure (wpAny_bind (wpAny_fieldsOf hio idt ?_))));simp only [own,Bool.false_eq_true,if_false];show wpAny _ _ (if (Value.ref d == Value.none)=true then _ else _) _ _ s;rw [if_neg nn];refine wpAny_bind (wpAny_pure (wpAny_bind (wpAny_dictEntries ho dat ?_)));rw [if_neg (by simp)];refine wpAny_bind (wpAny_pure (wpAny_bind (wpAny_dictEpoch ho dat ?_)));rw [if_neg (by simp)];refine wpAny_pure ?_;cases e:es[i]? with
 | some en =>
  simp only [i0,if_false,Int.toNat_natCast,e];refine wpAny_bind (wpAny_bind (wpAny_typeNameOfWhole_keyiter ty (wpAny_pure (wpAny_bind (wpAny_isOneOf_keyiter ty ?_)))));show wpAny _ _ (setField (.ref it) 1 (rawInt ((i:Int)+1)) >>= _) _ _ s;refine wpAny_bind (wpAny_setField hio idt (by simp) ?_)
  have k':(s.heap.update it (Obj.mapFields (·.setIfInBounds 1 (rawInt ((i:Int)+1))))).IsKeyIter it d (i+1) es.size ep:=
   ⟨_,Heap.get?_update_self _ hio (Obj.isFreed_of_fields (Obj.data_mapFields idt _)),(Obj.cls_mapFields ..).trans ic,by rw [Obj.data_mapFields idt];simp [rawInt]⟩
  refine wpAny_bind (wpAny_holding (wpAny_bind (wpAny_isOneOf_keyiter (s:={s with heap:=s.heap.update it (Obj.mapFields (·.setIfInBounds 1 (rawInt ((i:Int)+1)))) }) k'.typeIs ?_)))
  show wpAny _ _ (pure en.key) _ _ _;exact wpAny_pure (wpAny_pure ⟨_,rfl,wpAny_pure (q1 en _ e k' (Heap.SameBut.update ..))⟩)
 | none =>
  simp only [i0,if_false,Int.toNat_natCast,e];refine wpAny_bind (wpAny_bind (wpAny_typeNameOfWhole_keyiter ty (wpAny_pure ?_)));show wpAny _ _ (setField (.ref it) 0 .none >>= _) _ _ s;refine wpAny_bind (wpAny_setField hio idt (by simp) ?_);show wpAny _ _ (newExc (.type "StopIteration") [] >>= _) _ _ _;refine wpAny_bind ?_;simp only [newExc,newTuple];refine wpAny_bind (wpAny_newObj_type ?_ (by size_fits));refine wpAny_bind (m:=firstArgMember _ _) (wpAny_of_eq (a:=Value.none) (by rfl) ?_);refine wpAny_newObj_type ?_ (by size_fits);simp only [raiseNew];refine wpAny_bind (wpAny_handled ?_);rw [show A.in1.handled=none from hh];refine wpAny_bind (wpAny_pure (wpAny_throw ?_));refine wpAny_bind (wpAny_isInstance (T:="StopIteration") (b:=true) ⟨_,Heap.get?_push_size _ rfl,rfl⟩ isSubtype_stop ?_);exact wpAny_pure (q2 _ e (((Heap.SameBut.update ..).extBut.push _).push _))
end
theorem uN {α β:Type} {R:α->β->Prop}:∀{as:List α} {bs:List β},Paired R as bs->as.length=bs.length/\∀(i:Nat) (b:β),bs[i]?=some b->∃ a,as[i]?=some a/\R a b
 | _,_,.nil=>⟨rfl,λi b h=>by simp at h⟩
 | _,_,.cons r t=>by
  obtain ⟨l,k⟩:=uN t;refine ⟨by simp [l],λi b h=>?_⟩;cases i with
  | zero=>cases h;exact ⟨_,rfl,r⟩
  | succ i=>simpa using k i b (by simpa using h)
def Itd (d:Addr) (o:Obj) (kvs:List (List Key×V)):It:=
 ⟨λi H=>H d=some (.frz o (.dT kvs))/\i < kvs.length,λi H x H'=>H'=H/\∃ b k v,kvs[i]?=some (k,v)/\x=.ref b/\H b=some (.tup (k.map kV)),λi H=>H d=some (.frz o (.dT kvs))/\kvs.length<=i⟩
theorem es_of {P:Program} {w:World} {H:Hp} {h:Heap} {d:Addr} {o:Obj} {kvs:List (List Key×V)} {es:Array DictEntry} {ep:Nat} (dat:o.data=.dict es ep) (ok:HOk P w H h) (e:H d=some (.frz o (.dT kvs))) :
  HJ h d es ep/\es.size=kvs.length/\∀(i:Nat) (en:DictEntry),es[i]?=some en->∃(b:Addr) (k:List Key) (v:V),kvs[i]?=some (k,v)/\en.key=Value.ref b/\H b=some (.tup (k.map kV)):=by
 obtain ⟨e1,_,_,xs,pr,o',es',ep',e2,exd,dat',el,_⟩:=(show bC P w H h d (.frz o (.dT kvs)) from ok d _ e);rw [e1] at e2;cases e2
 rw [dat] at dat';cases dat'
 obtain ⟨l,at_⟩:=uN pr;refine ⟨⟨o,e1,exd,dat⟩,?_,λi en he=>?_⟩
 ·rw [<- Array.length_toList,el,List.length_map,l]
 ·have he':es.toList[i]?=some en:=by rw [Array.getElem?_toList];exact he
  rw [el,List.getElem?_map] at he';cases ex:xs[i]? with
  | none=>rw [ex] at he';cases he'
  | some x =>
   rw [ex] at he';cases he'
   obtain ⟨⟨k,v⟩,ea,r1,r2,_⟩:=at_ i x ex;exact ⟨x.2.1,k,v,ea,rfl,r2⟩
theorem CG {P:Program} {w:World} {K:W.Frag} {tg:Expr} (d it:Addr) (o:Obj) (kvs:List (List Key×V)) {es:Array DictEntry} {ep:Nat} (dat:o.data=.dict es ep):Turn P w K tg (Itd d o kvs) [it] it (λi h=>h.IsKeyIter it d i es.size ep) where
 mem:=by simp
 obj:=λi h st b hb=>by
  have e:b=it:=by simpa using hb
  subst e;obtain ⟨o,e,c,d⟩:=st;exact ⟨o,e,λv z=>by rw [d] at z;cases z⟩
 keep:=λi h h' st k=>st.at λo e=>k it (by simp) o e
 item:=by
  intro X hP hw hK hc i pins s σ H E I hf st hg;subst hP hw hK;obtain ⟨hd,hi⟩:=hg;obtain ⟨x,hs,kk⟩:=es_of dat I.hok hd;obtain ⟨f0,f1,f2,f3,f4,f5⟩:=hf it (by simp);refine Cc (I.ok.hd hc) st x (λen h' he k' sb=>?_) (λh' hn _=>?_)
  ·obtain ⟨b,k,v,e1,e2,e3⟩:=kk i en he;rw [e2];have I1:Inv X pins σ H {s with heap:=h' }:=I.turned (t':=s.toks) (λb o hb e=>(sb.2 b hb).trans e) f0 f1 f3 f4 f5
   obtain ⟨io,e,c,dd⟩:=id k';exact ⟨_,rfl,BZ (s:={s with heap:=h' }) e c dd (by decide) ⟨.ref b,H,I1,rfl,⟨rfl,b,k,v,e1,rfl,e3⟩,k',λb hb=>(hf b hb).1⟩⟩
  ·have:es.size<=i:=by simpa using hn
   omega
 done:=by
  intro X hP hw hK hc i pins s σ H E I hf st hg;subst hP hw hK;obtain ⟨hd,hi⟩:=hg;obtain ⟨x,hs,kk⟩:=es_of dat I.hok hd;obtain ⟨f0,f1,f2,f3,f4,f5⟩:=hf it (by simp);refine Cc (I.ok.hd hc) st x (λen h' he _ _=>?_) (λh' hn eb=>⟨rfl,I.turned (t':=s.toks) (λb o hb e=>eb b o hb e) f0 f1 f3 f4 f5⟩);have:i < es.size:=(Array.getElem?_eq_some_iff.mp he).1;omega
 self:=λ_ _ _ _ _ st h=>wpAny_pyIter_keyiter st h
section
variable {X:Cx} {tg:Expr}
def iDict (tl:TE):TI:=λσ H R=>tl σ H λx H1=>∃ d kvs,x=.ref d/\Rd H1 d (.dT kvs)/\∀ o,(∀ o',H1 d=some (.frz o' (.dT kvs))->o'=o)->R (Itd d o kvs) (upd H1 d (.frz o (.dT kvs)))
theorem pi_dict {l:Expr} {tl:TE} (hl:PE X l tl):PI X tg l (iDict tl):=by
 intro pins s σ H R I h;refine thn (hl pins s σ H _ I h) λv s1 zz=>?_;obtain ⟨x,H1,I1,rx,d,kvs,ex,rd,q⟩:=zz;subst ex;have ev:v=Value.ref d:=rx;subst ev;obtain ⟨sz,nd,xs,pr,o,es,ep,ho,exd,dat,el,nod⟩:=(show bC X.prog X.w H1 s1.heap d (.dT kvs) from rd.ok I1.hok)
 have same:∀ o',H1 d=some (.frz o' (.dT kvs))->o'=o:=λo' z=>by
  obtain ⟨e1,_⟩:=(show bC X.prog X.w H1 s1.heap d (.frz o' (.dT kvs)) from I1.hok d _ z);rw [e1] at ho;exact Option.some.inj ho
 have I2:Inv X pins σ (upd H1 d (.frz o (.dT kvs))) s1:=by
  rcases rd with rd | ⟨o',rd⟩
  ·have nt:∀ b ys,H1 b=some (.tup ys)->upd H1 d (.frz o (.dT kvs)) b=some (.tup ys):=λb ys hb=>by
    rw [aq (λz=>by rw [z,rd] at hb;cases hb)];exact hb
   exact I1.write (h':=s1.heap) (t':=s1.toks) (e:=d) (by rw [rd];trivial) (.inl rfl) (λb u _ z=>z) ⟨o,ho⟩ ⟨ho,sz,nd,xs,Paired.mapP pr λ_ _ z=>⟨z.1,nt _ _ z.2.1,z.2.2⟩,o,es,ep,ho,exd,dat,el,nod⟩
  ·obtain ⟨e1,_⟩:=(show bC X.prog X.w H1 s1.heap d (.frz o' (.dT kvs)) from I1.hok d _ rd);rw [e1] at ho;cases ho
   have:upd H1 d (.frz o (.dT kvs))=H1:=by
    funext b;unfold upd
    by_cases z:b=d
    ·rw [if_pos z,z,rd]
    ·rw [if_neg z]
   rw [this];exact I1
 refine es_iter nd ⟨o,ho,exd,dat⟩ ?_;have I3:=I2.kept (t':=s1.toks) (h':=s1.heap.push {cls:=.type "dict_keyiterator",data:=.fields #[.ref d,.int 0 0,.int es.size 0,.int ep 0] }) λb o e=>Heap.get?_push_of_some _ e;refine ⟨_,[s1.heap.objs.size],_,Itd d o kvs,_,rfl,I3,CG d _ o kvs dat,⟨_,Heap.get?_push_size _ rfl,rfl,rfl⟩,λb hb=>?_,q o same⟩;have e:b=s1.heap.objs.size:=by simpa using hb
 subst e;exact I2.fpOk (Nat.le_refl _) (I2.hok.fresh (Nat.le_refl _))
end
end L2
namespace Mine
open PySem L2
theorem DM {tc:TT} {te:TE} {js:List Nat} {σ:St} {H:Hp} {Q:VK} {d:Addr} {o:Obj} {kvs:List (List Key×V)} (p:List Key×V->Bool) (g:List Key×V->V) (e:H d=some (.frz o (.dT kvs))) (hx:kvs.length<=1000)
  (ht:∀(i:Nat) (kv:List Key×V) (b:Addr) H' (N:Bool->Hp->Prop),kvs[i]?=some kv->aE H H'->H' b=some (.tup (kv.1.map kV))->(∀ H'',aE H' H''->N (p kv) H'')->tc (some (.ref b)::dj js σ) H' N)
  (hs:∀(i:Nat) (kv:List Key×V) (b:Addr) H' (N:VK),kvs[i]?=some kv->p kv=true->aE H H'->H' b=some (.tup (kv.1.map kV))->(∀ H'',aE H' H''->N (g kv) H'')->te (some (.ref b)::dj js σ) H' N)
  (hd:∀ D H',aE H H'->H D=none->H' D=some (.lst ((kvs.filter p).map g))->Q (.ref D) H'):gP (λ_ H R=>R (Itd d o kvs) H) tc te js σ H Q:=by
 intro D hD;have s0:=ao hD (.lst []);refine ⟨λi m H'=>m=kvs.length - i/\i<=kvs.length/\aE H H'/\H' D=some (.lst (((kvs.take i).filter p).map g)),⟨kvs.length,rfl,Nat.zero_le _,s0,ae⟩,?_⟩;rintro i m H2 ⟨rfl,hi,s2,eD⟩
 have e2:=s2 _ _ e
 by_cases hlt:i < kvs.length
 ·refine .inr ⟨⟨e2,hlt⟩,λx H3 y=>?_⟩;obtain ⟨eh,b,k,v,hv,rfl,eb⟩:=y;subst eh;have tk:kvs.take (i+1)=kvs.take i++[(k,v)]:=by rw [List.take_add_one,hv];rfl
  have hln:((kvs.take i).filter p).length<=i:=Nat.le_trans (List.length_filter_le _ _) (by rw [List.length_take];omega);refine ht i (k,v) b _ _ hv s2 eb λH4 s4=>?_
  by_cases hp:p (k,v)=true
  ·rw [if_pos hp];refine hs i (k,v) b H4 _ hv hp (s2.trans s4) (s4 _ _ eb) λH5 s5=>?_;have e5:=s5 _ _ (s4 _ _ eD);refine ⟨_,e5,by rw [List.length_map];exact Nat.lt_of_le_of_lt (show _<=1000 by omega) (by decide),kvs.length - (i+1),by omega,rfl,hlt,bp ((s2.trans s4).trans s5) hD _,?_⟩;rw [ae,tk,List.filter_append,List.filter_cons_of_pos hp,List.map_append];rfl
  ·rw [if_neg hp];refine ⟨kvs.length - (i+1),by omega,rfl,hlt,s2.trans s4,?_⟩;rw [tk,List.filter_append,List.filter_cons_of_neg hp,List.map_append];have z:=s4 _ _ eD;simpa using z
 ·have ei:i=kvs.length:=by omega
  subst ei;rw [List.take_length] at eD;exact .inl ⟨⟨e2,Nat.le_refl _⟩,hd D H2 s2 hD eD⟩
theorem sS {q:Int}:∀(r:List Int) (a:Int),r.foldl (W5.worth .lesser q) a<=a/\(∀ b∈r,r.foldl (W5.worth .lesser q) a<=b)/\(r.foldl (W5.worth .lesser q) a=a\/r.foldl (W5.worth .lesser q) a∈r)
 | [],a=>⟨Int.le_refl _,(λ_ h=>nomatch h),.inl rfl⟩
 | b::r,a=>by
  obtain ⟨h1,h2,h3⟩:=sS (q:=q) r (W5.worth .lesser q a b);have e:(b::r).foldl (W5.worth .lesser q) a=r.foldl (W5.worth .lesser q) (W5.worth .lesser q a b):=rfl;rw [e];have m:W5.worth .lesser q a b=min a b:=rfl;rw [m] at h1 h2 h3 ⊢;refine ⟨by omega,λc hc=>?_,?_⟩
  ·rcases List.mem_cons.mp hc with rfl | hc
   ·omega
   ·exact h2 c hc
  ·rcases h3 with z | z
   ·by_cases c:a<=b
    ·exact .inl (by rw [z];omega)
    ·exact .inr (by rw [z,show min a b=b by omega];exact List.mem_cons_self)
   ·exact .inr (List.mem_cons_of_mem _ z)
theorem sT {q:Int}:∀(r:List Int) (a:Int),a<=r.foldl (W5.worth .greater q) a/\(∀ b∈r,b<=r.foldl (W5.worth .greater q) a)/\(r.foldl (W5.worth .greater q) a=a\/r.foldl (W5.worth .greater q) a∈r)
 | [],a=>⟨Int.le_refl _,(λ_ h=>nomatch h),.inl rfl⟩
 | b::r,a=>by
  obtain ⟨h1,h2,h3⟩:=sT (q:=q) r (W5.worth .greater q a b);have e:(b::r).foldl (W5.worth .greater q) a=r.foldl (W5.worth .greater q) (W5.worth .greater q a b):=rfl;rw [e];have m:W5.worth .greater q a b=max a b:=rfl;rw [m] at h1 h2 h3 ⊢;refine ⟨by omega,λc hc=>?_,?_⟩
  ·rcases List.mem_cons.mp hc with rfl | hc
   ·omega
   ·exact h2 c hc
  ·rcases h3 with z | z
   ·by_cases c:b<=a
    ·exact .inl (by rw [z];omega)
    ·exact .inr (by rw [z,show max a b=b by omega];exact List.mem_cons_self)
   ·exact .inr (List.mem_cons_of_mem _ z)
theorem GS {q:Int} {l:List Int} (h:l≠[]):(∀ a∈l,fw .lesser q l<=a)/\fw .lesser q l∈l:=by
 cases l with
 | nil=>exact absurd rfl h
 | cons a r =>
  obtain ⟨h1,h2,h3⟩:=sS (q:=q) r a;refine ⟨λb hb=>?_,?_⟩
  ·rcases List.mem_cons.mp hb with rfl | hb
   ·exact h1
   ·exact h2 b hb
  ·rcases h3 with z | z
   ·show r.foldl (W5.worth .lesser q) a∈_;rw [z];exact List.mem_cons_self
   ·exact List.mem_cons_of_mem _ z
theorem GU {q:Int} {l:List Int} (h:l≠[]):(∀ a∈l,a<=fw .greater q l)/\fw .greater q l∈l:=by
 cases l with
 | nil=>exact absurd rfl h
 | cons a r =>
  obtain ⟨h1,h2,h3⟩:=sT (q:=q) r a;refine ⟨λb hb=>?_,?_⟩
  ·rcases List.mem_cons.mp hb with rfl | hb
   ·exact h1
   ·exact h2 b hb
  ·rcases h3 with z | z
   ·show r.foldl (W5.worth .greater q) a∈_;rw [z];exact List.mem_cons_self
   ·exact List.mem_cons_of_mem _ z
def Lsr (L:List St4) (k:Nat) (s:St4) (G:List St4):Prop:=∀ p q,0 < q->0<=p->p<=q->(∀ r∈L,Abv L k s r->hAt G p q<=hS r.m r.h p q)/\∃ r∈L,Abv L k s r/\hAt G p q=hS r.m r.h p q
theorem DQ {L G:List St4} {Gs:List (List St4)} (l:Ln.aM 10 L) (inn:Inn L) (g:Gd 4 G) (hl:Gs.length=L.length) (hk:∀(k:Nat) (s:St4),L[k]?=some s->∃ F,Gs[k]?=some F/\Lsr L k s F)
  (hG:∀ p q,0 < q->0<=p->p<=q->hAt G p q=fw .greater q (Gs.map λF=>hAt F p q)):G=L:=by
 refine yp g.b l λp q hq h0 hpq=>?_;obtain ⟨⟨j,s,hj,up⟩,dn⟩:=backs l inn hq h0 hpq;obtain ⟨F,hF,lsr⟩:=hk j s hj;have mem:hAt F p q∈Gs.map λF=>hAt F p q:=List.mem_map.mpr ⟨F,List.mem_of_getElem? hF,rfl⟩;have ne:(Gs.map λF=>hAt F p q)≠[]:=λz=>by rw [z] at mem;cases mem
 obtain ⟨w1,w2⟩:=GU (q:=q) ne;rw [hG p q hq h0 hpq]
 have a1:hAt L p q<=fw .greater q (Gs.map λF=>hAt F p q):=by
  obtain ⟨r,hr,ab,e⟩:=(lsr p q hq h0 hpq).2;have:=up r ab;have:=w1 _ mem;omega
 have a2:fw .greater q (Gs.map λF=>hAt F p q)<=hAt L p q:=by
  obtain ⟨F',hF',e'⟩:=List.mem_map.mp w2;obtain ⟨k,hkl,ek⟩:=List.getElem_of_mem hF';have hs:L[k]?=some (L[k]'(by omega)):=List.getElem?_eq_getElem (by omega);obtain ⟨F2,h2,ls2⟩:=hk k _ hs
  have:F2=F':=by
   rw [List.getElem?_eq_getElem hkl,ek] at h2;exact (Option.some.inj h2).symm
  subst this;obtain ⟨i,r,hi,ab,le⟩:=dn k _ hs;have:=(ls2 p q hq h0 hpq).1 r (List.mem_of_getElem? hi) ab;rw [<- e'];omega
 omega
structure Rb32 (H H':Hp) (l:Addr) (L:List St4) (us:List V) (gs:List Gr) (Ls:List (List St4)):Prop where
 sm:aE H H'
 fr:H l=none
 el:H' l=some (.lst us)
 al:aZ (GrV H') us gs
 sr:SR gs (Ls++[L])
 few:us.length<=300
def xh (K:W.Frag):Sp:=λvs H Q _=>∃(x:V) (L:List St4),vs=[x]/\Dat K H (lnD L) x/\Bk 10 L/\∀(l:Addr) (us:List V) (gs:List Gr) (Ls:List (List St4)) (H':Hp),Rb32 H H' l L us gs Ls->Q (.ref l) H'
def pK (L:List St4) (i:Nat) (st:St4) (kv:List Key×V):Bool:=match kv.1 with
 | [.inl m,.inl h]=>!(yL m h st (beg L i).1 (beg L i).2 || yL m h st st.p st.q)
 | _=>false
theorem FE {L:List St4} {i:Nat} {st s:St4} {v:V}:pK L i st (cO s,v)=true↔Abv L i st s:=by
 show (!(yL s.m s.h st (beg L i).1 (beg L i).2 || yL s.m s.h st st.p st.q))=true↔_;unfold Abv yL St4.at;have e:∀ p q:Int,(s.m - st.m)*p+(s.h - st.h)*q=(s.m*p+s.h*q) - (st.m*p+st.h*q):=λp q=>by grind
 rw [e,e,Bool.not_eq_true',Bool.or_eq_false_iff,decide_eq_false_iff_not,decide_eq_false_iff_not];omega
theorem uL {L:List St4} {Ls:List (List St4)}:∀(l:List (List Key×V)),(∀ kv∈l,∃(s:St4) (pl:Nat),s∈L/\kv.1=cO s/\kv.2=.int (pl:Int)/\Ls[pl]?=some (bj s.m s.h))->
  ∃(ns:List Nat) (Ss:List St4),(l.map λkv=>kv.2)=cn ns/\(l.map λkv=>kv.1)=Ss.map cO/\ns.length=l.length/\Ss.length=l.length/\∀(k j:Nat),ns[k]?=some j->∃ s,Ss[k]?=some s/\s∈L/\Ls[j]?=some (bj s.m s.h)
 | [],_=>⟨[],[],rfl,rfl,rfl,rfl,λ_ _ h=>by simp at h⟩
 | kv::l,h=>by
  obtain ⟨s,pl,h1,h2,h3,h4⟩:=h kv List.mem_cons_self;obtain ⟨ns,Ss,e1,e2,e3,e4,e5⟩:=uL l λy hy=>h y (List.mem_cons_of_mem _ hy);refine ⟨pl::ns,s::Ss,by rw [List.map_cons,e1,h3];rfl,by rw [List.map_cons,e2,h2];rfl,by simp [e3],by simp [e4],λk j hk=>?_⟩;cases k with
  | zero=>cases hk;exact ⟨s,rfl,h1,h4⟩
  | succ k=>simpa using e5 k j (by simpa using hk)
theorem len_one {α:Type} {l:List α} (h:l≠[]) (h1:l.length<=1):∃ x,l=[x]:=by
 match l,h,h1 with
 | [x],_,_=>exact ⟨x,rfl⟩
set_option maxHeartbeats 20000000
structure Lp32 (H H':Hp) (r d ll:Addr) (L:List St4) (i:Nat) (kvs:List (List Key×V)) (us:List V) (gs:List Gr) (Ls:List (List St4)) (ms:List Nat) (Gs:List (List St4)):Prop where
 sm:aE H H'
 er:H' r=some (.lst us)
 rd:Rd H' d (.dT kvs)
 own:∀(j:Nat) (k:List Key) (v:V),kvs[j]?=some (k,v)->cE kvs k=some v
 el:H' ll=some (.lst (cn ms))
 al:aZ (GrV H') us gs
 sr:SR gs Ls
 lu:us.length<=24*6+5*i
 ks:∀(j:Nat) (k:List Key) (v:V),kvs[j]?=some (k,v)->∃(s:St4) (pl:Nat),s∈L/\k=cO s/\v=.int (pl:Int)/\Ls[pl]?=some (bj s.m s.h)
 lm:ms.length=i
 lG:Gs.length=i
 mg:∀(k j:Nat),ms[k]?=some j->∃ F,Gs[k]?=some F/\Ls[j]?=some F/\Gd 4 F
 ls:∀(k:Nat) (s:St4),k < i->L[k]?=some s->∃ F,Gs[k]?=some F/\Lsr L k s F
 one:L.length=1->(i=0->kvs≠[]/\∃ k,kvs.getLast?=some (k,.int (((us.length - 1:Nat)):Int)))/\(i=1->ms[0]?=some (us.length - 1))/\1<=us.length
variable {P:Program} {w:World} {K:W.Frag} {mg:Str->Option Value} {base:Heap}
theorem ok_back (T:au K mg "rows_of_line" cJ) (TN:iJ K mg "NOUGHT" [0,1]) (fP:Def P w K mg base 6 "must_lead_back" ["line"] (mX K)) (qp:Def P w K mg base 3 "put_straights" ["rows","line"] (Bh K)) (oz:Def P w K mg base 1 "put_folded" ["rows","word","places"] rh) (Ba:Def P w K mg base 2 "is_below" ["rule","stretch","start"] (uz K)):Def P w K mg base 7 "rows_of_line" ["line"] (xh K):=by
 refine aO T ez (λ_ _ _ _ _ _=>L2.ar1 λ_=>rfl) ?_ ?_
 ·walk_at "i1";obtain ⟨x,L,rfl,_⟩:=h;rfl
 walk_at "i2";obtain ⟨x,L,rfl,dx,bk,q⟩:=h;have nd:=ez.nd;have hu:=yy hr;obtain ⟨aN,fu,qN⟩:=TN.ex;obtain ⟨la,xs,rfl,sa,da⟩:=jH dx;have lx:=dU da;have few:=bk.few
 refine ⟨_,(ai (bg (aD fP (hr.mono (by decide)) rfl (aa (pv 0) af)))
  (ai (aJ (i:=1) nd rfl (Or.inl rfl) (bF af))
  (ai (aJ (i:=2) nd rfl (Or.inr rfl) (aD qp (hr.mono (by decide)) rfl (aa (pv 1) (aa (pv 0) af))))
  (ai (aJ (i:=3) nd rfl (Or.inl rfl) (bF af))
  (ai (aJ (i:=4) nd rfl (Or.inr rfl) (dN (v:=V.ref aN) rfl fu rfl))
  (ai (cK PassesOwn.never rfl (iI (pv 0)) (aP (i:=5) nd rfl (Or.inr rfl)) (ai (vG (i:=6) nd rfl (Or.inl rfl) (Or.inl rfl) rfl rfl (pi_dict (pv 2)) rfl (by decide+kernel) (by decide+kernel) rfl (show L2.FrN _ (ag cJ) by decide+kernel) (fW (j:=2) rfl (Or.inl rfl) (by decide+kernel) (Or.inl rfl) (fW (j:=5) rfl (Or.inl rfl) (by decide+kernel) (Or.inl rfl) (fW (j:=4) rfl (Or.inl rfl) (by decide+kernel) (Or.inl rfl) fL))) (show (["rule","place_of","stretch","start"]:List Str).Nodup by decide+kernel) (λ_ _ _ _=>(pif_one (ke (gq (aD Ba (hr.mono (by decide)) rfl (aa (pv 0) (aa (pv 2) (aa (pv 3) af)))))))) (λ_ _ _ _=>(qE hu (pv 1) (pv 0) (λ_ _=>rfl))))
  (ai (bg (eO PySem.F.plainAttrs_list PySem.F.slot_list_append PySem.F.type_list_append bw (pv 3) (aa (aD oz (hr.mono (by decide)) rfl (aa (pv 1) (aa aL (aa (pv 6) af)))) af)))
  (aj (aJ (i:=4) nd rfl (Or.inr rfl) (aF aG (pv 5) ak (λ_ _=>rfl)))))))
  (ai (bg (aD oz (hr.mono (by decide)) rfl (aa (pv 1) (aa aL (aa (pv 3) af)))))
  (aj (aw (pv 1)))))))))),?_⟩
 refine ⟨_,rfl,_,10,L,rfl,by decide,dx,bk,λH1 s1=>?_⟩;refine ⟨szA,λr hr1=>?_⟩;have u2:=ao hr1 (.lst []);have s2:=s1.trans u2;refine ⟨_,rfl,_,rfl,r,_,L,rfl,ae,dx.ts s2.ts,few,bk.mild,λd kvs us gs Ls H3 S=>?_⟩;have hr0:H r=none:=s1.free hr1;have ndr:d≠r:=λz=>by rw [z] at S;have:=S.fd;rw [ae] at this;cases this
 have hd0:H d=none:=s2.free S.fd;have s3:aE H H3:=λc o h=>S.sb c o (s2 _ _ h) (λz=>by rw [z,hr0] at h;cases h)
 refine ⟨szA,λll hll=>?_⟩;have u4:=ao hll (.lst []);have s4:=s3.trans u4;have hll0:H ll=none:=s3.free hll;have nlr:ll≠r:=λz=>by rw [z,S.er] at hll;cases hll
 have nld:ll≠d:=λz=>by rw [z,S.ed] at hll;cases hll
 have lk:=S.lk;refine ⟨_,rfl,la,rfl,⟨xs,sa.ts s4.ts⟩,?_⟩
 refine wt (xs:=xs) (λi σ H'=>∃(o5 o6:Option V) (t:V) (us:List V) (gs:List Gr) (Ls:List (List St4)) (ms:List Nat) (Gs:List (List St4)),σ=[some (.ref la),some (.ref r),some (.ref d),some (.ref ll),some t,o5,o6]/\Dat K H' (frD (beg L i).1 (beg L i).2) t/\Lp32 H H' r d ll L i kvs us gs Ls ms Gs)
  ⟨_,_,_,us,gs,Ls,[],[],rfl,kz (qN _),⟨s4,u4 _ _ S.er,.inl (u4 _ _ S.ed),S.own,ae,S.al.imp (GrV.to (Kp.of u4)),S.sr,by have:=S.lu;omega,S.ks,rfl,rfl,(λ_ _ h=>by simp at h),(λ_ _ h=>by omega),λz=>?_⟩⟩ (λi σ H' _ z=>?_) (λi x σ H' hx z=>?_) (λσ H' z=>?_)
 ·have h0:L[0]?=some (L[0]'(by omega)):=List.getElem?_eq_getElem (by omega)
  have ne:kvs≠[]:=λy=>by
   obtain ⟨v,hv⟩:=S.has 0 _ (by omega) h0;rw [y] at hv;cases hv
  obtain ⟨k,hk,h1⟩:=S.la ne;exact ⟨λ_=>⟨ne,k,hk⟩,(λy=>by omega),h1⟩
 ·obtain ⟨_,_,_,_,_,_,_,_,_,_,S'⟩:=z;exact sa.ts S'.sm.ts
 ·obtain ⟨o5,o6,t,us',gs',Ls',ms,Gs,rfl,dt,S'⟩:=z;obtain ⟨st,hst,dst⟩:=hV (da.ts S'.sm.ts) hx;have hi:i < L.length:=(List.getElem?_eq_some_iff.mp hst).1;obtain ⟨c,e,rfl,q1,d1⟩:=dA dst;dsimp only [pZ,tSeq,wO,List.set];refine fM ?_;refine ⟨_,rfl,d,kvs,rfl,S'.rd,λob hob=>?_⟩
  have ts1:Tst H' (upd H' d (.frz ob (.dT kvs))):=⟨λc ys e=>by rw [aq (λz=>by rcases S'.rd with y | ⟨_,y⟩ <;> rw [z,y] at e <;> cases e)];exact e,λc o u e=>by
   by_cases z:c=d
   ·subst z;rcases S'.rd with y | ⟨o',y⟩
    ·rw [y] at e;cases e
    ·rw [y] at e;cases e
     rw [ae,hob _ y]
   ·rw [aq z];exact e⟩
  have kp1:Kp H' (upd H' d (.frz ob (.dT kvs))):=λc o e fx=>by
   by_cases z:c=d
   ·subst z;rcases S'.rd with y | ⟨o',y⟩
    ·rw [y] at e;cases e;cases fx
    ·rw [y] at e;cases e
     rw [ae,hob o' y]
   ·rw [aq z];exact e
  have ne1:∀ c o,H' c=some o->c≠d->upd H' d (.frz ob (.dT kvs)) c=some o:=λc o e z=>by rw [aq z];exact e
  have ed1:upd H' d (.frz ob (.dT kvs)) d=some (.frz ob (.dT kvs)):=ae;generalize upd H' d (.frz ob (.dT kvs))=F at ts1 kp1 ne1 ed1 ⊢
  have bnd:∀ z∈L,z.m.natAbs<=2000/\z.h.natAbs<=2000/\z.p.natAbs<=2000/\z.q.natAbs<=2000:=λz hz=>by
   obtain ⟨h1,h2,_,h4,h5,h6⟩:=bk.b.ok z hz;have:(2:Nat) ^ 10=1024:=rfl;rw [this] at h4 h5 h6;omega
  refine DM (pK L i st) (λkv=>kv.2) ed1 (by omega) (λj kv b H5 N hj s5 eb hN=>?_) (λj kv b H5 N hj hp s5 eb hN=>?_) (λD H5 s5 hD eD=>?_)
  ·obtain ⟨z,pl,hz,hk,hv,_⟩:=S'.ks j kv.1 kv.2 hj;obtain ⟨k,v⟩:=kv;dsimp only at hk hv eb;subst hk hv;have bz:=bnd z hz;have bs:=bnd st (List.mem_of_getElem? hst)
   have bb:(beg L i).1.natAbs<=2000/\(beg L i).2.natAbs<=2000:=by
    cases i with
    | zero=>exact ⟨(show (0:Int).natAbs<=2000 by decide),(show (1:Int).natAbs<=2000 by decide)⟩
    | succ i =>
     have e':L[i]?=some (L[i]'(by omega)):=List.getElem?_eq_getElem (by omega);rw [cP e'];have:=bnd _ (List.mem_of_getElem? e');exact ⟨this.2.2.1,this.2.2.2⟩
   exact ⟨_,rfl,_,rfl,_,rfl,b,_,t,z.m,z.h,st,(beg L i).1,(beg L i).2,rfl,eb,(dst.ts ts1).ts s5.ts,(dt.ts ts1).ts s5.ts,⟨bz.1,bz.2.1,bs.1,bs.2.1,bs.2.2.1,bs.2.2.2⟩,bb.1,bb.2,_,rfl,hN _ (aE.refl _)⟩
  ·obtain ⟨z,pl,hz,hk,hv,_⟩:=S'.ks j kv.1 kv.2 hj;obtain ⟨k,v⟩:=kv;have ow:=S'.own j k v hj;exact ⟨_,rfl,_,rfl,d,v,rfl,.inr ⟨kvs,k,b,.inr ⟨ob,s5 _ _ ed1⟩,rfl,eb,ow.symm⟩,hN _ (aE.refl _)⟩
  ·obtain ⟨ns,Ss,n1,n2,n3,n4,n5⟩:=uL (L:=L) (Ls:=Ls') (kvs.filter (pK L i st)) λkv hkv=>by
    obtain ⟨j,hj,ej⟩:=List.getElem_of_mem (List.mem_filter.mp hkv).1;exact S'.ks j kv.1 kv.2 (by rw [List.getElem?_eq_getElem hj,ej])
   have fl:(kvs.filter (pK L i st)).length<=6:=Nat.le_trans (List.length_filter_le _ _) (by omega)
   have inS:∀ z,z∈L->Abv L i st z->∃ y∈Ss,cO y=cO z:=λz hz ab=>by
    obtain ⟨j,hj,ej⟩:=List.getElem_of_mem hz;obtain ⟨v,hv⟩:=S.has j z hj (by rw [List.getElem?_eq_getElem hj,ej])
    have mem:(cO z,v)∈kvs:=by
     unfold cE at hv;cases e:kvs.find? (λkv=>decide (kv.1=cO z)) with
     | none=>rw [e] at hv;cases hv
     | some y =>
      rw [e] at hv;have h1:=List.find?_some e;have h2:=List.mem_of_find?_eq_some e;obtain ⟨y1,y2⟩:=y;have h3:y1=cO z:=of_decide_eq_true h1;cases hv
      rw [<- h3];exact h2
    have mf:cO z∈(kvs.filter (pK L i st)).map λkv=>kv.1:=List.mem_map.mpr ⟨(cO z,v),List.mem_filter.mpr ⟨mem,FE.mpr ab⟩,rfl⟩;rw [n2] at mf;obtain ⟨y,hy,e⟩:=List.mem_map.mp mf;exact ⟨y,hy,e⟩
   have Sab:∀ y∈Ss,Abv L i st y:=λy hy=>by
    have:cO y∈Ss.map cO:=List.mem_map.mpr ⟨y,hy,rfl⟩;rw [<- n2] at this;obtain ⟨⟨k,v⟩,hkv,e⟩:=List.mem_map.mp this;have e':k=cO y:=e;subst e';exact FE.mp (List.mem_filter.mp hkv).2
   have lu:=S'.lu;have lmi:=S'.lm;have lGi:=S'.lG;have mst:=List.mem_of_getElem? hst;obtain ⟨y0,hy0,_⟩:=inS st mst (Abv.self L i st);have Sne:1<=Ss.length:=by cases Ss with | nil=>cases hy0 | cons a b=>simp
   have eD':H5 D=some (.lst (cn ns)):=by rw [eD,<- n1]
   have dne:∀ c xs,H' c=some (.lst xs)->c≠d:=λc xs e z=>by rcases S'.rd with y | ⟨_,y⟩ <;> rw [z,y] at e <;> cases e
   have er5:=s5 _ _ (ne1 _ _ S'.er (dne _ _ S'.er));have el5:=s5 _ _ (ne1 _ _ S'.el (dne _ _ S'.el));have al5:=(S'.al.imp (GrV.to kp1)).imp (GrV.to (Kp.of s5));have nrD:r≠D:=λz=>by have:=ne1 _ _ S'.er (dne _ _ S'.er);rw [z,hD] at this;cases this
   refine ⟨_,rfl,.inl ⟨rfl,_,SqL.of el5⟩,_,rfl,_,rfl,r,D,.lesser,us',gs',Ls',ns,Ss.map (λs=>bj s.m s.h),rfl,.inl rfl,nrD,er5,al5,S'.sr,eD',by omega,by omega,by omega,by rw [List.length_map];omega,λk j hk=>?_,λfo us2 gs2 Ls2 G H6 Dd=>?_⟩
   ·obtain ⟨y,h1,h2,h3⟩:=n5 k j hk;have my:=bk.mild y h2;have g0:=nO (a:=y.m) (b:=y.h) (by omega);exact ⟨bj y.m y.h,by rw [List.getElem?_map,h1];rfl,h3,⟨g0.b,g0.s.mono my,g0.i⟩⟩
   ·have el6:=Dd.sb ll _ el5 (λz=>nlr (by cases z;rfl));have lu2:=Dd.lu;rw [List.length_map] at lu2;refine ⟨ll,cn ms,_,rfl,rfl,el6,fA (by simp;omega),?_⟩;have ts6:Tst H' H6:=(ts1.trans s5.ts).trans ⟨λc ys e=>Dd.sb c _ e (λz=>by cases z;rw [er5] at e;cases e),λc o u e=>Dd.sb c _ e (λz=>by cases z;rw [er5] at e;cases e)⟩
    have ts7:Tst H6 (upd H6 ll (.lst (cn ms++[.int (fo:Int)]))):=gO el6;have tsA:=ts6.trans ts7;have k7:Kp H6 (upd H6 ll (.lst (cn ms++[.int (fo:Int)]))):=cW el6 rfl;have ed6:H6 d=some (.frz ob (.dT kvs)):=Dd.sb d _ (s5 _ _ ed1) (λz=>ndr (by cases z;rfl));refine ⟨_,rfl,_,_,_,_,rfl,rfl,q1.ts tsA,rfl,?_⟩;refine ⟨_,_,e,us2,gs2,Ls2,ms++[fo],Gs++[G],rfl,by rw [cP hst];exact d1.ts tsA,⟨λc o h=>?_,?_,.inr ⟨ob,?_⟩,S'.own,?_,Dd.al.imp (GrV.to k7),Dd.sr,by omega,λj k v hj=>?_,by simp;omega,by simp;omega,λk j hk=>?_,λk z hk hz=>?_,λhL=>?_⟩⟩
    ·rw [aq (λz=>by rw [z,hll0] at h;cases h)]
     exact Dd.sb c o (s5 _ _ (ne1 _ _ (S'.sm _ _ h) (λz=>by rw [z,hd0] at h;cases h))) (λz=>by cases z;rw [hr0] at h;cases h)
    ·rw [aq (Ne.symm nlr)];exact Dd.er
    ·rw [aq (Ne.symm nld)];exact ed6
    ·rw [ae];simp [cn]
    ·obtain ⟨z,pl,h1,h2,h3,h4⟩:=S'.ks j k v hj;exact ⟨z,pl,h1,h2,h3,Dd.kp _ _ h4⟩
    ·rcases Nat.lt_or_ge k ms.length with z | z
     ·rw [List.getElem?_append_left z] at hk;obtain ⟨F',h1,h2,h3⟩:=S'.mg k j hk;exact ⟨F',by rw [List.getElem?_append_left (by omega)];exact h1,Dd.kp _ _ h2,h3⟩
     ·rw [List.getElem?_append_right z] at hk;have ek:k - ms.length=0:=by have:=(List.getElem?_eq_some_iff.mp hk).1;simp at this;omega
      rw [ek] at hk;cases hk
      exact ⟨G,by rw [show k=Gs.length by omega,List.getElem?_concat_length],Dd.gi,Dd.gd⟩
    ·rcases Nat.lt_or_ge k i with y | y
     ·obtain ⟨F',h1,h2⟩:=S'.ls k z y hz;exact ⟨F',by rw [List.getElem?_append_left (by omega)];exact h1,h2⟩
     ·have ek:k=i:=by omega
      subst ek;rw [hst] at hz;cases hz
      refine ⟨G,by rw [show k=Gs.length by omega,List.getElem?_concat_length],λp q' z1 z2 z3=>?_⟩
      have ne0:((Ss.map λs=>bj s.m s.h).map λF=>hAt F p q')≠[]:=λy=>by
       have:=congrArg List.length y;simp at this;rw [this] at Sne;simp at Sne
      obtain ⟨w1,w2⟩:=GS (q:=q') ne0;rw [Dd.ht p q' z1 z2 z3];refine ⟨λx hx' ab=>?_,?_⟩
      ·obtain ⟨y,hy,ey⟩:=inS x hx' ab;have:=w1 (hAt (bj y.m y.h) p q') (List.mem_map.mpr ⟨_,List.mem_map.mpr ⟨y,hy,rfl⟩,rfl⟩);rw [iW z1 z2 z3] at this
       have e1:y.m=x.m/\y.h=x.h:=by
        have:([.inl y.m,.inl y.h]:List Key)=[.inl x.m,.inl x.h]:=ey;simpa using this
       rw [e1.1,e1.2] at this;exact this
      ·obtain ⟨F',hF',eF⟩:=List.mem_map.mp w2;obtain ⟨y,hy,rfl⟩:=List.mem_map.mp hF';obtain ⟨kk,hkk,ekk⟩:=List.getElem_of_mem hy;obtain ⟨j',hj'⟩:∃ j',ns[kk]?=some j':=⟨ns[kk]'(by omega),List.getElem?_eq_getElem (by omega)⟩;obtain ⟨y',h1,h2,_⟩:=n5 kk j' hj';rw [List.getElem?_eq_getElem hkk,ekk] at h1;cases h1
       exact ⟨y,h2,Sab y hy,by rw [<- eF,iW z1 z2 z3]⟩
    ·obtain ⟨o1,_,o3⟩:=S'.one hL;have i0:i=0:=by omega
     obtain ⟨kn,k',hk'⟩:=o1 i0;have lk1:kvs.length<=1:=by omega
     obtain ⟨kv,ekv⟩:=len_one kn lk1;have f1:(kvs.filter (pK L i st)).length<=1:=Nat.le_trans (List.length_filter_le _ _) lk1;have on:=Dd.one (by rw [List.length_map];omega);have m0:ms=[]:=List.eq_nil_of_length_eq_zero (by omega);refine ⟨(λy=>by omega),λ_=>?_,by omega⟩;rw [m0]
     have fk:kvs.filter (pK L i st)=[kv]:=by
      rw [ekv] at n4 ⊢
      by_cases c:pK L i st kv=true
      ·rw [List.filter_cons_of_pos c];rfl
      ·rw [List.filter_cons_of_neg c] at n4;simp at n4;rw [n4] at Sne;simp at Sne
     rw [fk] at n1;rw [ekv] at hk'
     have ek2:kv.2=.int (((us'.length - 1:Nat)):Int):=by
      have:kv=(k',.int (((us'.length - 1:Nat)):Int)):=by simpa using hk'
      rw [this]
     have n1':[kv.2]=cn ns:=n1;rw [ek2] at n1'
     obtain ⟨y,rfl⟩:∃ y,ns=[y]:=by
      match ns,n3 with
      | [y],_=>exact ⟨y,rfl⟩
      | [],h=>rw [fk] at h;simp at h
      | _::_::_,h=>rw [fk] at h;simp at h
     have:fo=y:=by simpa using on.symm
     subst this;have:((us'.length - 1:Nat):Int)=(fo:Int):=by simpa [cn] using n1'
     show some fo=_;congr 1;omega
 ·obtain ⟨o5,o6,t,us',gs',Ls',ms,Gs,rfl,dt,S'⟩:=z;rw [lx] at S';have lm:=S'.lm;have lG:=S'.lG;have lu:=S'.lu
  have l1:1<=L.length:=by
   obtain ⟨y,hy,_⟩:=bk.b.last;cases L with
   | nil=>cases hy
   | cons a b=>simp
  refine ⟨_,rfl,_,rfl,r,ll,.greater,us',gs',Ls',ms,Gs,rfl,.inr rfl,(λz=>nlr z.symm),S'.er,S'.al,S'.sr,S'.el,by omega,by omega,by omega,by omega,S'.mg,λfo us2 gs2 Ls2 G H2 D=>?_⟩;have key:G=L:=DQ bk.b bk.i D.gd (by omega) (λk s hs=>S'.ls k s (List.getElem?_eq_some_iff.mp hs).1 hs) D.ht;subst key;have lu2:=D.lu;have lg2:=D.al.len;have lr2:=D.sr.rl.1
  have last:fo+1=us2.length:=by
   by_cases c:2<=Gs.length
   ·exact D.la c
   ·have o1:=D.one (by omega);obtain ⟨_,o2,o3⟩:=S'.one (by omega);rw [o2 (by omega)] at o1;have:=Option.some.inj o1;omega
  refine ⟨_,rfl,q r us2 gs2 (Ls2.take fo) H2 ⟨λc o h=>D.sb c o (S'.sm _ _ h) (λz=>by cases z;rw [hr0] at h;cases h),hr0,D.er,D.al,?_,by omega⟩⟩
  rw [<- BR D.gi (by omega)];exact D.sr
end Mine
set_option maxHeartbeats 4000000
namespace Mine
open PySem L2
theorem zC {X:Cx} {ss:List Stmt}:PSs X ss tDead:=λ_ _ _ _ _ _ h=>h.elim
def wX (K:W.Frag):Sp:=λvs H Q _=>∃(x:V) (n:Nat) (L:List St4),vs=[x]/\n<=100/\Dat K H (lnD L) x/\Ln.aM n L/\Inn L/\∀ H',aE H H'->Q .non H'
def Cz (L:List St4):Str:=if 6 < L.length then "many" else "steep"
def vv (K:W.Frag) (C:Addr):Sp:=λvs H _ E=>∃(x:V) (L:List St4),vs=[x]/\Dat K H (lnD L) x/\Ln.aM 10 L/\Inn L/\(6 < L.length\/∃ s∈L,4 < s.m.natAbs)/\∀(v:V) (d:Addr) (H':Hp),aE H H'->H' d=none->E (.ref C) (some d) (upd H' d (.ext (dP d [("word",.str (Cz L)),("at",v)])))
def Bg (K:W.Frag):Sp:=λvs H Q _=>∃(x:V) (L:List St4),vs=[x]/\Dat K H (lnD L) x/\Ln.aM 10 L/\Inn L/\(6 < L.length\/∃ s∈L,4 < s.m.natAbs)/\∀ H',Q (.str (Cz L)) H'
variable {P:Program} {w:World} {K:W.Frag} {mg:Str->Option Value} {base:Heap}
theorem CW (T:au K mg "must_stay" ir) (bu:mg "enumerate"=none) (TN:iJ K mg "NOUGHT" [0,1]) (tP:Def P w K mg base 4 "is_out" ["stretch","start"] (oC K)):Def P w K mg base 5 "must_stay" ["line"] (wX K):=by
 refine aO T gz (λ_ _ _ _ _ _=>L2.ar1 λ_=>rfl) ?_ ?_
 ·walk_at "i1";obtain ⟨x,n,L,rfl,_⟩:=h;rfl
 walk_at "i2";obtain ⟨x,n,L,rfl,hn,dx,lb,li,k⟩:=h;have nd:=gz.nd;obtain ⟨aN,fu,qN⟩:=TN.ex;obtain ⟨a,xs,rfl,sa,da⟩:=jH dx
 refine ⟨_,(ai (aJ (i:=1) nd rfl (Or.inl rfl) (dN (v:=V.ref aN) rfl fu rfl))
  (aj (cK PassesOwn.never rfl (nJ rfl bu (pv 0)) (kh rfl (ba (aP (i:=2) nd rfl (Or.inl rfl)) (ba (aP (i:=3) nd rfl (Or.inl rfl)) fh))) (ai (aY (gq (aD tP (hr.mono (by decide)) rfl (aa (pv 3) (aa (pv 1) af)))) (aj nI) aI)
  (aj (aJ (i:=1) nd rfl (Or.inl rfl) (aF aG (pv 3) ak (λ_ _=>rfl)))))))),?_⟩
 refine ⟨_,rfl,a,rfl,⟨xs,sa⟩,?_⟩;refine lD (xs:=xs) (λi σ H'=>aE H H'/\∃ t o2 o3,σ=[some (.ref a),some t,o2,o3]/\Dat K H' (frD (beg L i).1 (beg L i).2) t) ⟨aE.refl _,_,_,_,rfl,kz (qN H)⟩ (λi σ H' _ h=>sa.ts h.1.ts) (λi x T' σ H' hx h hT=>?_) (λσ H' h=>?_)
 ·obtain ⟨sm',t,o2,o3,rfl,dt⟩:=h;obtain ⟨st,hst,dst⟩:=hV (da.ts sm'.ts) hx;have u1:=ao hT (.tup [.int i,x]);have ds:=dst.ts u1.ts;obtain ⟨c,e,rfl,q1,d1⟩:=dA ds;obtain ⟨m1,m2,m3,m4,m5⟩:=zE hn (lb.ok st (List.mem_of_getElem? hst));obtain ⟨b1,b2⟩:=Hm hn lb i;refine ⟨T',_,rfl,SqT.of ae,rfl,_,_,rfl,_,_,rfl,rfl,?_⟩;refine ⟨_,rfl,_,rfl,_,t,st,(beg L i).1,(beg L i).2,rfl,ds,dt.ts u1.ts,eJ lb i,m5,b1,b2,m3,m4,m1,m2,Ho lb li hst,Av lb li hst,λH2 s2=>⟨_,rfl,cX ?_⟩⟩;refine ⟨_,rfl,_,_,_,_,rfl,rfl,q1.ts s2.ts,rfl,(sm'.trans u1).trans s2,e,_,_,rfl,?_⟩;rw [cP hst];exact d1.ts s2.ts
 ·exact k _ h.1
theorem Dj {tm ts:Tok} {C:Addr} (T:au K mg "must_lead_back" dI) (bu:mg "enumerate"=none) (aU:mg "len"=none) (iD:mg "abs"=none) (cg:mg "MOST_STRETCHES"=some (.int 6 tm)) (cf:mg "STEEPEST_backs"=some (.int 4 ts)) (kF:XC2 P w K mg base "NoLine" C "word" "at") (kK:Def P w K mg base 5 "must_stay" ["line"] (wX K)):AW P w K mg base 6 "must_lead_back" ["line"] (vv K C):=by
 refine Cg T dB (λ_ _ _ _ _ _=>L2.ar1 λ_=>rfl) ?_ ?_
 ·walk_at "i1";obtain ⟨x,L,rfl,_⟩:=h;rfl
 walk_at "i2";obtain ⟨x,L,rfl,dx,lb,li,no,k⟩:=h;have nd:=dB.nd;obtain ⟨a,xs,rfl,sa,da⟩:=jH dx;have lx:=dU da
 refine ⟨_,(ai (bg (aD kK (hr.mono (by decide)) rfl (aa (pv 0) af)))
  (ai (aY (aC hU (aB aS rfl aU (by decide+kernel) (aa (pv 0) af)) (dN (v:=V.int 6) rfl cg ⟨_,rfl⟩) (aH _)) (aj (uK kF (hr.mono (by decide)) rfl (aa aL (aa (aB aS rfl aU (by decide+kernel) (aa (pv 0) af)) af)))) aI)
  (aj (cK PassesOwn.leaving rfl (nJ rfl bu (pv 0)) (kh rfl (ba (aP (i:=1) nd rfl (Or.inl rfl)) (ba (aP (i:=2) nd rfl (Or.inl rfl)) fh))) (aj (aY (aC hU (aB je rfl iD (by decide+kernel) (aa (aF aG (pv 2) ak (λ_ _=>rfl)) af)) (dN (v:=V.int 4) rfl cf ⟨_,rfl⟩) (aH _)) (aj (uK kF (hr.mono (by decide)) rfl (aa aL (aa (pv 1) af)))) aI)))))),?_⟩
 refine ⟨_,rfl,_,10,L,rfl,by decide,dx,lb,li,λH1 s1=>?_⟩;refine ⟨_,rfl,_,_,rfl,.inr ⟨_,sa.ts s1.ts,rfl⟩,_,_,rfl,rfl,_,rfl,cQ (λc=>?_) (λc=>?_)⟩
 ·have c:(6:Int) < (xs.length:Int):=of_decide_eq_true c;have e:Cz L="many":=if_pos (by omega);rw [e] at k;exact ⟨_,rfl,_,_,rfl,.inr ⟨_,sa.ts s1.ts,rfl⟩,_,_,rfl,λd hd=>k _ d H1 s1 hd⟩
 have c:¬ (6:Int) < (xs.length:Int):=λz=>c (decide_eq_true z);have e:Cz L="steep":=if_neg (by omega);rw [e] at k;refine ⟨_,rfl,a,rfl,⟨xs,sa.ts s1.ts⟩,?_⟩;refine lD (xs:=xs) (λi σ H'=>aE H H'/\(∃ o1 o2,σ=[some (.ref a),o1,o2])/\∀ j,j < i->∀ t,L[j]?=some t->t.m.natAbs<=4) ⟨s1,⟨_,_,rfl⟩,λ_ h=>absurd h (Nat.not_lt_zero _)⟩ (λi σ H' _ h=>sa.ts h.1.ts) (λi x T' σ H' hx h hT=>?_) (λσ H' h=>?_)
 ·obtain ⟨sm',⟨o1,o2,rfl⟩,past⟩:=h;obtain ⟨st,hst,dst⟩:=hV (da.ts sm'.ts) hx;have u1:=ao hT (.tup [.int i,x]);obtain ⟨c,e,rfl,q1,d1⟩:=dA (dst.ts u1.ts);refine ⟨T',_,rfl,SqT.of ae,rfl,_,_,rfl,_,_,rfl,rfl,?_⟩;refine ⟨_,rfl,_,_,_,_,rfl,rfl,q1,rfl,_,rfl,_,_,rfl,rfl,_,rfl,cQ (λc=>?_) (λc=>?_)⟩
  ·exact ⟨_,rfl,_,_,rfl,λd hd=>k _ d _ (sm'.trans u1) hd⟩
  ·have c':¬ (4:Int) < (st.m.natAbs:Int):=λz=>c (decide_eq_true (by rw [wy];exact z));refine ⟨sm'.trans u1,⟨_,_,rfl⟩,λj hj t ht=>?_⟩
   by_cases hji:j=i
   ·subst hji;rw [hst] at ht;cases ht
    omega
   ·exact past j (by omega) t ht
 ·exfalso;rcases no with z | ⟨t,ht,z⟩
  ·omega
  ·obtain ⟨j,hj,ej⟩:=List.getElem_of_mem ht;have:=h.2.2 j (by omega) t (by rw [List.getElem?_eq_getElem hj,ej]);omega
theorem ok_no34 {C:Addr} (T:au K mg "rows_of_line" cJ) (fP:AW P w K mg base 6 "must_lead_back" ["line"] (vv K C)):AW P w K mg base 7 "rows_of_line" ["line"] (vv K C):=by
 refine Cg T ez (λ_ _ _ _ _ _=>L2.ar1 λ_=>rfl) ?_ ?_
 ·walk_at "i1";obtain ⟨x,L,rfl,_⟩:=h;rfl
 walk_at "i2";obtain ⟨x,L,rfl,h⟩:=h;have nd:=ez.nd;exact ⟨_,ai (bg (pe_defP fP (hr.mono (by decide)) rfl (aa (pv 0) af))) zC,_,rfl,x,L,rfl,h⟩
theorem vN {C:Addr} (T:au K mg "_law_refused" jV) (kF:XC2 P w K mg base "NoLine" C "word" "at") (HG:mg "NoLine"=some (.ref C)) (Ee:oB K C) (su:PySem.W.mroIn K C (.ref C)=some true) (ik:AW P w K mg base 7 "rows_of_line" ["line"] (vv K C)):Def P w K mg base 8 "_law_refused" ["_law_line"] (Bg K):=by
 refine aO T nu (λ_ _ _ _ _ _=>L2.ar1 λ_=>rfl) ?_ ?_
 ·walk_at "i1";obtain ⟨x,L,rfl,_⟩:=h;rfl
 walk_at "i2";obtain ⟨x,L,rfl,dx,lb,li,no,q⟩:=h;have nd:=nu.nd
 refine ⟨_,(ai (aJ (i:=1) nd rfl (Or.inl rfl) aL)
  (ai (ps_tryH (j:=2) rfl rfl rfl rfl ik (hr.mono (by decide)) rfl (aa (pv 0) af) rfl HG Ee nd rfl rfl (λ_=>(aj (aJ (i:=1) nd rfl (Or.inl rfl) (Fu (K:=K) rfl (pv 2) rfl)))))
  (aj (aw (pv 1))))),?_⟩
 refine ⟨_,rfl,x,L,rfl,dx,lb,li,no,λv d H' s' hd=>⟨C,rfl,su,λea hea=>?_⟩⟩;have nde:d≠ea:=λz=>by rw [<- z,ae] at hea;cases hea
 refine ⟨_,rfl,ea,C,d,_,_,rfl,ae,by rw [aq nde];exact ae,kF.fl,kF.n1,rfl,?_⟩;exact ⟨_,rfl,q _⟩
theorem gI.same {K:W.Frag} {H H':Hp} {v:V} {T:Value} (h:gI K H v T) (s:aE H H'):gI K H' v T:=by
 cases h with
 | non=>exact .non
 | bl x=>exact .bl x
 | int i=>exact .int i
 | str x=>exact .str x
 | flt x=>exact .flt x
 | lst e=>exact .lst (s _ _ e)
 | frz e=>exact .frz (s _ _ e)
 | tup e=>exact .tup (s _ _ e)
 | dK e=>exact .dK (s _ _ e)
 | dT e=>exact .dT (s _ _ e)
 | ins e a b c d f=>exact .ins (s _ _ e) a b c d f
inductive E13 where
 | int (i:Int) | str (x:Str) | bl (b:Bool) | non | tup
def EV (H:Hp) (v:V):E13->Prop
 | .int i=>v=.int i
 | .str x=>v=.str x
 | .bl b=>v=.bl b
 | .non=>v=.non
 | .tup=>∃ a xs,v=.ref a/\H a=some (.tup xs)
theorem EV.same {H H':Hp} (s:aE H H') (v:V) (e:E13) (h:EV H v e):EV H' v e:=by
 cases e with
 | tup=>obtain ⟨a,xs,h1,h2⟩:=h;exact ⟨a,xs,h1,s _ _ h2⟩
 | _=>exact h
def E13.ahead (k:Nat):E13->Bool
 | .int i=>decide (0<=i) && decide (i < (k:Int))
 | _=>false
def il (w:Str):V:=match PyProof.Rows.KTD.datumAt w TK with | some n=>.int n | none=>.non
abbrev Tg:=Option (List E13)
def TgV (K:W.Frag) (H:Hp) (v:V) (o:Tg):Prop:=BH v=true/\match o with
 | none=>∃ T,gI K H v T/\PySem.W.kitOne K T (.type "tuple")=some false
 | some es=>es.length<=20/\∃ a xs,v=.ref a/\H a=some (.tup xs)/\aZ (EV H) xs es
theorem TgV.same {K:W.Frag} {H H':Hp} (s:aE H H') (v:V) (o:Tg) (h:TgV K H v o):TgV K H' v o:=by
 cases o with
 | none=>obtain ⟨n,T,h1,h2⟩:=h;exact ⟨n,T,gI.same h1 s,h2⟩
 | some es=>obtain ⟨n,l,a,xs,h1,h2,h3⟩:=h;exact ⟨n,l,a,xs,h1,s _ _ h2,h3.imp (EV.same s)⟩
def nE (k:Nat):Tg->Bool
 | some (.str w::es)=>decide (il w=.int (es.length:Int)) && es.all (E13.ahead k)
 | _=>false
def vt (k:Nat) (o:Tg):Bool:=decide (k < 400) && nE k o
def iA:Nat->List Tg->Option Nat
 | _,[]=>none
 | k,o::r=>if vt k o then iA (k+1) r else some k
def vc (os:List Tg):Option Nat:=match os with | []=>some 0 | _=>iA 0 os
def optV:Option Nat->V
 | none=>.non
 | some k=>.int (k:Int)
structure yV (K:W.Frag):Prop where
 ni:PySem.W.kitOne K (.type "NoneType") (.type "int")=some false
 si:PySem.W.kitOne K (.type "str") (.type "int")=some false
 ti:PySem.W.kitOne K (.type "tuple") (.type "int")=some false
 bi:PySem.W.kitOne K (.type "bool") (.type "int")=some true
 ib:PySem.W.kitOne K (.type "int") (.type "bool")=some false
 ns:PySem.W.kitOne K (.type "NoneType") (.type "str")=some false
 is:PySem.W.kitOne K (.type "int") (.type "str")=some false
 bs:PySem.W.kitOne K (.type "bool") (.type "str")=some false
 ts:PySem.W.kitOne K (.type "tuple") (.type "str")=some false
 nt:PySem.W.kitOne K (.type "NoneType") (.type "tuple")=some false
 it:PySem.W.kitOne K (.type "int") (.type "tuple")=some false
 st:PySem.W.kitOne K (.type "str") (.type "tuple")=some false
 bt:PySem.W.kitOne K (.type "bool") (.type "tuple")=some false
 lt:PySem.W.kitOne K (.type "list") (.type "tuple")=some false
 dt:PySem.W.kitOne K (.type "dict") (.type "tuple")=some false
theorem EV.ty {K:W.Frag} {H:Hp} {v:V} {e:E13} (h:EV H v e):∃ T,gI K H v T/\T=(match e with | .int _=>.type "int" | .str _=>.type "str" | .bl _=>.type "bool" | .non=>.type "NoneType" | .tup=>.type "tuple"):=by
 cases e with
 | int i=>cases (show v=_ from h);exact ⟨_,.int i,rfl⟩
 | str x=>cases (show v=_ from h);exact ⟨_,.str x,rfl⟩
 | bl b=>cases (show v=_ from h);exact ⟨_,.bl b,rfl⟩
 | non=>cases (show v=_ from h);exact ⟨_,.non,rfl⟩
 | tup=>obtain ⟨a,xs,rfl,h2⟩:=h;exact ⟨_,.tup h2,rfl⟩
def E13.isInt:E13->Bool
 | .int _=>true
 | _=>false
def E13.isStr:E13->Bool
 | .str _=>true
 | _=>false
theorem EV.str {K:W.Frag} {H:Hp} {v:V} {e:E13} (kk:yV K) (h:EV H v e):∃ T,gI K H v T/\PySem.W.kitOne K T (.type "str")=some e.isStr:=by
 obtain ⟨T,t,rfl⟩:=EV.ty (K:=K) h;refine ⟨_,t,?_⟩;cases e with
 | int i=>exact kk.is
 | str x=>exact gf
 | bl b=>exact kk.bs
 | non=>exact kk.ns
 | tup=>exact kk.ts
theorem DR (es:List E13) (k:Nat):(es.map (E13.ahead k)).all id=es.all (E13.ahead k):=by rw [List.all_map];rfl
theorem DI {α:Type} {xs:List α} {i:Nat} {x:α} (h:xs[i]?=some x):xs.drop i=x::xs.drop (i+1):=by
 obtain ⟨hi,e⟩:=List.getElem?_eq_some_iff.mp h;rw [List.drop_eq_getElem_cons hi,e]
theorem sW {w:Str}:∀{D:List (Str×Int)},w ∉ D.map Prod.fst->PyProof.Rows.KTD.datumAt w D=none
 | [],_=>rfl
 | (x,d)::D,h=>by
  unfold PyProof.Rows.KTD.datumAt;rw [if_neg (λz=>h (by rw [of_decide_eq_true z];exact List.mem_cons_self))];exact sW λz=>h (List.mem_cons_of_mem _ z)
theorem yz {w:Str} (h:w ∉ TK.map Prod.fst):il w=.non:=by unfold il;rw [sW h]
theorem yx {w:Str}:∀{L:List Str},inV (.str w) (L.map V.str)=true->w∈L
 | [],h=>by cases h
 | x::r,h=>by
  have h':((x == w) || inV (.str w) (r.map V.str))=true:=h;rw [Bool.or_eq_true] at h';rcases h' with z | z
  ·rw [beq_iff_eq] at z;rw [z];exact List.mem_cons_self
  ·exact List.mem_cons_of_mem _ (yx z)
theorem qR {n:Nat} {L:List Str} (h1:∀ x∈TK.map Prod.fst,decide (il x=.int (n:Int))=inV (.str x) (L.map V.str)) (h2:∀ x∈L,x∈TK.map Prod.fst) (w:Str):inV (.str w) (L.map V.str)=decide (il w=.int (n:Int)):=by
 by_cases hm:w∈TK.map Prod.fst
 ·exact (h1 w hm).symm
 ·rw [yz hm,decide_eq_false (λz=>nomatch z)];cases e:inV (.str w) (L.map V.str) with
  | false=>rfl
  | true=>exact absurd (h2 w (yx e)) hm
abbrev W0:List Str:=["never","always","p","q"]
abbrev W1:List Str:=["not"]
abbrev W2:List Str:=["more","less","greater","lesser","leads"]
theorem in_W0 (w:Str):inV (.str w) (W0.map V.str)=decide (il w=.int ((0:Nat):Int)):=qR (by decide+kernel) (by decide+kernel) w
theorem in_W1 (w:Str):inV (.str w) (W1.map V.str)=decide (il w=.int ((1:Nat):Int)):=qR (by decide+kernel) (by decide+kernel) w
theorem in_W2 (w:Str):inV (.str w) (W2.map V.str)=decide (il w=.int ((2:Nat):Int)):=qR (by decide+kernel) (by decide+kernel) w
def EF:V->Bool
 | .int i=>decide (i<=2)
 | _=>true
theorem DD (w:Str):EF (il w)=true:=by
 by_cases hm:w∈TK.map Prod.fst
 ·exact (show ∀ x∈TK.map Prod.fst,EF (il x)=true by decide+kernel) w hm
 ·rw [yz hm];rfl
theorem how_big {w:Str} {n:Nat} (h:3<=n):decide (il w=.int (n:Int))=false:=decide_eq_false λz=>by
 have:=DD w;rw [z] at this;have:=of_decide_eq_true this;omega
theorem qu {σ:St} {H:Hp}:∀{L:List Str} {us:List V},lR σ H (L.map Lt.str) us->us=L.map V.str
 | [],_,h=>h
 | x::r,_,⟨u,t,h1,h2,h3⟩=>by
  subst h1;cases (show u=V.str x from h2)
  rw [qu h3];rfl
theorem DG (L:List Str):(L.map V.str).all nU=true:=by
 rw [List.all_eq_true];intro v hv;obtain ⟨x,_,rfl⟩:=List.mem_map.mp hv;rfl
def tup13 (s:Stmt):Expr:=match s with
 | .If (.BoolOp _ [_,.Compare _ _ [e] _,_] _) _ _ _=>e
 | _=>.Constant .none 0 ⟨0,0,0,0⟩
def xa:Sp:=λvs H Q _=>∃(x:V) (e:E13),vs=[x]/\EV H x e/\Q (.bl e.isInt) H
def EE (K:W.Frag):Sp:=λvs H Q _=>∃(x:V) (k:Nat) (o:Tg),vs=[x,.int (k:Int)]/\TgV K H x o/\∀ H',aE H H'->Q (.bl (nE k o)) H'
def xb (K:W.Frag):Sp:=λvs H Q _=>∃(l:Addr) (us:List V) (os:List Tg),vs=[.ref l]/\H l=some (.lst us)/\aZ (TgV K H) us os/\os.length<=1000/\∀ H',aE H H'->Q (optV (vc os)) H'
theorem len_in {n:Nat} (h:1<=n) (h':n<=3):inV (.int (n:Int)) [V.int 1,V.int 2,V.int 3]=true:=by
 have:n=1\/n=2\/n=3:=by omega
 rcases this with rfl | rfl | rfl <;> rfl
theorem len_out {n:Nat} (h:3 < n):inV (.int (n:Int)) [V.int 1,V.int 2,V.int 3]=false:=by
 unfold inV;simp only [List.any_cons,List.any_nil,eqV,Bool.or_false];rw [Bool.or_eq_false_iff,Bool.or_eq_false_iff];refine ⟨beq_eq_false_iff_ne.mpr ?_,beq_eq_false_iff_ne.mpr ?_,beq_eq_false_iff_ne.mpr ?_⟩ <;> omega
theorem Dg (T:au K mg "_law_whole" oJ) (aX:mg "isinstance"=none) (vn:mg "int"=none) (pB:mg "bool"=none) (kk:yV K):Def P w K mg base 1 "_law_whole" ["_law_found"] xa:=by
 refine aO T rF (λ_ _ _ _ _ _=>L2.ar1 λ_=>rfl) ?_ ?_
 ·walk_at "i1";obtain ⟨x,e,rfl,_⟩:=h;rfl
 walk_at "i2";obtain ⟨x,e,rfl,ev,q⟩:=h;have nd:=rF.nd;obtain ⟨T,t,rfl⟩:=EV.ty (K:=K) ev;refine ⟨_,(aj (aw (rZ (aB gj rfl aX (by decide+kernel) (aa (pv 0) (aa (gE (v:=V.ty "int") rfl vn (by decide+kernel) rfl) af))) (jr (Ft (aB gj rfl aX (by decide+kernel) (aa (pv 0) (aa (gE (v:=V.ty "bool") rfl pB (by decide+kernel) rfl) af)))))))),?_⟩;cases e with
 | int i=>exact ⟨_,rfl,_,_,_,_,true,rfl,(λ_ h=>h),t,gf,_,rfl,fm ⟨_,rfl,_,_,_,_,false,rfl,(λ_ h=>h),t,kk.ib,_,rfl,q⟩⟩
 | bl b=>exact ⟨_,rfl,_,_,_,_,true,rfl,(λ_ h=>h),t,kk.bi,_,rfl,fm ⟨_,rfl,_,_,_,_,true,rfl,(λ_ h=>h),t,gf,_,rfl,q⟩⟩
 | str x=>exact ⟨_,rfl,_,_,_,_,false,rfl,(λ_ h=>h),t,kk.si,_,rfl,cX q⟩
 | non=>exact ⟨_,rfl,_,_,_,_,false,rfl,(λ_ h=>h),t,kk.ni,_,rfl,cX q⟩
 | tup=>exact ⟨_,rfl,_,_,_,_,false,rfl,(λ_ h=>h),t,kk.ti,_,rfl,cX q⟩
theorem ok_lrow (T:au K mg "_law_row" cT) (aX:mg "isinstance"=none) (bO:mg "tuple"=none) (aU:mg "len"=none) (vm:mg "str"=none) (vo:mg "all"=none) (kk:yV K)
  (za:Def P w K mg base 1 "_law_whole" ["_law_found"] xa):Def P w K mg base 2 "_law_row" ["_law_thing","_law_at"] (EE K):=by
 refine aO T xx (λ_ _ _ _ _ _=>L2.ar2 λ_ _=>rfl) ?_ ?_
 ·walk_at "i1";obtain ⟨x,k,g,rfl,_⟩:=h;rfl
 walk_at "i2";obtain ⟨x,k,o,rfl,⟨_,gv⟩,q⟩:=h;have nd:=xx.nd
 have cm:∃ te,PE (cR CX0 P w K mg base ju "_law_row" (ag cT) f cdv A outer s H E).nox (irArg ((bf cT).getD 3 (.Pass ⟨0,0,0,0⟩))) te/\∀(a:Addr) (y:V) (ys:List V) (es:List E13) (o2:Option V) (H0:Hp) (Q':VK),H0 a=some (.tup (y::ys))->aZ (EV H0) ys es->es.length<=20->(∀ D H4,aE H0 H4->H4 D=some (.lst (es.map λe=>.bl (e.ahead k)))->Q' (.ref D) H4)->te [some (.ref a),some (.int (k:Int)),o2] H0 Q':=by
  refine ⟨_,(iT rfl (iI (dh mZ (pv 0) (eC ak) eE)) rfl (by decide+kernel) (by decide+kernel) rfl (show L2.FrN _ (ag cT) by decide+kernel) (fW (j:=1) rfl (Or.inl rfl) (by decide+kernel) (Or.inl rfl) fL) (show (["_law_number","_law_at"]:List Str).Nodup by decide+kernel) (λ_ _ _ _=>ix) (λ_ _ _ _=>(rZ (aD za (hr.mono (by omega)) rfl (aa (pv 0) af)) (jr (xN BF jE ak (pv 0) (pv 1)))))),?_⟩;intro a y ys es o2 H0 Q' e al le fin;have gl:=al.len;refine fM ?_;refine ⟨_,rfl,_,rfl,?_⟩;dsimp only [kO];refine sl1 (K:=K) e λp1 hp1=>?_;refine ⟨p1,rfl,⟨_,SqT.of ae⟩,?_⟩;have sp:=ao hp1 (.tup ys)
  refine lI (K:=K) (ts:=es) (R:=λH' v e=>EV H' v e) (xs:=ys) (λe:E13=>.bl (e.ahead k)) (λ_ _ v t s h=>EV.same s v t h) (λl H'=>l=p1/\H'=upd H0 p1 (.tup ys)) (λR h=>h p1 _ ⟨rfl,rfl⟩) (λl H' h=>by obtain ⟨rfl,rfl⟩:=h;exact ⟨ae,aE.refl _⟩) (by omega)
   (al.imp (EV.same sp)) (λv e H' N hi hv hN=>?_) (λD H4 s4 hD eD=>fin D H4 (sp.trans s4) eD)
  refine ⟨_,rfl,v,e,rfl,hv,_,rfl,?_⟩;cases e with
  | int i =>
   cases (show v=_ from hv)
   refine fm ⟨_,rfl,_,_,rfl,rfl,_,rfl,?_⟩;have q':N (.bl (decide (0<=i) && decide (i < (k:Int)))) H':=hN _ (aE.refl _);refine cQ (λc=>?_) (λc=>?_)
   ·rw [c,Bool.true_and] at q';exact ⟨_,rfl,_,_,rfl,rfl,q'⟩
   ·rw [Bool.not_eq_true] at c;rw [c,Bool.false_and] at q';exact q'
  | _=>exact cX (hN _ (aE.refl _))
 obtain ⟨tC,htC,hqC⟩:=cm
 have tl:∃ t,om (cR CX0 P w K mg base ju "_law_row" (ag cT) f cdv A outer s H E).nox ((bf cT).drop 2) t/\∀(a b b0 b1 b2:Addr) (u:Str) (ys:List V) (es:List E13) (H4:Hp),aE H H4->H4 a=some (.tup (V.str u::ys))->aZ (EV H4) ys es->es.length<=2->H4 b=some (.lst [V.ref b0,V.ref b1,V.ref b2])->H4 b0=some (.lst (W0.map V.str))->H4 b1=some (.lst (W1.map V.str))->H4 b2=some (.lst (W2.map V.str))->
   (∀ H',aE H H'->Q (.bl (nE k (some (.str u::es)))) H')->t {nx:=λ_ H'=>Q .non H',rt:=Q} [some (.ref a),some (.int (k:Int)),some (.ref b)] H4:=by
  refine ⟨_,⟨(ai (aY (aC nL (aF aG (pv 0) ak (λ_ _=>rfl)) (aF bo (pv 2) (aK du (aB aS rfl aU (by decide+kernel) (aa (pv 0) af)) ak) (λ_ _=>rfl)) rfl) (aj (aw nK)) aI)
  (aj (aw (aB (yJ rfl) rfl vo (by decide+kernel) (aa htC af)))))⟩,?_⟩
  intro a b b0 b1 b2 u ys es H4 sH e4 al4 le' eb eb0 eb1 eb2 q
  obtain ⟨b',L,hat,eb',hin⟩:∃(b':Addr) (L:List Str),atI [V.ref b0,V.ref b1,V.ref b2] ((((V.str u::ys).length:Nat):Int) - 1)=some (.ref b')/\H4 b'=some (.lst (L.map V.str))/\inV (.str u) (L.map V.str)=decide (il u=.int (es.length:Int)):=by
   have hl:(((V.str u::ys).length:Nat):Int) - 1=(es.length:Int):=by rw [List.length_cons,al4.len];omega
   rw [hl];have:es.length=0\/es.length=1\/es.length=2:=by omega
   rcases this with z | z | z <;> rw [z]
   ·exact ⟨b0,W0,rfl,eb0,in_W0 u⟩
   ·exact ⟨b1,W1,rfl,eb1,in_W1 u⟩
   ·exact ⟨b2,W2,rfl,eb2,in_W2 u⟩
  refine ⟨_,rfl,_,_,_,_,rfl,rfl,SqT.of e4,at0,_,rfl,_,rfl,_,_,rfl,.inr ⟨_,SqT.of e4,rfl⟩,_,_,rfl,rfl,_,_,_,_,rfl,rfl,SqL.of eb,hat,b',_,rfl,.inl (SqL.of eb'),rfl,DG _,_,rfl,?_⟩;show if (!inV (.str u) (L.map V.str))=true then _ else _
  rw [hin]
  by_cases hw:il u=.int (es.length:Int)
  ·rw [decide_eq_true hw];refine cX ?_;refine hqC a _ ys es _ _ _ e4 al4 (by omega) λD H5 s5 eD=>?_;refine ⟨D,es.map (E13.ahead k),rfl,SqL.of (by rw [List.map_map];exact eD),?_⟩;rw [DR];have:=q _ (sH.trans s5)
   rwa [nE,decide_eq_true hw,Bool.true_and] at this
  ·rw [decide_eq_false hw];have:=q _ sH;rw [nE,decide_eq_false hw,Bool.false_and] at this;exact fm this
 obtain ⟨tT,htT,hqT⟩:=tl
 have xW:∃ t,om (cR CX0 P w K mg base ju "_law_row" (ag cT) f cdv A outer s H E).nox ((bf cT).drop 1) t/\∀ D σ H,pU σ (.lst [(.lst [(.str "never"),(.str "always"),(.str "p"),(.str "q")]),(.lst [(.str "not")]),(.lst [(.str "more"),(.str "less"),(.str "greater"),(.str "lesser"),(.str "leads")])])=true->(∀ v H',aE H H'->LtV σ H' (.lst [(.lst [(.str "never"),(.str "always"),(.str "p"),(.str "q")]),(.lst [(.str "not")]),(.lst [(.str "more"),(.str "less"),(.str "greater"),(.str "lesser"),(.str "leads")])]) v->tT D (σ.set 2 (some v)) H')->t D σ H:=by
  refine set_lit (N:=ju) (sc:=ag cT) ?_ htT ?_ ?_ nd ?_ ?_ ?_ ?_
  ·kernel_rfl
  ·rfl
  ·rfl
  ·rfl
  ·exact Or.inl rfl
  ·rfl
  ·exact Or.inr rfl
 obtain ⟨tW,htW,hqW⟩:=xW
 have x3:∃ te,PE (cR CX0 P w K mg base ju "_law_row" (ag cT) f cdv A outer s H E).nox (tup13 ((bf cT).getD 0 (.Pass ⟨0,0,0,0⟩))) te/\∀ σ H Q,pU σ (.tup [.int 1,.int 2,.int 3])=true->(∀ v H',aE H H'->LtV σ H' (.tup [.int 1,.int 2,.int 3]) v->Q v H')->te σ H Q:=by
  refine lit_ex (N:=ju) (sc:=ag cT) ?_ ?_ ?_
  ·kernel_rfl
  ·rfl
  ·rfl
 obtain ⟨t3,ht3,hq3⟩:=x3;refine ⟨_,kZ (aY (PW.pt (nG (ke (gq (aB gj rfl aX (by decide+kernel) (aa (pv 0) (aa (gE (v:=V.ty "tuple") rfl bO (by decide+kernel) rfl) af))))) (nG (aC nL (aB aS rfl aU (by decide+kernel) (aa (pv 0) af)) (by assumption) rfl) (oP (ke (gq (aB gj rfl aX (by decide+kernel) (aa (aF aG (pv 0) ak (λ_ _=>rfl)) (aa (gE (v:=V.ty "str") rfl vm (by decide+kernel) rfl) af))))))))) (aj (aw nK)) aI) htW,?_⟩;cases o with
 | none =>
  obtain ⟨T,ty,k1⟩:=gv;exact ⟨_,rfl,_,_,_,_,false,rfl,(λ_ h=>h),ty,k1,_,rfl,fm (q _ (aE.refl _))⟩
 | some es =>
  obtain ⟨le,a,xs,rfl,e,al⟩:=gv;refine ⟨_,rfl,_,_,_,_,true,rfl,(λ_ h=>h),gI.tup e,gf,_,rfl,cX ?_⟩;refine ⟨_,rfl,_,_,rfl,.inr ⟨_,SqT.of e,rfl⟩,?_⟩;refine hq3 _ _ _ rfl λv3 H3 s3 l3=>?_;obtain ⟨p3,_,rfl,ep3,_,_,rfl,rfl,_,_,rfl,rfl,_,_,rfl,rfl,rfl⟩:=l3;refine ⟨p3,_,rfl,.inr (SqT.of ep3),rfl,rfl,_,rfl,?_⟩;have el:=al.len;show if (!inV (V.int ((xs.length:Nat):Int)) [V.int 1,V.int 2,V.int 3])=true then _ else _
  rw [el]
  by_cases h3:3 < es.length
  ·rw [len_out h3];have:=q _ s3
   have er:nE k (some es)=false:=by
    cases es with
    | nil=>rfl
    | cons e0 r =>
     cases e0 with
     | str u =>
      show (decide (il u=.int (r.length:Int)) && _)=false;rw [how_big (by simp at h3;omega),Bool.false_and]
     | _=>rfl
   rw [er] at this;exact fm this
  cases al with
  | nil=>exact fm (q _ s3)
  | @cons y e0 ys es ev al =>
   rw [len_in (by rw [List.length_cons];omega) (by omega)];refine cX ?_;have e':=s3 _ _ e;have al':=al.imp (EV.same s3);have ev':=EV.same s3 _ _ ev;obtain ⟨T,t,kt⟩:=EV.str kk ev';refine ⟨_,rfl,_,_,_,_,rfl,rfl,SqT.of e',at0,_,_,_,_,_,rfl,(λ_ h=>h),t,kt,_,rfl,?_⟩;cases e0 with
   | str u =>
    cases (show y=_ from ev)
    refine cX ?_;refine hqW _ _ _ rfl λv4 H4 s4 l4=>?_;obtain ⟨b,us,rfl,eb,u0,_,rfl,⟨b0,w0,rfl,eb0,l0⟩,u1,_,rfl,⟨b1,w1,rfl,eb1,l1⟩,u2,_,rfl,⟨b2,w2,rfl,eb2,l2⟩,rfl⟩:=l4;have z0:=qu (L:=W0) l0;have z1:=qu (L:=W1) l1;have z2:=qu (L:=W2) l2;subst z0 z1 z2;exact hqT a b b0 b1 b2 u ys es H4 (s3.trans s4) (s4 _ _ e') (al'.imp (EV.same s4)) (by rw [List.length_cons] at h3;omega) eb eb0 eb1 eb2 q
   | int i=>exact fm (q _ s3)
   | bl b=>exact fm (q _ s3)
   | non=>exact fm (q _ s3)
   | tup=>exact fm (q _ s3)
theorem Di (T:au K mg "_law_fault" oK) (cx:mg "range"=none) (aU:mg "len"=none) (Ec:Def P w K mg base 2 "_law_row" ["_law_thing","_law_at"] (EE K)):Def P w K mg base 3 "_law_fault" ["_law_things"] (xb K):=by
 refine aO T rG (λ_ _ _ _ _ _=>L2.ar1 λ_=>rfl) ?_ ?_
 ·walk_at "i1";obtain ⟨l,us,os,rfl,_⟩:=h;rfl
 walk_at "i2";obtain ⟨l,us,os,rfl,el,al,few,q⟩:=h;have nd:=rG.nd;have hu:=hr.units;have lu:=al.len
 refine ⟨_,(ai (aY (aC (FF hu) (pv 0) (bF af) (aH _)) (aj (aw ak)) aI)
  (ai (cK PassesOwn.never rfl (gL rfl cx (aa (aB aS rfl aU (by decide+kernel) (aa (pv 0) af)) af)) (aP (i:=1) nd rfl (Or.inl rfl)) (aj (aY (PW.pt (nG (aC hU (pv 1) ak (aH _)) (oP (ke (gq (aD Ec (hr.mono (by omega)) rfl (aa (aF bo (pv 0) (pv 1) (λ_ _=>rfl)) (aa (pv 1) af)))))))) (aj (aw (pv 1))) aI)))
  (aj (aw rX)))),?_⟩
 refine ⟨_,rfl,szA,λp0 hp0=>?_⟩;have s0:=ao hp0 (.lst []);refine ⟨l,p0,us,[],rfl,rfl,SqL.of (s0 _ _ el),SqL.of ae,?_⟩;cases al with
 | nil=>exact .inl ⟨rfl,(λv hv=>nomatch hv),_,rfl,fm (q _ s0)⟩
 | @cons y o ys os tv al =>
 refine .inr ⟨by simp,_,rfl,cX ?_⟩;have al:=aZ.cons tv al;refine ⟨_,rfl,_,_,rfl,.inl ⟨_,SqL.of (s0 _ _ el),rfl⟩,_,rfl,by omega,by rw [lu];have:(o::os).length<=1000:=few;omega,?_⟩;refine jb (λi σ H'=>aE H H'/\iA 0 (o::os)=iA i ((o::os).drop i)/\∃ o1,σ=[some (.ref l),o1]) ⟨s0,rfl,_,rfl⟩ (λi σ H' hi z=>?_) (λσ H' z=>?_)
 ·obtain ⟨sm,ho,o1,rfl⟩:=z;have hi':i < (y::ys).length:=by omega
  obtain ⟨g,hg,gv⟩:=al.get i _ (List.getElem?_eq_getElem hi');have e1:=sm _ _ el;have ho:iA 0 (o::os)=if vt i g then iA (i+1) ((o::os).drop (i+1)) else some i:=by rw [ho,DI hg];rfl
  refine ⟨_,rfl,_,_,rfl,rfl,_,rfl,?_⟩;have hz:(0+(i:Int))=(i:Int):=by omega
  refine cQ (λc=>fm ?_) (λc=>?_)
  ·have c':(399:Int) < 0+(i:Int):=of_decide_eq_true c;have ef:vt i g=false:=by unfold vt;rw [decide_eq_false (by omega),Bool.false_and]
   rw [ef,if_neg Bool.false_ne_true] at ho;refine ⟨_,rfl,?_⟩;have:=q _ sm;rw [show vc (o::os)=some i from ho] at this;rw [hz];exact this
  ·have c':¬ (399:Int) < 0+(i:Int):=λz=>c (decide_eq_true z);rw [hz];refine ⟨_,rfl,_,rfl,_,_,_,_,rfl,rfl,SqL.of e1,cZ (List.getElem?_eq_getElem hi'),_,rfl,_,i,g,rfl,TgV.same sm _ _ gv,λH3 s3=>?_⟩;have ef:vt i g=nE i g:=by unfold vt;rw [decide_eq_true (by omega),Bool.true_and]
   rw [ef] at ho;refine ⟨_,rfl,?_⟩;cases hb:nE i g with
   | true =>
    rw [hb,if_pos rfl] at ho;exact cX ⟨sm.trans s3,ho,_,rfl⟩
   | false =>
    rw [hb,if_neg Bool.false_ne_true] at ho;refine fm ⟨_,rfl,?_⟩;have:=q _ (sm.trans s3)
    rwa [show vc (o::os)=some i from ho] at this
 ·obtain ⟨sm,ho,o1,rfl⟩:=z;have:=q _ sm;have e0:((y::ys).length:Int).toNat=(o::os).length:=by omega
  rw [e0,List.drop_length] at ho
  rwa [show vc (o::os)=none from ho] at this
end Mine
namespace L2
open PySem
theorem Cb {X:Cx} {N:List Str} {sc:Scope} {xs:List Lt} {e tg:Expr} {body rest:List Stmt} {g:TG} {tb tr:TS} {pos:Pos} (h:litE N sc e=some (.lst xs)) (hr:om X rest tr) (hb:om X body tb) (eN:X.N=N) (es:X.env.scope=sc) (hp:PassesOwn (model X.prog X.w) X.A X.env X.xe) (hc:X.calm=true) (hg:PG X tg g) (hs:∀ x,foldedSetIterable e X.env x=pure x) :
  ∃ t,om X (.For tg e body [] pos::rest) t/\∀ D σ H,pU σ (.lst xs)=true->(∀ a us H1,aE H H1->H1 a=some (.lst us)->lR σ H1 xs us->tFor (λ_ H R=>R (Itl X.K a) H) g tb {D with nx:=tr D} σ H1)->t D σ H:=
 ⟨_,⟨ai (cK hp hc (fg (qD eN es e h)) hg hb.h hs) hr.h⟩,λD σ H hv q=>vV _ hv λv H' s' lv=>by
  obtain ⟨a,us,rfl,ea,lu⟩:=lv;exact ⟨a,rfl,⟨us,SqL.of ea⟩,q a us H' s' ea lu⟩⟩
theorem we {σ:St} {H:Hp}:∀{L:List Int} {us:List V},lR σ H (L.map Lt.int) us->us=L.map V.int
 | [],_,h=>h
 | x::L,us,⟨u,r,h1,h2,h3⟩=>by
  cases (show u=_ from h2)
  rw [h1,we h3];rfl
end L2
namespace Mine
open PySem L2
def tgG (g:Gr):Tg:=some (.str g.word::g.nums.map λi:Nat=>E13.int (i:Int))
theorem GrV.tg {K:W.Frag} {H:Hp} (v:V) (g:Gr) (h:GrV H v g):TgV K H v (tgG g):=by
 obtain ⟨a,rfl,e⟩:=h;unfold Gr.rw at e;rw [qy] at e;refine ⟨rfl,?_,a,_,rfl,e,.cons rfl ?_⟩
 ·cases g <;> simp [Gr.nums]
 ·generalize g.nums=ns
  induction ns with
  | nil=>exact .nil
  | cons i r ih=>exact .cons rfl ih
theorem howG (g:Gr):il g.word=.int ((g.nums.length:Nat):Int):=by
 cases g with
 | ne=>decide+kernel
 | al=>decide+kernel
 | p=>decide+kernel
 | q=>decide+kernel
 | no i=>show il "not"=.int ((1:Nat):Int);decide+kernel
 | fold u i j =>
  cases u with
  | more=>show il "more"=.int ((2:Nat):Int);decide+kernel
  | less=>show il "less"=.int ((2:Nat):Int);decide+kernel
  | greater=>show il "greater"=.int ((2:Nat):Int);decide+kernel
  | lesser=>show il "lesser"=.int ((2:Nat):Int);decide+kernel
  | leads=>show il "leads"=.int ((2:Nat):Int);decide+kernel
theorem Fe {k:Nat} {g:Gr} (h:oo k g):nE k (tgG g)=true:=by
 show (decide (il g.word=.int (((g.nums.map λi:Nat=>E13.int (i:Int)).length:Nat):Int)) && (g.nums.map λi:Nat=>E13.int (i:Int)).all (E13.ahead k))=true;rw [List.length_map,decide_eq_true (howG g),Bool.true_and,List.all_eq_true];intro e he;obtain ⟨i,hi,rfl⟩:=List.mem_map.mp he;have:=h i hi;show (decide (0<=(i:Int)) && decide ((i:Int) < (k:Int)))=true;rw [decide_eq_true (by omega),decide_eq_true (by omega)];rfl
theorem yB:∀{gs:List Gr} {k:Nat},(∀ i g,gs[i]?=some g->oo (k+i) g)->k+gs.length<=400->iA k (gs.map tgG)=none
 | [],_,_,_=>rfl
 | g::r,k,h,l=>by
  have l':k+(r.length+1)<=400:=l;have o:vt k (tgG g)=true:=by unfold vt;rw [decide_eq_true (by omega),Fe (k:=k) (h 0 g rfl)];rfl
  show (if vt k (tgG g) then iA (k+1) (r.map tgG) else some k)=none;rw [if_pos o];exact yB (λi g' hg=>by have:=h (i+1) g' (by simpa using hg);rwa [show k+1+i=k+(i+1) by omega]) (by omega)
theorem Ap {gs:List Gr} (h:vp gs) (n:gs≠[]) (l:gs.length<=400):vc (gs.map tgG)=none:=by
 cases gs with
 | nil=>exact absurd rfl n
 | cons g r=>exact yB (k:=0) (λi g' hg=>by rw [Nat.zero_add];exact h i g' hg) (by omega)
theorem Hr {α β γ:Type} {R:α->β->Prop} {R':α->γ->Prop} {f:β->γ} (k:∀ a b,R a b->R' a (f b)) {as:List α} {bs:List β} (h:aZ R as bs):aZ R' as (bs.map f):=by
 induction h with
 | nil=>exact .nil
 | cons r _ ih=>exact .cons (k _ _ r) ih
abbrev mI:List Int:=[5,7,8,12]
theorem yb {i:Nat} {x:V} (h:(mI.map V.int)[i]?=some x):∃ n:Int,x=.int n/\1<=n/\n<=12:=by
 rw [List.getElem?_map] at h;cases e:mI[i]? with
 | none=>rw [e] at h;cases h
 | some n =>
  rw [e] at h;cases h
  have m:=List.mem_of_getElem? e;have:∀ n∈mI,1<=n/\n<=12:=by decide
  exact ⟨n,rfl,this n m⟩
def zq (K:W.Frag):Sp:=λvs H Q _=>∃(v:V) (L:List St4) (n x:Int),vs=[v,.int n,.int x]/\Dat K H (lnD L) v/\Ln.aM 10 L/\0 < n/\n<=100/\0<=x/\x<=n/\Q (.int (hAt L x n)) H
def uw (K:W.Frag):Sp:=λvs H Q _=>∃(l:Addr) (x:V) (L:List St4) (us:List V) (gs:List Gr) (Ls:List (List St4)),vs=[.ref l,x]/\H l=some (.lst us)/\aZ (GrV H) us gs/\SR gs (Ls++[L])/\us.length<=300/\Dat K H (lnD L) x/\Bk 10 L/\∀ H',aE H H'->Q (.bl true) H'
variable {P:Program} {w:World} {K:W.Frag} {mg:Str->Option Value} {base:Heap}
theorem xU (T:au K mg "_law_height" mD):Def P w K mg base 1 "_law_height" ["_law_line","_law_n","_law_x"] (zq K):=by
 refine aO T pP (λ_ _ _ _ _ _=>L2.ar3 λ_ _ _=>rfl) ?_ ?_
 ·walk_at "i1";obtain ⟨v,L,n,x,rfl,_⟩:=h;rfl
 walk_at "i2";obtain ⟨v,L,n,x,rfl,dx,LB,n0,n100,x0,xn,q⟩:=h;have nd:=pP.nd;obtain ⟨la,xs,rfl,sa,da⟩:=jH dx;have lx:=dU da
 refine ⟨_,(ai (cK PassesOwn.never rfl (iI (pv 0)) (kh rfl (ba (aP (i:=3) nd rfl (Or.inl rfl)) (ba (aP (i:=4) nd rfl (Or.inl rfl)) (ba (aP (i:=5) nd rfl (Or.inl rfl)) fh)))) (aj (aY (aC BF (aK bM (pv 2) (aF aG (pv 3) ak (λ_ _=>rfl))) (aK bM (aF aG (pv 3) ak (λ_ _=>rfl)) (pv 1)) (aH _)) (aj (aw (aK bJ (aK bM (pv 4) (pv 2)) (aK bM (pv 5) (pv 1))))) aI)))
  (aj (aw ak))),?_⟩
 refine ⟨_,rfl,la,rfl,⟨xs,sa⟩,?_⟩
 refine wt (xs:=xs) (λi σ H'=>H'=H/\∃(o3 o4 o5:Option V),σ=[some (.ref la),some (.int n),some (.int x),o3,o4,o5]/\∀ j,j < i->∀ t,L[j]?=some t->t.p*n < x*t.q)
  ⟨rfl,_,_,_,rfl,λ_ h=>absurd h (Nat.not_lt_zero _)⟩ (λi σ H' _ z=>by obtain ⟨rfl,_⟩:=z;exact sa) (λi v σ H' hv z=>?_) (λσ H' z=>?_)
 ·obtain ⟨rfl,o3,o4,o5,rfl,past⟩:=z;obtain ⟨st,hst,dst⟩:=hV da hv;obtain ⟨c,e,rfl,q1,d1⟩:=dA dst;obtain ⟨ea,rfl,qe⟩:=nS d1;obtain ⟨k1,k2,k3,k4,k5,k6⟩:=LB.ok st (List.mem_of_getElem? hst);have k10:(2:Nat) ^ 10=1024:=rfl;rw [k10] at k4 k5 k6;refine ⟨c,_,rfl,q1,rfl,_,_,rfl,_,_,rfl,_,_,rfl,rfl,?_⟩;refine ⟨_,rfl,_,rfl,_,_,_,_,rfl,rfl,qe,rfl,_,_,rfl,rfl,fF (bc (by omega)) (bc (by omega)),_,rfl,_,_,_,_,rfl,rfl,qe,rfl,_,rfl,_,_,rfl,rfl,fF (bc (by omega)) (bc (by omega)),_,_,rfl,rfl,_,rfl,cQ (λc=>?_) (λc=>?_)⟩
  ·have c:=of_decide_eq_true c;have e:hAt L x n=st.m*x+st.h*n:=cy (Ln.xJ (k:=i) past hst (by omega));rw [e] at q;exact ⟨_,rfl,_,rfl,_,_,rfl,rfl,fF (bc (by omega)) (bc (by omega)),_,rfl,_,rfl,_,_,rfl,rfl,fF (bc (by omega)) (bc (by omega)),_,_,rfl,rfl,q⟩
  ·have c:¬x*st.q<=st.p*n:=λz=>c (decide_eq_true z);refine ⟨rfl,_,_,_,rfl,λj hj t ht=>?_⟩
   by_cases hji:j=i
   ·subst hji;rw [hst] at ht;cases ht
    omega
   ·exact past j (by omega) t ht
 ·obtain ⟨rfl,o3,o4,o5,rfl,past⟩:=z;obtain ⟨st,hs,p1,q1⟩:=LB.last;obtain ⟨l0,hl⟩:=Ln.BS hs;have:=past _ (by omega) st hl;rw [p1,q1] at this;omega
theorem zK (T:au K mg "_law_rows_right" ck) (aX:mg "isinstance"=none) (AI:mg "list"=none) (cx:mg "range"=none) (fv:mg "min"=none) (iC:mg "max"=none) (zb:Def P w K mg base 3 "_law_fault" ["_law_things"] (xb K)) (yZ:Def P w K mg base 2 "_law_worth" ["_law_rows","_law_n","_law_x","_law_y"] ur) (jz:Def P w K mg base 1 "_law_height" ["_law_line","_law_n","_law_x"] (zq K)):Def P w K mg base 4 "_law_rows_right" ["_law_rows","_law_line"] (uw K):=by
 refine aO T jC (λ_ _ _ _ _ _=>L2.ar2 λ_ _=>rfl) ?_ ?_
 ·walk_at "i1";obtain ⟨l,x,L,us,gs,Ls,rfl,_⟩:=h;rfl
 walk_at "i2";obtain ⟨l,xl,L,us,gs,Ls,rfl,el,al,sr,few,dx,bk,q⟩:=h;have nd:=jC.nd;have hu:=hr.units;have lu:=al.len;have ng:gs≠[]:=λz=>by have:=sr.rl.1;rw [z] at this;simp at this
 have t1:∃ t,om (cR CX0 P w K mg base fj "_law_rows_right" (ag ck) f cdv A outer s H E).nox ((bf ck).drop 1) t/\∀(o3 o4:Option V) (H1:Hp),aE H H1->
   t {nx:=λ_ H'=>Q .non H',rt:=Q} [some (.ref l),some xl,o3,o4] H1:=by
  refine GX (Cb (X:=(cR CX0 P w K mg base fj "_law_rows_right" (ag ck) f cdv A outer s H E).nox) (N:=fj) (sc:=ag ck) (xs:=mI.map Lt.int) (g:=pZ 2) ?h ⟨(aj (aw nK))⟩ ⟨(aj (cK PassesOwn.never rfl (gL rfl cx (aa (aK bJ (pv 2) ak) af)) (aP (i:=3) nd rfl (Or.inl rfl)) (aj (aY (aC BE (aD yZ (hr.mono (by omega)) rfl (aa (pv 0) (aa (pv 2) (aa (pv 3) (aa ak af))))) (aD jz (hr.mono (by omega)) rfl (aa (pv 1) (aa (pv 2) (aa (pv 3) af)))) (aH _)) (aj (aw nK)) aI))))⟩ ?a ?b PassesOwn.never rfl (aP (i:=2) nd rfl (Or.inl rfl)) ?s) ?r
  case h=>kernel_rfl
  case a=>rfl
  case b=>rfl
  case s=>intro _;rfl
  intro t k o3 o4 H1 s1;refine k _ _ _ rfl λa us' H2 s2 ea lu'=>?_;have eu:=we lu';subst eu;have s12:=s1.trans s2;refine gh (xs:=mI.map V.int) (λi σ H'=>aE H2 H'/\∃ o3 o4,σ=[some (.ref l),some xl,o3,o4]) ⟨aE.refl _,_,_,rfl⟩ (λi σ H' _ z=>SqL.of (z.1 _ _ ea)) (λi x σ H' hx z=>?_) (λσ H' z=>?_)
  ·obtain ⟨sm,o3,o4,rfl⟩:=z;obtain ⟨n,rfl,n1,n12⟩:=yb hx;refine ⟨_,rfl,_,_,rfl,rfl,_,rfl,by omega,by omega,?_⟩;refine jb (λj σ H3=>aE H2 H3/\∃ o4,σ=[some (.ref l),some xl,some (.int n),o4]) ⟨sm,_,rfl⟩ (λj σ H3 hj z=>?_) (λσ H3 z=>?_)
   ·obtain ⟨sm3,o4,rfl⟩:=z;have e0:(0:Int)+(j:Int)=(j:Int):=by omega
    rw [e0];have sA:=s12.trans sm3;refine ⟨_,rfl,_,rfl,_,rfl,l,us,gs,n,(j:Int),0,rfl,sA _ _ el,al.imp (GrV.to (Kp.of sA)),sr.ok,ng,by omega,λH4 s4=>?_⟩;have j0:(j:Int)<=n:=by omega
    refine ⟨_,rfl,_,rfl,_,rfl,xl,L,n,(j:Int),rfl,(dx.ts sA.ts).ts s4.ts,bk.b,by omega,by omega,by omega,j0,rfl,_,rfl,?_⟩;have e:=sr.last (n:=n) (x:=(j:Int)) (by omega) (by omega) j0;exact GJ (congrArg V.int e) ⟨sm3.trans s4,_,rfl⟩
   ·obtain ⟨sm3,o4,rfl⟩:=z;exact ⟨sm3,_,_,rfl⟩
  ·obtain ⟨sm,o3,o4,rfl⟩:=z;exact q _ (s12.trans sm)
 obtain ⟨t1,ht1,k1⟩:=t1;refine ⟨_,kZ (aY (PW.pt (nG (ke (gq (aB gj rfl aX (by decide+kernel) (aa (pv 0) (aa (gE (v:=V.ty "list") rfl AI (by decide+kernel) rfl) af))))) (nG (aC BD (aD zb (hr.mono (by omega)) rfl (aa (pv 0) af)) rX (aH _)) (oP (aC (FG hu) (bE (aa aL af)) (pv 0) rfl))))) (aj (aw nK)) aI) ht1,?_⟩;refine ⟨_,rfl,_,_,_,_,true,rfl,(λ_ h=>h),.lst el,gf,_,rfl,?_⟩;have ft:vc (gs.map tgG)=none:=Ap sr.ok ng (by omega);refine cX ⟨_,rfl,l,us,gs.map tgG,rfl,el,Hr (λv g z=>GrV.tg v g z) al,by simp;omega,λH1 s1=>?_⟩;rw [ft];refine ⟨rfl,_,rfl,cX ?_⟩;refine ⟨szB,λt ht=>?_⟩;have s2:=ao ht (.tup [V.str "q"]);have sA:=s1.trans s2;have dq:Dat K (upd H1 t (.tup [V.str "q"])) (rwD (eQ "q" [])) (.ref t):=RwV.dat ⟨t,rfl,ae⟩;have al1:aZ (RwV (upd H1 t (.tup [V.str "q"]))) us (gs.map Gr.rw):=aZ.to_map (al.imp λv g z=>RwV.to (Kp.of sA) _ _ z)
 have ok:∀ x∈gs.map Gr.rw,oj x:=by
  intro x hx;obtain ⟨g,_,rfl⟩:=List.mem_map.mp hx;exact gr_ok g
 refine ⟨_,rfl,rwD (eQ "q" []),(gs.map Gr.rw).map rwD,l,us,.inl dq,rfl,SqL.of (sA _ _ el),RwV.all al1,vE ok,zy q_ok,Nat.le_trans (oO _) (by decide),_,rfl,?_⟩;rw [Bw,Gf sr.nq];exact cX (k1 _ _ _ sA)
end Mine
open PySem L2 Mine
local macro_rules | `(tactic| walk_at "mul") => `(tactic| first | exact fF (by assumption) (by assumption) | exact fF (by first | assumption | exact bc (by omega) | exact bc (by decide) | exact sm_mod (by decide) (by decide)) (by first | assumption | exact bc (by omega) | exact bc (by decide) | exact sm_mod (by decide) (by decide)))
local macro_rules | `(tactic| walk_at "rd1") => `(tactic| first
 | refine ⟨_,rfl,?_⟩
 | refine ⟨_,_,rfl,rfl,?_⟩
 | (refine ⟨_,_,rfl,rfl,?m,?_⟩;(case' m=>walk_at "mul"))
 | (refine ⟨_,_,rfl,rfl,?m,?_⟩;(case' m=>exact cY (by first | assumption | omega) (by assumption)))
 | (refine ⟨_,_,rfl,rfl,?m,?_⟩;(case' m=>show (0:Int) < _;decide))
 | (refine ⟨_,_,rfl,rfl,?m,?_⟩;(case' m=>exact ⟨by decide,by decide⟩))
 | (refine ⟨_,_,rfl,rfl,?m,?_⟩;(case' m=>exact ⟨by decide,by decide,by decide⟩))
 | (refine' ⟨_,_,_,_,rfl,rfl,?sq,?ia,?k⟩;(case' sq=>first | assumption | exact Scr.l (by assumption));(case' ia=>first | rfl | assumption))
 | refine ⟨rfl,?_⟩
 | (refine ⟨?m,?_⟩;(case' m=>walk_at "mul"))
 | (refine ⟨?m,?_⟩;(case' m=>exact cY (by first | assumption | omega) (by assumption)))
 | (refine ⟨?m,?_⟩;(case' m=>show (0:Int) < _;decide))
 | (refine ⟨?m,?_⟩;(case' m=>exact ⟨by decide,by decide⟩))
 | (refine ⟨?m,?_⟩;(case' m=>exact ⟨by decide,by decide,by decide⟩)))
local macro_rules | `(tactic| walk_at "rd") => `(tactic| repeat walk_at "rd1")
namespace Mine
open PySem L2
def zr (K:W.Frag):Sp:=λvs H Q _=>∃(a:Addr) (ns:List Int) (k:Int),vs=[.ref a,.int k]/\Scr K H a ns/\0<=k/\k<=100/\∀ v:Int,bits v<=1048577->Q (.int v) H
theorem DP {u:Int} (h:bits u<=1048576):bits (u / 2)<=1048577:=by
 refine Nat.le_trans ?_ (show 1048576<=1048577 by decide);rw [bits,intBits_le_iff] at h ⊢;generalize 2^1048576=N at h ⊢;have:=Int.mul_ediv_add_emod u 2;have:=Int.emod_nonneg u (show (2:Int)≠0 by decide);have:=Int.emod_lt_of_pos u (show (0:Int) < 2 by decide);omega
theorem AG {u:Int} (h0:0<=u) (h:u < 2147483629):bits u<=1048577:=Nat.le_trans (intBits_le_64 (by omega) (by omega)) (by decide)
abbrev Gm:List Str:=["_law_script","_law_k","_law_cell_here","_law_first","_law_second"]
variable {P:Program} {w:World} {K:W.Frag} {mg:Str->Option Value} {base:Heap} {c:CCs}
theorem Bv:aA Gm ["_law_script","_law_k"] (ag jW):=L2.fsc rfl
theorem ok_cell (T:au K mg "_law_cell" jW) (aU:mg "len"=none):Def P w K mg base 1 "_law_cell" ["_law_script","_law_k"] (zr K):=by
 refine aO T Bv (λ_ _ _ _ _ _=>L2.ar2 λ_ _=>rfl) ?_ ?_
 ·walk_at "i1";obtain ⟨a,ns,k,rfl,_⟩:=h;rfl
 walk_at "i2";obtain ⟨a,ns,k,rfl,S,h0,h1,q⟩:=h;have nd:=Bv.nd;have hl:(ns.map V.int).length=ns.length:=List.length_map _;have sk:Sm k:=bc (by omega)
 have t3:∃ t,PSs (cR CX0 P w K mg base Gm "_law_cell" (ag jW) f cdv A outer s H E).nox ((bf jW).drop 3) t/\
   ∀ v:Int,0<=v->v < 10 ^ 18->t {nx:=λ_ H'=>Q .non H',rt:=Q} [some (.ref a),some (.int k),some (.int v),none,none] H:=by
  refine ⟨_,(ai (aJ (i:=3) nd rfl (Or.inl rfl) (aK gu (aK bM (aK bJ (aK bJ (aK bJ (pv 2) (aK bM (aK bM ak (pv 1)) (pv 1))) (aK bM ak (pv 1))) ak) ak) ak))
  (ai (aJ (i:=4) nd rfl (Or.inl rfl) (aK gu (aK bJ (aK bM (pv 3) (pv 3)) (pv 1)) ak))
  (aj (aw (aK gu (aK bJ (aK bM (pv 4) ak) (pv 3)) ak))))),λv v0 v1=>?_⟩
  have sv:Sm v:=bc (by omega);have kk:0<=7*k*k/\7*k*k<=700*100:=⟨Int.mul_nonneg (by omega) h0,Int.mul_le_mul (by omega) h1 h0 (by omega)⟩;have s7:Sm (7*k):=bc (by omega);have s1:Sm (v+7*k*k+13*k+5):=bc (by omega)
  walk_at "rd"
  exact q _ (AG (Int.emod_nonneg _ (by decide)) (Int.emod_lt_of_pos _ (by decide)))
 obtain ⟨t3,ht3,hq3⟩:=t3
 refine ⟨_,ai (aY (PW.pt (vF (aC hU (aB aS rfl aU (by decide+kernel) (aa (pv 0) af)) ak (aH _)) (qz (aC bQ (aK gu (aF bo (pv 0) ak (λ_ _=>rfl)) ak) ak (aH _))))) (ai (aY (aC bQ (pv 1) ak (aH _)) (aj (aw (aK qF (aF bo (pv 0) ak (λ_ _=>rfl)) ak))) aI)
  (ai (aY (aC jE (pv 1) (aB aS rfl aU (by decide+kernel) (aa (pv 0) af)) (aH _)) (aj (aw (aF bo (pv 0) (pv 1) (λ_ _=>rfl)))) aI)
  (aj (aw ak)))) aI) (ai (aJ (i:=2) nd rfl (Or.inl rfl) ak) (ai (aY (aC hU (aB aS rfl aU (by decide+kernel) (aa (pv 0) af)) ak (aH _)) (aj (aJ (i:=2) nd rfl (Or.inl rfl) (aK gu (aF bo (pv 0) (aK vL (pv 1) (aB aS rfl aU (by decide+kernel) (aa (pv 0) af))) (λ_ _=>rfl)) (aK op_pow ak ak)))) aI) ht3)),?_⟩
 refine ⟨_,rfl,_,_,rfl,.inl ⟨_,S.l,rfl⟩,_,_,rfl,rfl,_,rfl,?_⟩;refine cQ (λc=>?_) (λc=>cX ?_)
 ·have c':(0:Int) < ((ns.map V.int).length:Nat):=of_decide_eq_true c;rw [hl] at c';obtain ⟨u,hu,mu⟩:=pA (ns:=ns) (Int.le_refl 0) c';refine ⟨_,rfl,_,_,_,_,rfl,rfl,S.l,hu,_,_,rfl,rfl,(show (0:Int) < _ by decide),rfl,_,rfl,?_⟩;refine cQ (λc2=>?_) (λc2=>?_)
  ·refine ⟨_,rfl,rfl,_,rfl,?_⟩;refine cQ (λc3=>?_) (λc3=>?_)
   ·exact ⟨_,rfl,_,_,_,_,rfl,rfl,S.l,hu,_,_,rfl,rfl,⟨by decide,by decide⟩,q _ (DP (S.bit _ mu))⟩
   ·refine ⟨_,rfl,_,rfl,_,_,rfl,.inl ⟨_,S.l,rfl⟩,_,_,rfl,rfl,_,rfl,?_⟩;refine cQ (λc4=>?_) (λc4=>?_)
    ·have c5:k < (((ns.map V.int).length:Nat):Int):=of_decide_eq_true c4;rw [hl] at c5;obtain ⟨u2,hu2,m2⟩:=pA (ns:=ns) h0 c5;exact ⟨_,rfl,_,rfl,_,_,_,_,rfl,rfl,S.l,hu2,q _ (Nat.le_trans (S.bit _ m2) (by decide))⟩
    ·exact q _ (by decide)
  ·refine ⟨_,rfl,_,_,rfl,.inl ⟨_,S.l,rfl⟩,_,_,rfl,rfl,_,rfl,?_⟩;refine cQ (λ_=>?_) (λz=>absurd c z);have z0:(0:Int) < ((ns.map V.int).length:Nat):=of_decide_eq_true c;have e0:=Int.fmod_nonneg_of_pos k z0;have e1:=Int.fmod_lt_of_pos k z0;obtain ⟨u2,hu2,_⟩:=pA (ns:=ns) e0 (by rw [<- hl];exact e1);refine ⟨_,rfl,_,rfl,_,rfl,_,_,rfl,.inl ⟨_,S.l,rfl⟩,_,_,rfl,rfl,(by omega),_,_,_,_,rfl,rfl,S.l,hu2,_,_,rfl,rfl,⟨by decide,by decide,by decide⟩,_,_,rfl,rfl,(show (0:Int) < _ by decide),?_⟩;exact hq3 _ (Int.emod_nonneg _ (by decide)) (Int.emod_lt_of_pos _ (by decide))
 ·refine ⟨_,rfl,_,_,rfl,.inl ⟨_,S.l,rfl⟩,_,_,rfl,rfl,_,rfl,?_⟩;refine cQ (λz=>absurd z c) (λ_=>?_);exact hq3 0 (by decide) (by decide)
def Ey (n:Nat):Sp:=λvs H Q _=>∃(a:Addr) (t:Tr),vs=[.ref a]/\Tu H a t/\t.size<=n/\∀ H',aE H H'->Q (.int (t.size:Int)) H'
theorem GD (t:Tr):(t.kids.map λx=>(x.size:Int)).sum+1=(t.size:Int):=by
 cases t <;> simp [Tr.kids,Tr.size]
def EB (c:CCs) (n:Nat):Sp:=λvs H Q _=>∃(a:Addr) (t:Tr),vs=[.ref a]/\Tu H a t/\t.size<=n/\∀ x H',aE H H'->Ob c H' x t->Q (.ref x) H'
theorem vA:aA ["_law_tree_here"] ["_law_tree_here"] (ag jU):=L2.fsc rfl
theorem ok_size (T:au K mg "_law_size" jU) (vk:mg "sum"=none):∀ n:Nat,Def P w K mg base (n+1) "_law_size" ["_law_tree_here"] (Ey n):=by
 intro n
 induction n with
 | zero =>
  refine aO T vA (λ_ _ _ _ _ _=>L2.ar1 λ_=>rfl) ?_ ?_
  ·walk_at "i1";obtain ⟨a,t,rfl,_⟩:=h;rfl
  ·walk_at "i2";obtain ⟨a,t,rfl,_,z,_⟩:=h;have:=t.size_pos;omega
 | succ n mO =>
  refine aO T vA (λ_ _ _ _ _ _=>L2.ar1 λ_=>rfl) ?_ ?_
  ·walk_at "i1";obtain ⟨a,t,rfl,_⟩:=h;rfl
  walk_at "i2";obtain ⟨a,t,rfl,tu,hz,q⟩:=h;have nd:=vA.nd;obtain ⟨us,e,ou⟩:=tu.parts;refine ⟨_,(aj (aw (aK bJ ak (aB (vf rfl) rfl vk (by decide+kernel) (aa (iT rfl (iI (dh mZ (pv 0) (eC ak) eE)) rfl (by decide+kernel) (by decide+kernel) rfl (show L2.FrN _ (ag jU) by decide+kernel) fL (show (["_law_part"]:List Str).Nodup by decide+kernel) (λ_ _ _ _=>ix) (λ_ _ _ _=>(aD mO (hr.mono (by omega)) rfl (aa (pv 0) af)))) af))))),?_⟩;dsimp only [tRet,tOp,tC,tCB,Bd,tNil];refine fM ?_;refine ⟨_,rfl,_,rfl,?_⟩;dsimp only [kO];refine sl1 (K:=K) e λp hp=>?_;refine ⟨p,rfl,⟨_,SqT.of ae⟩,?_⟩;have sp:=ao hp (.tup us)
  refine lI (K:=K) (ts:=t.kids) (R:=TuV) (xs:=us) (λx=>.int (x.size:Int)) (λ_ _ v t e h=>TuV.to (Kp.of e) v t h) (λl H'=>l=p/\H'=upd H p (.tup us)) (λR h=>h p _ ⟨rfl,rfl⟩) (λl H' h=>by obtain ⟨rfl,rfl⟩:=h;exact ⟨ae,aE.refl _⟩) (by rw [ou.len];have:=nP t;omega)
   (ou.imp (TuV.to (Kp.of sp))) (λv x H' N hx hv hN=>?_) (λD H6 s6 hD eD=>?_)
  ·obtain ⟨b,rfl,tb⟩:=hv;have:=GF hx;exact ⟨_,rfl,b,x,rfl,tb,by omega,hN⟩
  ·refine ⟨D,t.kids.map λx=>(x.size:Int),rfl,SqL.of (by rw [List.map_map];exact eD),_,_,rfl,rfl,?_⟩;have ks:=GD t;show Q (.int (1+(t.kids.map λx=>(x.size:Int)).sum)) H6;rw [show (1:Int)+(t.kids.map λx=>(x.size:Int)).sum=(t.size:Int) by omega];exact q _ (sp.trans s6)
abbrev sayN:List Str:=["_law_tree_here","_law_one","_law_other"]
theorem rD:aA sayN ["_law_tree_here"] (ag mC):=L2.fsc rfl
theorem FL (T:au K mg "_law_saying" mC) (N_never:Mk0 K c.ne) (M_never:mg "Never"=some (.ref c.ne)) (HE:Mk0 K c.al) (HF:mg "Always"=some (.ref c.al)) (HH:tG P w K mg base "Letter" c.le 1 ["self","name"] (kR c.le nV)) (K_not:tG P w K mg base "Not" c.no 1 ["self","part"] (kR c.no sU)) (tI:∀ u:W5,tG P w K mg base u.cls (c.fold u) 1 ["self","one","other"] (kQ (c.fold u))):∀ n:Nat,Def P w K mg base (n+3) "_law_saying" ["_law_tree_here"] (EB c n):=by
 intro n
 induction n with
 | zero =>
  refine aO T rD (λ_ _ _ _ _ _=>L2.ar1 λ_=>rfl) ?_ ?_
  ·walk_at "i1";obtain ⟨a,t,rfl,_⟩:=h;rfl
  ·walk_at "i2";obtain ⟨a,t,rfl,_,z,_⟩:=h;have:=t.size_pos;omega
 | succ n gJ =>
  refine aO T rD (λ_ _ _ _ _ _=>L2.ar1 λ_=>rfl) ?_ ?_
  ·walk_at "i1";obtain ⟨a,t,rfl,_⟩:=h;rfl
  walk_at "i2";obtain ⟨a,t,rfl,tu,hz,q⟩:=h;have nd:=rD.nd;refine ⟨_,(ai (aY (aC bQ (aF aG (pv 0) ak (λ_ _=>rfl)) aL (aH _)) (aj (aw (xK N_never rfl M_never))) aI)
  (ai (aY (aC bQ (aF aG (pv 0) ak (λ_ _=>rfl)) aL (aH _)) (aj (aw (xK HE rfl HF))) aI)
  (ai (aY (aC CQ (aF aG (pv 0) ak (λ_ _=>rfl)) (bE (aa aL (aa aL af))) rfl) (aj (aw (rY HH (hr.mono (by omega)) rfl (aa (aF aG (pv 0) ak (λ_ _=>rfl)) af)))) aI)
  (ai (aJ (i:=1) nd rfl (Or.inl rfl) (aD gJ (hr.mono (by omega)) rfl (aa (aF aG (pv 0) ak (λ_ _=>rfl)) af)))
  (ai (aY (aC bQ (aF aG (pv 0) ak (λ_ _=>rfl)) aL (aH _)) (aj (aw (rY K_not (hr.mono (by omega)) rfl (aa (pv 1) af)))) aI)
  (ai (aJ (i:=2) nd rfl (Or.inl rfl) (aD gJ (hr.mono (by omega)) rfl (aa (aF aG (pv 0) ak (λ_ _=>rfl)) af)))
  (ai (aY (aC bQ (aF aG (pv 0) ak (λ_ _=>rfl)) aL (aH _)) (aj (aw (rY (tI .more) (hr.mono (by omega)) rfl (aa (pv 1) (aa (pv 2) af))))) aI)
  (ai (aY (aC bQ (aF aG (pv 0) ak (λ_ _=>rfl)) aL (aH _)) (aj (aw (rY (tI .less) (hr.mono (by omega)) rfl (aa (pv 1) (aa (pv 2) af))))) aI)
  (ai (aY (aC bQ (aF aG (pv 0) ak (λ_ _=>rfl)) aL (aH _)) (aj (aw (rY (tI .greater) (hr.mono (by omega)) rfl (aa (pv 1) (aa (pv 2) af))))) aI)
  (ai (aY (aC bQ (aF aG (pv 0) ak (λ_ _=>rfl)) aL (aH _)) (aj (aw (rY (tI .lesser) (hr.mono (by omega)) rfl (aa (pv 1) (aa (pv 2) af))))) aI)
  (aj (aw (rY (tI .leads) (hr.mono (by omega)) rfl (aa (pv 1) (aa (pv 2) af))))))))))))))),?_⟩
  cases tu with
  | never e =>
   refine ⟨_,rfl,_,_,_,_,rfl,rfl,SqT.of e,rfl,rfl,_,rfl,ite_yes rfl (λz dz h1 h2 ne=>?_)⟩;exact q z _ (rR (C:=c.ne) h1 h2) (.never ae)
  | always e =>
   refine ⟨_,rfl,_,_,_,_,rfl,rfl,SqT.of e,rfl,rfl,_,rfl,ite_no (by decide+kernel) ?_⟩;refine ⟨_,rfl,_,_,_,_,rfl,rfl,SqT.of e,rfl,rfl,_,rfl,ite_yes rfl (λz dz h1 h2 ne=>?_)⟩;exact q z _ (rR (C:=c.al) h1 h2) (.always ae)
  | lp e =>
   refine ⟨_,rfl,_,_,_,_,rfl,rfl,SqT.of e,rfl,rfl,_,rfl,ite_no (by decide+kernel) ?_⟩;refine ⟨_,rfl,_,_,_,_,rfl,rfl,SqT.of e,rfl,rfl,_,rfl,ite_no (by decide+kernel) ?_⟩;refine ⟨_,rfl,_,_,_,_,rfl,rfl,SqT.of e,rfl,szC,λp hp=>⟨p,_,rfl,.inr (SqT.of ae),rfl,rfl,_,rfl,GN pq_p ?_⟩⟩;have s0:=ao hp (.tup [V.str "p",.str "q"]);refine ⟨_,rfl,_,_,_,_,rfl,rfl,SqT.of (s0 _ _ e),rfl,λz dz h1 h2 ne=>⟨z,dz,_,rfl,ae,rfl,?_⟩⟩;exact q z _ (s0.trans (kW (C:=c.le) (fs:=nV (.str "p")) h1 h2 ne)) (.lp ae)
  | lq e =>
   refine ⟨_,rfl,_,_,_,_,rfl,rfl,SqT.of e,rfl,rfl,_,rfl,ite_no (by decide+kernel) ?_⟩;refine ⟨_,rfl,_,_,_,_,rfl,rfl,SqT.of e,rfl,rfl,_,rfl,ite_no (by decide+kernel) ?_⟩;refine ⟨_,rfl,_,_,_,_,rfl,rfl,SqT.of e,rfl,szC,λp hp=>⟨p,_,rfl,.inr (SqT.of ae),rfl,rfl,_,rfl,GN pq_q ?_⟩⟩;have s0:=ao hp (.tup [V.str "p",.str "q"]);refine ⟨_,rfl,_,_,_,_,rfl,rfl,SqT.of (s0 _ _ e),rfl,λz dz h1 h2 ne=>⟨z,dz,_,rfl,ae,rfl,?_⟩⟩;exact q z _ (s0.trans (kW (C:=c.le) (fs:=nV (.str "q")) h1 h2 ne)) (.lq ae)
  | @no _ b x e tb =>
   have hz':x.size+1<=n+1:=hz;refine ⟨_,rfl,_,_,_,_,rfl,rfl,SqT.of e,rfl,rfl,_,rfl,ite_no (by decide+kernel) ?_⟩;refine ⟨_,rfl,_,_,_,_,rfl,rfl,SqT.of e,rfl,rfl,_,rfl,ite_no (by decide+kernel) ?_⟩;refine ⟨_,rfl,_,_,_,_,rfl,rfl,SqT.of e,rfl,szC,λp hp=>⟨p,_,rfl,.inr (SqT.of ae),rfl,rfl,_,rfl,in_no pq_not ?_⟩⟩;have s0:=ao hp (.tup [V.str "p",.str "q"]);refine ⟨_,rfl,_,_,_,_,rfl,rfl,SqT.of (s0 _ _ e),rfl,b,x,rfl,tb.to (Kp.of s0),by omega,λy H2 s2 oy=>?_⟩;have s02:=s0.trans s2;refine ⟨_,rfl,_,_,_,_,rfl,rfl,SqT.of (s02 _ _ e),rfl,rfl,_,rfl,ite_yes rfl ?_⟩;refine ⟨_,rfl,λz dz h1 h2 ne=>⟨z,dz,_,rfl,ae,rfl,?_⟩⟩;have sm:=kW (C:=c.no) (fs:=sU (.ref y)) h1 h2 ne;exact q z _ (s02.trans sm) (.no ae (oy.to (Kp.of sm)))
  | @fold _ b d u x y e tb td =>
   have hz':x.size+y.size+1<=n+1:=hz;refine ⟨_,rfl,_,_,_,_,rfl,rfl,SqT.of e,rfl,rfl,_,rfl,ite_no (w_ne u) ?_⟩;refine ⟨_,rfl,_,_,_,_,rfl,rfl,SqT.of e,rfl,rfl,_,rfl,ite_no (w_al u) ?_⟩;refine ⟨_,rfl,_,_,_,_,rfl,rfl,SqT.of e,rfl,szC,λp hp=>⟨p,_,rfl,.inr (SqT.of ae),rfl,rfl,_,rfl,in_no (pq_w u) ?_⟩⟩;have s0:=ao hp (.tup [V.str "p",.str "q"]);refine ⟨_,rfl,_,_,_,_,rfl,rfl,SqT.of (s0 _ _ e),rfl,b,x,rfl,tb.to (Kp.of s0),by omega,λv1 H2 s2 o1=>?_⟩;have s02:=s0.trans s2;refine ⟨_,rfl,_,_,_,_,rfl,rfl,SqT.of (s02 _ _ e),rfl,rfl,_,rfl,ite_no (w_not u) ?_⟩;refine ⟨_,rfl,_,_,_,_,rfl,rfl,SqT.of (s02 _ _ e),rfl,d,y,rfl,td.to (Kp.of s02),by omega,λv2 H3 s3 o2=>?_⟩;have s03:=s02.trans s3;have o1':=o1.to (Kp.of s3);have e3:=s03 _ _ e;have fin:∀(z dz:Addr),H3 z=none->H3 dz=none->dz≠z->Q (.ref z) (upd (upd (upd H3 dz (.own z)) z (.ins (c.fold u) dz [])) z (.ins (c.fold u) dz (tZ (.ref v1) (.ref v2)))):=λz dz h1 h2 ne=>Dx (Q:=Q) h1 h2 ne o1' o2 λe' H' s' o'=>q e' H' (s03.trans s') o';cases u
   ·refine ⟨_,rfl,_,_,_,_,rfl,rfl,SqT.of e3,rfl,rfl,_,rfl,ite_yes rfl ?_⟩;exact ⟨_,rfl,_,rfl,λz dz h1 h2 ne=>⟨z,dz,_,_,rfl,ae,rfl,fin z dz h1 h2 ne⟩⟩
   ·refine ⟨_,rfl,_,_,_,_,rfl,rfl,SqT.of e3,rfl,rfl,_,rfl,ite_no (by decide+kernel) ?_⟩;refine ⟨_,rfl,_,_,_,_,rfl,rfl,SqT.of e3,rfl,rfl,_,rfl,ite_yes rfl ?_⟩;exact ⟨_,rfl,_,rfl,λz dz h1 h2 ne=>⟨z,dz,_,_,rfl,ae,rfl,fin z dz h1 h2 ne⟩⟩
   ·refine ⟨_,rfl,_,_,_,_,rfl,rfl,SqT.of e3,rfl,rfl,_,rfl,ite_no (by decide+kernel) ?_⟩;refine ⟨_,rfl,_,_,_,_,rfl,rfl,SqT.of e3,rfl,rfl,_,rfl,ite_no (by decide+kernel) ?_⟩;refine ⟨_,rfl,_,_,_,_,rfl,rfl,SqT.of e3,rfl,rfl,_,rfl,ite_yes rfl ?_⟩;exact ⟨_,rfl,_,rfl,λz dz h1 h2 ne=>⟨z,dz,_,_,rfl,ae,rfl,fin z dz h1 h2 ne⟩⟩
   ·refine ⟨_,rfl,_,_,_,_,rfl,rfl,SqT.of e3,rfl,rfl,_,rfl,ite_no (by decide+kernel) ?_⟩;refine ⟨_,rfl,_,_,_,_,rfl,rfl,SqT.of e3,rfl,rfl,_,rfl,ite_no (by decide+kernel) ?_⟩;refine ⟨_,rfl,_,_,_,_,rfl,rfl,SqT.of e3,rfl,rfl,_,rfl,ite_no (by decide+kernel) ?_⟩;refine ⟨_,rfl,_,_,_,_,rfl,rfl,SqT.of e3,rfl,rfl,_,rfl,ite_yes rfl ?_⟩;exact ⟨_,rfl,_,rfl,λz dz h1 h2 ne=>⟨z,dz,_,_,rfl,ae,rfl,fin z dz h1 h2 ne⟩⟩
   ·refine ⟨_,rfl,_,_,_,_,rfl,rfl,SqT.of e3,rfl,rfl,_,rfl,ite_no (by decide+kernel) ?_⟩;refine ⟨_,rfl,_,_,_,_,rfl,rfl,SqT.of e3,rfl,rfl,_,rfl,ite_no (by decide+kernel) ?_⟩;refine ⟨_,rfl,_,_,_,_,rfl,rfl,SqT.of e3,rfl,rfl,_,rfl,ite_no (by decide+kernel) ?_⟩;refine ⟨_,rfl,_,_,_,_,rfl,rfl,SqT.of e3,rfl,rfl,_,rfl,ite_no (by decide+kernel) ?_⟩;exact ⟨_,rfl,_,rfl,λz dz h1 h2 ne=>⟨z,dz,_,_,rfl,ae,rfl,fin z dz h1 h2 ne⟩⟩
theorem nZ {α:Type} (ys:List α) (y:α):atI (ys++[y]) (-1)=some y:=by
 unfold atI ixN;rw [if_neg (by decide),if_pos (by rw [List.length_append];simp;omega)];show (ys++[y])[((-1:Int)+((ys++[y]).length:Nat)).toNat]?=some y;rw [show ((-1:Int)+((ys++[y]).length:Nat)).toNat=ys.length by rw [List.length_append];simp;omega];simp
theorem qK {α:Type} (ys:List α) (y:α):ixN (ys++[y]).length (-1)=some ys.length:=by
 unfold ixN;rw [if_neg (by decide),if_pos (by rw [List.length_append];simp;omega)];exact congrArg some (by rw [List.length_append];simp;omega)
theorem qw {α:Type} (ys:List α) (y z:α):(ys++[y]).set ys.length z=ys++[z]:=by simp
def TuN (H:Hp) (a:Addr) (t:Tr):Prop:=Tu H a t/\t.noq=true
def mM (H:Hp) (v:V) (t:Tr):Prop:=∃ b,v=.ref b/\TuN H b t
theorem TuN.to {H H':Hp} {a:Addr} {t:Tr} (h:TuN H a t) (e:Kp H H'):TuN H' a t:=⟨h.1.to e,h.2⟩
theorem mM.to {H H':Hp} (e:Kp H H') (v:V) (t:Tr) (h:mM H v t):mM H' v t:=by
 obtain ⟨b,rfl,y⟩:=h;exact ⟨b,rfl,y.to e⟩
theorem TuN.no {H:Hp} {a b:Addr} {t:Tr} (h:H a=some (.tup [.str "not",.ref b])) (y:TuN H b t):TuN H a (.no t):=⟨.no h y.1,y.2⟩
theorem TuN.fold {H:Hp} {a b d:Addr} {u:W5} {t x:Tr} (h:H a=some (.tup [.str u.str,.ref b,.ref d])) (y:TuN H b t) (z:TuN H d x):TuN H a (.fold u t x):=⟨.fold h y.1 z.1,by show (t.noq && x.noq)=true;rw [y.2,z.2];rfl⟩
theorem gQ:∀ t:Tr,2*t.steep<=t.size+1
 | .never=>by show 0<=2;omega
 | .always=>by show 0<=2;omega
 | .lp=>by show 2<=2;omega
 | .lq=>by show 2<=2;omega
 | .no t=>by
  have:=gQ t;show 2*t.steep<=t.size+1+1;omega
 | .fold u a b=>by
  have h1:=gQ a;have h2:=gQ b;show 2*u.steep a.steep b.steep<=a.size+b.size+1+1;cases u <;> simp only [W5.steep] <;> omega
structure StI (H H2:Hp) (st:Addr) (vs:List V) (ts:List Tr):Prop where
 sm:aE H H2
 h0:H st=none
 e:H2 st=some (.lst vs)
 al:aZ (mM H2) vs ts
theorem StI.new {H H2 H3:Hp} {st:Addr} {vs:List V} {ts:List Tr} (h:StI H H2 st vs ts) (s:aE H2 H3):StI H H3 st vs ts:=⟨h.sm.trans s,h.h0,s _ _ h.e,h.al.imp (mM.to (Kp.of s))⟩
theorem StI.set {H H2:Hp} {st:Addr} {vs vs':List V} {ts ts':List Tr} (h:StI H H2 st vs ts) (al:aZ (mM H2) vs' ts'):StI H (upd H2 st (.lst vs')) st vs' ts':=⟨bp h.sm h.h0 _,h.h0,ae,al.imp (mM.to (cW h.e rfl))⟩
theorem StI.kp {H H2:Hp} {st:Addr} {vs vs':List V} {ts:List Tr} (h:StI H H2 st vs ts):Kp H2 (upd H2 st (.lst vs')):=cW h.e rfl
theorem gR (ts:List Tr) (x:Tr):bB (ts++[x])=bB ts+x.size:=by rw [oF];simp [bB]
def msz (ts:List Tr):Nat:=bB ts+ts.length
theorem dY (ts:List Tr) (x:Tr):msz (ts++[x])=msz ts+x.size+1:=by unfold msz;rw [gR,List.length_append];simp;omega
theorem msz_le (ts:List Tr):bB ts<=msz ts/\ts.length<=msz ts:=by unfold msz;omega
theorem CI (ts:List Tr):(ts.map λx=>(x.size:Int)).sum=(bB ts:Int):=by
 induction ts with
 | nil=>rfl
 | cons t r ih=>simp only [List.map_cons,List.sum_cons,bB] at ih ⊢;rw [ih];push_cast;rfl
theorem Tu.leaf {H:Hp} {a:Addr} {t:Tr} (h:H a=some (.tup [.str t.word])) (k:t.kids=[]):Tu H a t:=Tu.mk t h (by rw [k];exact .nil)
def wW (K:W.Frag):Sp:=λvs H Q _=>∃(a lv:Addr) (ns:List Int) (at_ many most:Int) (ls:List Tr),vs=[.ref a,.int at_,.int many,.ref lv,.int most]/\Scr K H a ns/\0<=at_/\at_<=40/\1<=many/\many<=8/\most<=12/\H lv=some (.lst (ls.map λt=>.str t.word))/\ls≠[]/\ls.length<=10/\(∀ t∈ls,t.kids=[])/\(∀ t∈ls,t.noq=true)/\
 ∀(r:Addr) (t:Tr) (H':Hp),aE H H'->Tu H' r t->t.noq=true->t.size<=49->Q (.ref r) H'
abbrev En:List Str:=["_law_script","_law_at","_law_many","_law_leaves","_law_most","_law_stack","_law_k","_law_cell_here","_law_leaf","_law_folds","_law_other"]
def szArg (s:Stmt):Expr:=match s with
 | .For _ _ b _ _=>match b.getD 3 (.Pass ⟨0,0,0,0⟩) with
  | .If _ _ [.If _ _ [.If (.BoolOp _ [_,.Compare (.BinOp _ _ (.Call _ [e] _ _) _) _ _ _] _) _ _ _] _] _=>e
  | _=>.Constant .none 0 ⟨0,0,0,0⟩
 | _=>.Constant .none 0 ⟨0,0,0,0⟩
def lastIf (s:Stmt):Stmt:=match s with
 | .For _ _ b _ _=>match b.getD 3 (.Pass ⟨0,0,0,0⟩) with
  | .If _ _ [.If _ _ [.If _ _ [e] _] _] _=>e
  | _=>.Pass ⟨0,0,0,0⟩
 | _=>.Pass ⟨0,0,0,0⟩
theorem aZ.snoc_inv {α β:Type} {R:α->β->Prop} {as:List α} {bs:List β} {a:α} {b:β} (h:aZ R (as++[a]) (bs++[b])):aZ R as bs/\R a b:=by
 obtain ⟨as',a',bs',b',e1,e2,r,k⟩:=h.last (by simp);obtain ⟨x1,x2⟩:=List.append_inj' e1 rfl;obtain ⟨y1,y2⟩:=List.append_inj' e2 rfl;cases x2;cases y2;subst x1;subst y1;exact ⟨k,r⟩
theorem uP {t:Tr}:∀{ts:List Tr},t∈ts->t.size<=bB ts
 | x::r,h=>by
  have e:bB (x::r)=x.size+bB r:=by simp [bB]
  rcases List.mem_cons.mp h with rfl | h
  ·omega
  ·have:=uP h;omega
theorem uD:aA En ["_law_script","_law_at","_law_many","_law_leaves","_law_most"] (ag eW):=L2.fsc rfl
theorem CV (T:au K mg "_law_tree" eW) (aU:mg "len"=none) (cx:mg "range"=none) (vk:mg "sum"=none) (mQ:Def P w K mg base 1 "_law_cell" ["_law_script","_law_k"] (zr K)) (mO:Def P w K mg base 101 "_law_size" ["_law_tree_here"] (Ey 100)):Def P w K mg base 102 "_law_tree" ["_law_script","_law_at","_law_many","_law_leaves","_law_most"] (wW K):=by
 refine aO T uD (λ_ _ _ _ _ _=>L2.ar5 λ_ _ _ _ _=>rfl) ?_ ?_
 ·walk_at "i1";obtain ⟨a,lv,ns,at_,many,most,ls,rfl,_⟩:=h;rfl
 walk_at "i2";obtain ⟨a,lv,ns,at_,many,most,ls,rfl,S,a0,a1,m0,m1,mo,elv,lne,ll,lk,lq,q⟩:=h;have nd:=uD.nd;have lpos:0 < ls.length:=List.length_pos_iff.mpr lne
 have cm:∃ te,PE (cR CX0 P w K mg base En "_law_tree" (ag eW) f cdv A outer s H E).nox (szArg ((bf eW).getD 1 (.Pass ⟨0,0,0,0⟩))) te/\∀(Q':VK) (x0 x1 x2 x3 x4 x6 x7 x8 x9 x10:Option V) (st:Addr) (vs:List V) (ts:List Tr) (H3:Hp),H3 st=some (.lst vs)->aZ (mM H3) vs ts->(∀ t∈ts,t.size<=100)->ts.length<=1000->
   (∀ D H4,aE H3 H4->H4 D=some (.lst (ts.map λt=>.int (t.size:Int)))->Q' (.ref D) H4)->te [x0,x1,x2,x3,x4,some (.ref st),x6,x7,x8,x9,x10] H3 Q':=by
  refine ⟨_,(iT rfl (fg (pv 5)) rfl (by decide+kernel) (by decide+kernel) rfl (show L2.FrN _ (ag eW) by decide+kernel) fL (show (["_law_tree_here"]:List Str).Nodup by decide+kernel) (λ_ _ _ _=>ix) (λ_ _ _ _=>(aD mO (hr.mono (by omega)) rfl (aa (pv 0) af)))),?_⟩;intro Q' x0 x1 x2 x3 x4 x6 x7 x8 x9 x10 st vs ts H3 es al hz hl fin
  refine comp_map (K:=K) (ts:=ts) (R:=mM) (xs:=vs) (λt=>.int (t.size:Int)) (λ_ _ v t e h=>mM.to (Kp.of e) v t h) (λl H'=>l=st/\H'=H3) (λR h=>⟨_,rfl,st,rfl,⟨_,SqL.of es⟩,h st _ ⟨rfl,rfl⟩⟩) (λl H' h=>by obtain ⟨rfl,rfl⟩:=h;exact ⟨es,aE.refl _⟩) (by rw [al.len];exact hl)
   al (λv t H' N ht hv hN=>?_) (λD H4 s4 hD eD=>fin D H4 s4 eD)
  obtain ⟨b,rfl,tb⟩:=hv;exact ⟨_,rfl,b,t,rfl,tb.1,hz t ht,hN⟩
 obtain ⟨tC,htC,hqC⟩:=cm
 have tl:∃ tS,PS (cR CX0 P w K mg base En "_law_tree" (ag eW) f cdv A outer s H E).nox (lastIf ((bf eW).getD 1 (.Pass ⟨0,0,0,0⟩))) tS/\∀(D:Ends) (x0 x1 x2 x3 x4 x6 x10:Option V) (v:Int) (st p fo b:Addr) (vs1:List V) (ts1:List Tr) (x lf:Tr) (H3:Hp),StI H H3 st (vs1++[.ref b]) (ts1++[x])->TuN H3 p lf->H3 fo=some (.lst [V.str "more",.str "less",.str "greater",.str "lesser",.str "leads"])->fo≠st->
   (∀ H4 x10' vs' ts',StI H H4 st vs' ts'->msz ts'<=msz (ts1++[x])+lf.size+1->ts'≠[]->D.nx [x0,x1,x2,x3,x4,some (.ref st),x6,some (.int v),some (.ref p),some (.ref fo),x10'] H4)->tS D [x0,x1,x2,x3,x4,some (.ref st),x6,some (.int v),some (.ref p),some (.ref fo),x10] H3:=by
  refine ⟨_,(aY (aC hU (aB aS rfl aU (by decide+kernel) (aa (pv 5) af)) ak (aH _)) (ai (aJ (i:=10) nd rfl (Or.inl rfl) (mH PySem.F.plainAttrs_list PySem.F.slot_list_pop PySem.F.type_list_pop sE (pv 5)))
  (aj (vI (bE (aa (aF bo (pv 9) (aK gu (aK qF (pv 7) ak) ak) (λ_ _=>rfl)) (aa (aF bo (pv 5) (fi cS ak) (λ_ _=>rfl)) (aa (pv 10) af)))) (vJ (pv 5) (fi cS ak) set_list)))) (aj (vI (bE (aa (aF bo (pv 9) (aK gu (aK qF (pv 7) ak) ak) (λ_ _=>rfl)) (aa (aF bo (pv 5) (fi cS ak) (λ_ _=>rfl)) (aa (pv 8) af)))) (vJ (pv 5) (fi cS ak) set_list)))),?_⟩
  intro D x0 x1 x2 x3 x4 x6 x10 v st p fo b vs1 ts1 x lf H3 I2 tl2 efo nfo fin;obtain ⟨u,hu5⟩:∃ u:W5,atI [V.str "more",.str "less",.str "greater",.str "lesser",.str "leads"] (v / 8 % 5)=some (.str u.str):=word_at _ (Int.emod_nonneg _ (by decide)) (Int.emod_lt_of_pos _ (by decide));obtain ⟨al1,b',eb',tb⟩:=I2.al.snoc_inv;cases eb'
  refine ⟨_,rfl,_,_,rfl,.inl ⟨_,SqL.of I2.e,rfl⟩,_,_,rfl,rfl,_,rfl,?_⟩;refine cQ (λg=>?_) (λg=>?_)
  ·refine ⟨_,rfl,.inl ⟨rfl,_,SqL.of I2.e⟩,st,_,_,rfl,rfl,I2.e,kS _ _,?_⟩;rw [List.dropLast_concat];have I3:StI H (upd H3 st (.lst vs1)) st vs1 ts1:=I2.set al1;have k3:=I2.kp (vs':=vs1);have v1:vs1≠[]:=λz=>by subst z;have:=of_decide_eq_true g;simp at this
   obtain ⟨vs2,y0,ts2,y,rfl,rfl,⟨d,rfl,td⟩,al2⟩:=I3.al.last v1;refine ⟨_,rfl,_,rfl,_,_,rfl,rfl,⟨by decide,by decide⟩,_,_,rfl,rfl,(show (0:Int) < 5 by decide),_,_,_,_,rfl,rfl,SqL.of (by rw [aq nfo];exact efo),hu5,_,rfl,_,rfl,_,_,_,_,rfl,rfl,SqL.of I3.e,nZ _ _,_,rfl,szD,λn1 hn1=>?_⟩;have I4:=I3.new (ao hn1 (.tup [.str u.str,.ref d,.ref b]));have k4:=Kp.of (ao hn1 (.tup [.str u.str,.ref d,.ref b]));refine ⟨_,rfl,_,rfl,st,_,_,_,rfl,rfl,I4.e,qK _ _,?_⟩;rw [qw];refine fin _ _ _ _ (I4.set ((al2.imp (mM.to k4)).app (.cons ⟨n1,rfl,.fold ae (td.to k4) ((tb.to k3).to k4)⟩ .nil))) ?_ (by simp);rw [dY,dY,dY];show msz ts2+(y.size+x.size+1)+1<=_;omega
  ·refine ⟨_,rfl,_,rfl,_,_,rfl,rfl,⟨by decide,by decide⟩,_,_,rfl,rfl,(show (0:Int) < 5 by decide),_,_,_,_,rfl,rfl,SqL.of efo,hu5,_,rfl,_,rfl,_,_,_,_,rfl,rfl,SqL.of I2.e,nZ _ _,_,rfl,szD,λn1 hn1=>?_⟩;have I4:=I2.new (ao hn1 (.tup [.str u.str,.ref b,.ref p]));have k4:=Kp.of (ao hn1 (.tup [.str u.str,.ref b,.ref p]));refine ⟨_,rfl,_,rfl,st,_,_,_,rfl,rfl,I4.e,qK _ _,?_⟩;rw [qw];refine fin _ _ _ _ (I4.set ((al1.imp (mM.to k4)).app (.cons ⟨n1,rfl,.fold ae (tb.to k4) (tl2.to k4)⟩ .nil))) ?_ (by simp);rw [dY,dY];show msz ts1+(x.size+lf.size+1)+1<=_;omega
 obtain ⟨tL,htL,hqL⟩:=tl
 refine ⟨_,(ai (aJ (i:=5) nd rfl (Or.inl rfl) (bF af))
  (ai (cK PassesOwn.never rfl (gL rfl cx (aa (pv 2) af)) (aP (i:=6) nd rfl (Or.inl rfl)) (ai (aJ (i:=7) nd rfl (Or.inl rfl) (aD mQ (hr.mono (by omega)) rfl (aa (pv 0) (aa (aK bJ (pv 1) (pv 6)) af))))
  (ai (aJ (i:=8) nd rfl (Or.inl rfl) (bE (aa (aF bo (pv 3) (aK vL (aK qF (pv 7) ak) (aB aS rfl aU (by decide+kernel) (aa (pv 3) af))) (λ_ _=>rfl)) af)))
  (ai (aJ (i:=9) nd rfl (Or.inl rfl) (bF (aa aL (aa aL (aa aL (aa aL (aa aL af)))))))
  (aj (aY (PW.pt (nG (aC jE (aK gu (pv 7) ak) ak (aH _)) (oP (aC bQ (aB aS rfl aU (by decide+kernel) (aa (pv 5) af)) ak (aH _))))) (aj (bg (eO PySem.F.plainAttrs_list PySem.F.slot_list_append PySem.F.type_list_append bw (pv 5) (aa (pv 8) af)))) (aj (aY (aC bQ (aK gu (pv 7) ak) ak (aH _)) (aj (vI (bE (aa aL (aa (aF bo (pv 5) (fi cS ak) (λ_ _=>rfl)) af))) (vJ (pv 5) (fi cS ak) set_list))) (aj (aY (PW.pt (vF (aC bQ (aK gu (pv 7) ak) ak (aH _)) (qz (aC BF (aK bM ak (aB (vf rfl) rfl vk (by decide+kernel) (aa htC af))) (pv 4) (aH _))))) (aj (bg (eO PySem.F.plainAttrs_list PySem.F.slot_list_append PySem.F.type_list_append bw (pv 5) (aa (aF bo (pv 5) (fi cS ak) (λ_ _=>rfl)) af)))) (aj htL)))))))))))
  (ai (kg PassesOwn.never (aC hU (aB aS rfl aU (by decide+kernel) (aa (pv 5) af)) ak (aH _)) (ai (aJ (i:=10) nd rfl (Or.inl rfl) (mH PySem.F.plainAttrs_list PySem.F.slot_list_pop PySem.F.type_list_pop sE (pv 5)))
  (aj (vI (bE (aa (aF bo (bF (aa aL (aa aL (aa aL af)))) (aK gu (aB aS rfl aU (by decide+kernel) (aa (pv 5) af)) ak) (λ_ _=>rfl)) (aa (aF bo (pv 5) (fi cS ak) (λ_ _=>rfl)) (aa (pv 10) af)))) (vJ (pv 5) (fi cS ak) set_list)))))
  (aj (aw (aF bo (pv 5) ak (λ_ _=>rfl))))))),?_⟩
 refine ⟨szA,λst h0=>?_⟩;refine ⟨_,rfl,_,rfl,by omega,by omega,?_⟩
 refine jb (λi σ H2=>∃(o6 o7 o8 o9 o10:Option V) (vs:List V) (ts:List Tr),σ=[some (.ref a),some (.int at_),some (.int many),some (.ref lv),some (.int most),some (.ref st),o6,o7,o8,o9,o10]/\StI H H2 st vs ts/\msz ts<=19+2*i/\(0 < i->ts≠[]))
  ⟨_,_,_,_,_,[],[],rfl,⟨ao h0 _,h0,ae,.nil⟩,by simp [msz,bB],λh=>absurd h (by omega)⟩ (λi σ H2 hi h=>?_) (λσ H2 h=>?_)
 ·obtain ⟨o6,o7,o8,o9,o10,vs,ts,rfl,I,sz,ne0⟩:=h;have S2:=S.to I.sm;have hvl:=I.al.len;have lts:=iY ts;have mle:=msz_le ts;refine ⟨_,rfl,_,rfl,_,rfl,_,_,rfl,rfl,a,ns,_,rfl,S2,(by omega),(by omega),λv hv=>?_⟩;have hll:((ls.map λt=>V.str t.word).length:Int)=(ls.length:Int):=by rw [List.length_map]
  have z0:(0:Int) < ((ls.map λt=>V.str t.word).length:Nat):=by rw [hll];omega
  have e0:=Int.fmod_nonneg_of_pos (v / 8) z0;have e1:=Int.fmod_lt_of_pos (v / 8) z0
  obtain ⟨lf,hlf,mlf⟩:∃ lf,atI (ls.map λt=>V.str t.word) ((v / 8).fmod ((ls.map λt=>V.str t.word).length:Nat))=some (.str lf.word)/\lf∈ls:=by
   generalize (v / 8).fmod ((ls.map λt=>V.str t.word).length:Nat)=j at e0 e1;have hj:j.toNat < ls.length:=by omega
   exact ⟨ls[j.toNat],at_of e0 (by rw [List.getElem?_map,List.getElem?_eq_getElem hj];rfl),List.getElem_mem hj⟩
  refine ⟨_,rfl,_,rfl,_,_,rfl,rfl,⟨by decide,by decide⟩,_,rfl,_,_,rfl,.inl ⟨_,SqL.of (I.sm _ _ elv),rfl⟩,_,_,rfl,rfl,(by omega),_,_,_,_,rfl,rfl,SqL.of (I.sm _ _ elv),hlf,szB,λp hp=>?_⟩;have I1:=I.new (ao hp (.tup [.str lf.word]));have tl1:TuN (upd H2 p (.tup [.str lf.word])) p lf:=⟨Tu.leaf ae (lk lf mlf),lq lf mlf⟩;have lz:lf.size=1:=by have:=uW lf;rw [lk lf mlf] at this;simpa [bB] using this.symm
  refine ⟨(by show 5<=sizeLine;decide),λfo hfo=>?_⟩;have I2:=I1.new (ao hfo (.lst [V.str "more",.str "less",.str "greater",.str "lesser",.str "leads"]));have tl2:=tl1.to (Kp.of (ao hfo (.lst [V.str "more",.str "less",.str "greater",.str "lesser",.str "leads"])));have efo:upd (upd H2 p (.tup [.str lf.word])) fo (.lst [V.str "more",.str "less",.str "greater",.str "lesser",.str "leads"]) fo=some (.lst [V.str "more",.str "less",.str "greater",.str "lesser",.str "leads"]):=ae;have nfo:fo≠st:=λz=>by subst z;rw [I1.e] at hfo;cases hfo
  generalize upd (upd H2 p (.tup [.str lf.word])) fo (.lst [V.str "more",.str "less",.str "greater",.str "lesser",.str "leads"])=H3 at I2 tl2 efo ⊢
  have done:∀(H4:Hp) (o10:Option V) (vs':List V) (ts':List Tr),StI H H4 st vs' ts'->msz ts'<=19+2*(i+1)->ts'≠[]->∃(o6 o7 o8 o9 o10':Option V) (vs:List V) (ts:List Tr),[some (V.ref a),some (.int at_),some (.int many),some (.ref lv),some (.int most),some (.ref st),some (.int (0+(i:Int))),some (.int v),some (.ref p),some (.ref fo),o10]=[some (V.ref a),some (.int at_),some (.int many),some (.ref lv),some (.int most),some (.ref st),o6,o7,o8,o9,o10']/\StI H H4 st vs ts/\msz ts<=19+2*(i+1)/\(0 < i+1->ts≠[]):=
   λH4 o10 vs' ts' I4 z4 n4=>⟨_,_,_,_,_,vs',ts',rfl,I4,z4,λ_=>n4⟩
  have push:(ps:msz ts<=19+2*i)->vs.length < sizeLine:=λ_=>by rw [hvl];exact Nat.lt_of_le_of_lt (show ts.length<=1000 by omega) (by decide)
  refine ⟨_,rfl,_,_,rfl,rfl,(show (0:Int) < 8 by decide),_,_,rfl,rfl,_,rfl,?_⟩;refine cQ (λg1=>fm ?_) (λg1=>?_)
  ·refine ⟨_,rfl,.inl ⟨rfl,_,SqL.of I2.e⟩,_,rfl,st,_,_,rfl,rfl,I2.e,push sz,?_⟩;exact done _ _ _ _ (I2.set (I2.al.app (.cons ⟨p,rfl,tl2⟩ .nil))) (by rw [dY,lz];omega) (by simp)
  refine ⟨_,rfl,_,_,rfl,.inl ⟨_,SqL.of I2.e,rfl⟩,rfl,_,rfl,?_⟩;refine cQ (λg2=>?_) (λg2=>?_)
  ·refine ⟨_,rfl,.inl ⟨rfl,_,SqL.of I2.e⟩,_,rfl,st,_,_,rfl,rfl,I2.e,push sz,?_⟩;exact done _ _ _ _ (I2.set (I2.al.app (.cons ⟨p,rfl,tl2⟩ .nil))) (by rw [dY,lz];omega) (by simp)
  have vne:vs≠[]:=λz=>by subst z;exact g2 (decide_eq_true rfl)
  obtain ⟨vs1,x0,ts1,x,rfl,rfl,⟨b,rfl,tb⟩,al1⟩:=I2.al.last vne;have szx:=gR ts1 x;have mzx:=dY ts1 x;refine ⟨_,rfl,_,_,rfl,rfl,(show (0:Int) < 8 by decide),rfl,_,rfl,?_⟩;refine cQ (λg3=>?_) (λg3=>?_)
  ·refine ⟨_,rfl,_,rfl,_,_,_,_,rfl,rfl,SqL.of I2.e,nZ _ _,szC,λn1 hn1=>?_⟩;have I3:=I2.new (ao hn1 (.tup [.str "not",.ref b]));have k3:=Kp.of (ao hn1 (.tup [.str "not",.ref b]));refine ⟨_,rfl,_,rfl,st,_,_,_,rfl,rfl,I3.e,qK _ _,?_⟩;rw [qw];exact done _ _ _ _ (I3.set ((al1.imp (mM.to k3)).app (.cons ⟨n1,rfl,.no ae (tb.to k3)⟩ .nil))) (by rw [dY];show msz ts1+(x.size+1)+1<=_;omega) (by simp)
  have lx:(ts1++[x]).length<=1000:=by omega
  have hsz:∀ t∈ts1++[x],t.size<=100:=λt ht=>by
   have:t.size<=bB (ts1++[x]):=uP ht;omega
  refine ⟨_,rfl,_,_,rfl,rfl,(show (0:Int) < 8 by decide),rfl,_,rfl,?_⟩;refine cQ (λg4=>?_) (λg4=>cX ?_)
  ·refine hqC _ _ _ _ _ _ _ _ _ _ _ st _ _ H3 I2.e I2.al hsz lx λD H4 s4 eD=>?_;refine ⟨D,(ts1++[x]).map λt=>(t.size:Int),rfl,SqL.of (by rw [List.map_map];exact eD),_,_,rfl,rfl,Gp (by decide+kernel),_,rfl,_,_,rfl,rfl,_,rfl,?_⟩;have I4:=I2.new s4;have k4:=Kp.of s4;refine cQ (λg5=>?_) (λg5=>?_)
   ·refine ⟨_,rfl,.inl ⟨rfl,_,SqL.of I4.e⟩,_,rfl,_,rfl,_,_,_,_,rfl,rfl,SqL.of I4.e,nZ _ _,st,_,_,rfl,rfl,I4.e,push sz,?_⟩;have g5':2*((ts1++[x]).map λt=>(t.size:Int)).sum<=most:=of_decide_eq_true g5;rw [CI] at g5';refine done _ _ _ _ (I4.set (I4.al.app (.cons ⟨b,rfl,tb.to k4⟩ .nil))) ?_ (by simp);have lsx:=iY (ts1++[x]);rw [dY];unfold msz at *;omega
   ·refine hqL _ _ _ _ _ _ _ _ v st p fo b vs1 ts1 x lf H4 I4 (tl2.to k4) (s4 _ _ efo) nfo λH5 x10' vs' ts' I5 z5 n5=>?_;exact done _ _ _ _ I5 (by omega) n5
  ·refine hqL _ _ _ _ _ _ _ _ v st p fo b vs1 ts1 x lf H3 I2 tl2 efo nfo λH5 x10' vs' ts' I5 z5 n5=>?_;exact done _ _ _ _ I5 (by omega) n5
 ·obtain ⟨o6,o7,o8,o9,o10,vs,ts,rfl,I,sz,ne0⟩:=h;have tne:=ne0 (by omega);refine ⟨λm σ H2=>∃(o6 o7 o8 o9 o10:Option V) (vs:List V) (ts:List Tr),σ=[some (.ref a),some (.int at_),some (.int many),some (.ref lv),some (.int most),some (.ref st),o6,o7,o8,o9,o10]/\StI H H2 st vs ts/\ts≠[]/\bB ts+ts.length<=35/\m=ts.length,⟨_,_,_,_,_,_,vs,ts,rfl,I,tne,?_,rfl⟩,?_⟩
  ·unfold msz at sz;omega
  rintro m σ H3 ⟨o6,o7,o8,o9,o10,vs,ts,rfl,I3,tne,z3,rfl⟩
  have hvl:=I3.al.len;have lz:=iY ts;have vne:vs≠[]:=λz=>by subst z;cases ts with | nil=>exact tne rfl | cons _ _=>simp at hvl
  refine ⟨_,rfl,_,_,rfl,.inl ⟨_,SqL.of I3.e,rfl⟩,_,_,rfl,rfl,_,rfl,?_⟩;refine cQ (λg=>?_) (λg=>?_)
  ·refine ⟨λσ' H''=>∃ m',m' < ts.length/\∃(o6 o7 o8 o9 o10:Option V) (vs:List V) (ts:List Tr),σ'=[some (.ref a),some (.int at_),some (.int many),some (.ref lv),some (.int most),some (.ref st),o6,o7,o8,o9,o10]/\StI H H'' st vs ts/\ts≠[]/\bB ts+ts.length<=35/\m'=ts.length,λ_ _ z=>z,?_⟩;obtain ⟨vs1,x0,ts1,x,rfl,rfl,⟨b,rfl,tb⟩,al1⟩:=I3.al.last vne;refine ⟨_,rfl,.inl ⟨rfl,_,SqL.of I3.e⟩,st,_,_,rfl,rfl,I3.e,kS _ _,?_⟩;rw [List.dropLast_concat];have I4:StI H (upd H3 st (.lst vs1)) st vs1 ts1:=I3.set al1;have k4:=I3.kp (vs':=vs1);have v1:vs1≠[]:=λz=>by subst z;have:=of_decide_eq_true g;simp at this
   obtain ⟨vs2,y0,ts2,y,rfl,rfl,⟨d,rfl,td⟩,al2⟩:=I4.al.last v1;refine ⟨szD,λl3 hl3=>?_⟩;have I5:=I4.new (ao hl3 (.lst [V.str "leads",.str "more",.str "less"]));have k5:=Kp.of (ao hl3 (.lst [V.str "leads",.str "more",.str "less"]))
   have wd:∃ u:W5,atI [V.str "leads",.str "more",.str "less"] (((vs2++[V.ref d]).length:Nat) % 3:Int)=some (.str u.str):=by
    have h1:=Int.emod_nonneg ((vs2++[V.ref d]).length:Int) (show (3:Int)≠0 by decide);have h2:=Int.emod_lt_of_pos ((vs2++[V.ref d]).length:Int) (show (0:Int) < 3 by decide);generalize ((vs2++[V.ref d]).length:Int) % 3=j at h1 h2;have:j=0\/j=1\/j=2:=by omega
    rcases this with rfl | rfl | rfl
    ·exact ⟨.leads,rfl⟩
    ·exact ⟨.more,rfl⟩
    ·exact ⟨.less,rfl⟩
   obtain ⟨u,hu5⟩:=wd;refine ⟨_,rfl,_,_,rfl,.inl ⟨_,SqL.of I5.e,rfl⟩,_,_,rfl,rfl,(show (0:Int) < 3 by decide),_,_,_,_,rfl,rfl,SqL.of ae,hu5,_,rfl,_,rfl,_,_,_,_,rfl,rfl,SqL.of I5.e,nZ _ _,_,rfl,szD,λn1 hn1=>?_⟩;have I6:=I5.new (ao hn1 (.tup [.str u.str,.ref d,.ref b]));have k6:=Kp.of (ao hn1 (.tup [.str u.str,.ref d,.ref b]));refine ⟨_,rfl,_,rfl,st,_,_,_,rfl,rfl,I6.e,qK _ _,?_⟩;rw [qw];have s1:=gR (ts2++[y]) x;have s2:=gR ts2 y;have s3:bB (ts2++[Tr.fold u y x])=bB ts2+(y.size+x.size+1):=gR _ _;refine ⟨(ts2++[Tr.fold u y x]).length,by simp,_,_,_,_,_,_,_,rfl,I6.set (((al2.imp (mM.to k5)).imp (mM.to k6)).app (.cons ⟨n1,rfl,.fold ae ((td.to k5).to k6) (((tb.to k4).to k5).to k6)⟩ .nil)),by simp,?_,rfl⟩;rw [List.length_append] at z3 ⊢;simp only [List.length_append,List.length_cons,List.length_nil] at z3 ⊢;omega
  ·have hl1:¬ (1:Int) < (vs.length:Int):=λz=>g (decide_eq_true z);cases hal:I3.al with
   | nil=>exact absurd rfl vne
   | @cons v0 t0 vr tr r k =>
    cases k with
    | cons _ _=>simp at hl1;omega
    | nil =>
     obtain ⟨b,rfl,tb⟩:=r;have s0:bB [t0]=t0.size:=by simp [bB]
     refine ⟨_,rfl,_,_,_,_,rfl,rfl,SqL.of I3.e,rfl,q b t0 H3 I3.sm tb.1 tb.2 ?_⟩;simp only [List.length_cons,List.length_nil] at z3;omega
def EA (m:Nat):Sp:=λvs H Q _=>∃(a:Addr) (t:Tr) (n x:Int),vs=[.ref a,.int n,.int x]/\Tu H a t/\t.noq=true/\t.size<=m/\∀ H',aE H H'->Q (.int (t.worth n x 0)) H'
def jc (n x:Int):List (Key×V):=[(.inr "never",.int 0),(.inr "always",.int n),(.inr "p",.int x)]
theorem pf (n x:Int) (j:Str):cE (bX [] (jc n x)) (Sum.inr j)=if (Sum.inr j:Key)=Sum.inr ("p":Str) then some (.int x) else if (Sum.inr j:Key)=Sum.inr ("always":Str) then some (.int n) else if (Sum.inr j:Key)=Sum.inr ("never":Str) then some (.int 0) else none:=by
 show cE (putK (putK (putK [] (Sum.inr ("never":Str):Key) (.int 0)) (Sum.inr ("always":Str)) (.int n)) (Sum.inr ("p":Str)) (.int x)) (Sum.inr j)=_;rw [eS,eS,eS];rfl
theorem ok_sayW (T:au K mg "_law_saying_worth" dJ) (aU:mg "len"=none) (mP:Def P w K mg base 1 "_law_fold" ["_law_word","_law_one","_law_other","_law_n"] rm):∀ m:Nat,Def P w K mg base (m+2) "_law_saying_worth" ["_law_tree_here","_law_n","_law_x"] (EA m):=by
 intro m
 induction m with
 | zero =>
  refine aO T eU (λ_ _ _ _ _ _=>L2.ar3 λ_ _ _=>rfl) ?_ ?_
  ·walk_at "i1";obtain ⟨a,t,n,x,rfl,_⟩:=h;rfl
  ·walk_at "i2";obtain ⟨a,t,n,x,rfl,_,_,z,_⟩:=h;have:=t.size_pos;omega
 | succ k cI =>
  refine aO T eU (λ_ _ _ _ _ _=>L2.ar3 λ_ _ _=>rfl) ?_ ?_
  ·walk_at "i1";obtain ⟨a,t,n,x,rfl,_⟩:=h;rfl
  walk_at "i2";obtain ⟨a,t,n,x,rfl,tu,nq,hz,q⟩:=h;have nd:=eU.nd;have hr':dF (k+2) (A.deeper (PyProof.Rows.envOfC "_law_saying_worth" (ag dJ) s.heap.objs.size f cdv)):=hr;refine ⟨_,(ai (aY (aC bQ (aB aS rfl aU (by decide+kernel) (aa (pv 0) af)) ak (aH _)) (aj (aw (qE (yy hr) (BB (hI aL ak (hI aL (pv 1) (hI aL (pv 2) Bz))) rfl rfl (by intro z;cases z) (by decide)) (aF aG (pv 0) ak (λ_ _=>rfl)) (λ_ _=>rfl)))) aI)
  (ai (aJ (i:=3) nd rfl (Or.inl rfl) (aD cI (hr.mono (by omega)) rfl (aa (aF aG (pv 0) ak (λ_ _=>rfl)) (aa (pv 1) (aa (pv 2) af)))))
  (ai (aY (aC bQ (aF aG (pv 0) ak (λ_ _=>rfl)) aL (aH _)) (aj (aw (aK du (pv 1) (pv 3)))) aI)
  (aj (aw (aD mP (hr.mono (by omega)) rfl (aa (aF aG (pv 0) ak (λ_ _=>rfl)) (aa (pv 3) (aa (aD cI (hr.mono (by omega)) rfl (aa (aF aG (pv 0) ak (λ_ _=>rfl)) (aa (pv 1) (aa (pv 2) af)))) (aa (pv 1) af)))))))))),?_⟩
  cases tu with
  | never e =>
   refine ⟨_,rfl,_,_,rfl,.inr ⟨_,SqT.of e,rfl⟩,rfl,_,rfl,ja rfl λdp hdp=>?_⟩;have se:aE H (upd (upd H dp (.dK [])) dp (.dK (bX [] (jc n x)))):=bp (ao hdp (.dK [])) hdp _;have hv:cE (bX [] (jc n x)) (.inr ("never":Str))=some (.int 0):=by rw [pf,if_neg (by decide+kernel),if_neg (by decide+kernel),if_pos rfl]
   exact ⟨_,rfl,_,rfl,ae,jc n x,rfl,(by show 3<=15;decide),_,rfl,_,_,_,_,rfl,rfl,SqT.of (se _ _ e),at0,dp,_,rfl,(by have z:=jh.k (H:=upd (upd H dp (.dK [])) dp (.dK (bX [] (jc n x)))) (k:=.inr ("never":Str)) ae;rw [hv] at z;exact z),q _ se⟩
  | always e =>
   refine ⟨_,rfl,_,_,rfl,.inr ⟨_,SqT.of e,rfl⟩,rfl,_,rfl,ja rfl λdp hdp=>?_⟩;have se:aE H (upd (upd H dp (.dK [])) dp (.dK (bX [] (jc n x)))):=bp (ao hdp (.dK [])) hdp _;have hv:cE (bX [] (jc n x)) (.inr ("always":Str))=some (.int n):=by rw [pf,if_neg (by decide+kernel),if_pos rfl]
   exact ⟨_,rfl,_,rfl,ae,jc n x,rfl,(by show 3<=15;decide),_,rfl,_,_,_,_,rfl,rfl,SqT.of (se _ _ e),at0,dp,_,rfl,(by have z:=jh.k (H:=upd (upd H dp (.dK [])) dp (.dK (bX [] (jc n x)))) (k:=.inr ("always":Str)) ae;rw [hv] at z;exact z),q _ se⟩
  | lp e =>
   refine ⟨_,rfl,_,_,rfl,.inr ⟨_,SqT.of e,rfl⟩,rfl,_,rfl,ja rfl λdp hdp=>?_⟩;have se:aE H (upd (upd H dp (.dK [])) dp (.dK (bX [] (jc n x)))):=bp (ao hdp (.dK [])) hdp _;have hv:cE (bX [] (jc n x)) (.inr ("p":Str))=some (.int x):=by rw [pf,if_pos rfl]
   exact ⟨_,rfl,_,rfl,ae,jc n x,rfl,(by show 3<=15;decide),_,rfl,_,_,_,_,rfl,rfl,SqT.of (se _ _ e),at0,dp,_,rfl,(by have z:=jh.k (H:=upd (upd H dp (.dK [])) dp (.dK (bX [] (jc n x)))) (k:=.inr ("p":Str)) ae;rw [hv] at z;exact z),q _ se⟩
  | lq e=>cases nq
  | @no _ b y e tb =>
   have hz':y.size+1<=k+1:=hz;refine ⟨_,rfl,_,_,rfl,.inr ⟨_,SqT.of e,rfl⟩,rfl,_,rfl,pW (λz=>by have:=V.int.inj z;simp at this) ?_⟩;refine ⟨_,rfl,_,_,_,_,rfl,rfl,SqT.of e,cZ (j:=1) rfl,_,rfl,_,rfl,b,y,n,x,rfl,tb,nq,by omega,λH1 s1=>?_⟩;exact ⟨_,rfl,_,_,_,_,rfl,rfl,SqT.of (s1 _ _ e),at0,rfl,_,rfl,ite_yes rfl ⟨_,rfl,_,rfl,_,_,rfl,rfl,q _ s1⟩⟩
  | @fold _ b d u y z e tb td =>
   have hz':y.size+z.size+1<=k+1:=hz;have nq':(y.noq && z.noq)=true:=nq;rw [Bool.and_eq_true] at nq';refine ⟨_,rfl,_,_,rfl,.inr ⟨_,SqT.of e,rfl⟩,rfl,_,rfl,pW (λz=>by have:=V.int.inj z;simp at this) ?_⟩;refine ⟨_,rfl,_,_,_,_,rfl,rfl,SqT.of e,cZ (j:=1) rfl,_,rfl,_,rfl,b,y,n,x,rfl,tb,nq'.1,by omega,λH1 s1=>?_⟩;refine ⟨_,rfl,_,_,_,_,rfl,rfl,SqT.of (s1 _ _ e),at0,rfl,_,rfl,ite_no (by cases u <;> decide+kernel) ?_⟩;refine ⟨_,rfl,_,_,_,_,rfl,rfl,SqT.of (s1 _ _ e),at0,_,rfl,_,rfl,_,_,_,_,rfl,rfl,SqT.of (s1 _ _ e),cZ (j:=2) rfl,_,rfl,_,rfl,d,z,n,x,rfl,td.to (Kp.of s1),nq'.2,by omega,λH2 s2=>?_⟩;exact ⟨_,rfl,u,n,y.worth n x 0,z.worth n x 0,rfl,q _ (s1.trans s2)⟩
structure Ms (P:Program) (w:World) (K:W.Frag) (mg:Str->Option Value) (base:Heap) (c:CCs):Prop where
 made:∀ t,bx P w K mg base (c.of t) "made_of" 1 ["self"] (vw c t)
 word:∀ t,bx P w K mg base (c.of t) "making_word" 1 ["self"] (eT c t)
 pieces:∀ t,bx P w K mg base (c.of t) "pieces" 2 ["self"] (mY c t)
theorem Bt:aA ["self","laid","waiting","part"] ["self"] (ag sLaid):=L2.fsc rfl
theorem ok_laid {C:Addr} {t:Tr} (T:bh K C "laid_out" "Saying.laid_out" sLaid) (M:Ms P w K mg base c):bx P w K mg base C "laid_out" 2 ["self"] (zp c t):=by
 refine bN T Bt (λ_ _ _ _ _ _=>L2.ar1 λ_=>rfl) ?_ ?_
 ·walk_at "i1";obtain ⟨a,rfl,_⟩:=h;rfl
 walk_at "i2";obtain ⟨a,rfl,oa,ht,q⟩:=h;have nd:=Bt.nd
 refine ⟨_,(ai (aJ (i:=1) nd rfl (Or.inl rfl) (bF af))
  (ai (aJ (i:=2) nd rfl (Or.inl rfl) (bF (aa (pv 0) af)))
  (ai (kg PassesOwn.never (Fl (pv 2) (λ_=>rfl)) (ai (aJ (i:=3) nd rfl (Or.inl rfl) (mH PySem.F.plainAttrs_list PySem.F.slot_list_pop PySem.F.type_list_pop sE (pv 2)))
  (ai (bg (eO PySem.F.plainAttrs_list PySem.F.slot_list_append PySem.F.type_list_append bw (pv 1) (aa (pv 3) af)))
  (aj (bg (eO PySem.F.plainAttrs_list PySem.F.slot_list_extend PySem.F.type_list_extend oV (pv 2) (aa (gM (k:=1) (pv 3) (hr.mono (by decide))) af)))))))
  (ai (bg (mH PySem.F.plainAttrs_list PySem.F.slot_list_reverse PySem.F.type_list_reverse sD (pv 1)))
  (aj (aw (pv 1))))))),?_⟩
 refine ⟨szA,λl1 h1=>?_⟩;refine ⟨_,rfl,szB,λl2 h2'=>?_⟩;have h2:H l2=none:=jK h2';have n12:l1≠l2:=λe=>by subst e;rw [ae] at h2';cases h2'
 have smI:aE H (upd (upd H l1 (.lst [])) l2 (.lst [.ref a])):=λb o e=>by rw [aq (ax e h2),aq (ax e h1)];exact e
 refine ⟨λm σ H'=>∃(L W:List V) (Lt Wt:List Tr) (o:Option V),σ=[some (.ref a),some (.ref l1),some (.ref l2),o]/\aE H H'/\H' l1=some (.lst L)/\H' l2=some (.lst W)/\aZ (ObV c H') L Lt/\aZ (ObV c H') W Wt/\
   Lt++(Wt.reverse.flatMap λx=>x.post.reverse)=t.post.reverse/\m=bB Wt,
  ⟨_,[],[.ref a],[],[t],_,rfl,smI,by rw [aq n12,ae],ae,.nil,.cons ⟨a,rfl,oa.to (Kp.of smI)⟩ .nil,by simp,rfl⟩,?_⟩
 rintro m σ H' ⟨L,W,Lt,Wt,o,rfl,sm,e1,e2,oL,oW,hp,rfl⟩
 have hlen:Lt.length+bB Wt=t.size:=by
  have z:=congrArg List.length hp;rw [List.length_append,yC,CJ,List.length_reverse,hJ] at z;exact z
 have hLl:=oL.len
 by_cases hw:W=[]
 ·subst hw;cases oW
  refine ⟨_,rfl,false,.inl ⟨[],SqL.of e2,rfl⟩,cX ?_⟩;refine ⟨_,rfl,.inl ⟨rfl,_,SqL.of e1⟩,l1,_,rfl,rfl,e1,?_⟩;have eL:Lt=t.post.reverse:=by simpa using hp
  have kp:=cW (u:=.lst L.reverse) e1 rfl;refine ⟨_,rfl,q l1 L.reverse _ (λb o z=>?_) h1 ae ?_⟩
  ·rw [aq (ax z h1)];exact sm b o z
  ·have:=(oL.imp (ObV.to kp)).rev;rw [eL,List.reverse_reverse] at this;exact this
 ·obtain ⟨W',v,Wt',x,rfl,rfl,⟨b,rfl,ob⟩,oW'⟩:=oW.last hw;refine ⟨_,rfl,true,.inl ⟨_,SqL.of e2,by cases W' <;> rfl⟩,fm ?_⟩;have sz:bB (Wt'++[x])=bB Wt'+x.size:=by rw [oF];simp [bB]
  refine ⟨λσ' H''=>∃ m',m' < bB (Wt'++[x])/\∃(L W:List V) (Lt Wt:List Tr) (o:Option V),σ'=[some (.ref a),some (.ref l1),some (.ref l2),o]/\aE H H''/\H'' l1=some (.lst L)/\H'' l2=some (.lst W)/\aZ (ObV c H'') L Lt/\aZ (ObV c H'') W Wt/\
   Lt++(Wt.reverse.flatMap λx=>x.post.reverse)=t.post.reverse/\m'=bB Wt,λ_ _ z=>z,?_⟩
  refine ⟨_,rfl,.inl ⟨rfl,_,SqL.of e2⟩,l2,_,_,rfl,rfl,e2,kS _ _,?_⟩;rw [List.dropLast_concat];have e1':upd H' l2 (.lst W') l1=some (.lst L):=by rw [aq n12];exact e1
  refine ⟨_,rfl,.inl ⟨rfl,_,SqL.of e1'⟩,_,rfl,l1,_,_,rfl,rfl,e1',by rw [hLl];exact Nat.lt_of_le_of_lt (show Lt.length<=1000 by omega) (by decide),?_⟩;have k1:Kp H' (upd (upd H' l2 (.lst W')) l1 (.lst (L++[.ref b]))):=(cW e2 rfl).trans (cW e1' rfl);have e2':upd (upd H' l2 (.lst W')) l1 (.lst (L++[.ref b])) l2=some (.lst W'):=by rw [aq n12.symm,ae]
  have ob1:=ob.to k1;obtain ⟨dx,fs,eb,nf⟩:=ob1.cls;refine ⟨_,rfl,.inl ⟨rfl,_,SqL.of e2'⟩,_,rfl,b,_,_,_,_,_,rfl,eb,nf _ (by decide+kernel),M.made x,b,rfl,ob1,λl us hl ou=>?_⟩;have nl2:l2≠l:=ax e2' hl;have nl1:l1≠l:=ax (ae (H:=upd H' l2 (.lst W'))) hl;have e2'':upd (upd (upd H' l2 (.lst W')) l1 (.lst (L++[.ref b]))) l (.lst us) l2=some (.lst W'):=by rw [aq nl2];exact e2'
  have hWl:=oW'.len;have hul:=ou.len;have hkl:=nP x;have hWs:=iY Wt';refine ⟨l2,l,_,_,rfl,rfl,e2'',ae,by rw [hWl,hul];exact Nat.le_trans (show _<=1002 by omega) (by decide),?_⟩;have k2:Kp (upd (upd H' l2 (.lst W')) l1 (.lst (L++[.ref b]))) (upd (upd (upd (upd H' l2 (.lst W')) l1 (.lst (L++[.ref b]))) l (.lst us)) l2 (.lst (W'++us))):=(kp_new hl _).trans (cW e2'' rfl);have k3:=k1.trans k2;have ks:=uW x;refine ⟨bB (Wt'++x.kids),by rw [sz,oF];omega,L++[.ref b],W'++us,Lt++[x],Wt'++x.kids,_,rfl,λd o z=>?_,by rw [aq n12,aq nl1,ae],ae,(oL.imp (ObV.to k3)).app (.cons ⟨b,rfl,ob.to k3⟩ .nil),(oW'.imp (ObV.to k3)).app (ou.imp (ObV.to k2)),?_,rfl⟩
  ·have z1:upd (upd H' l2 (.lst W')) l1 (.lst (L++[.ref b])) d=some o:=by rw [aq (ax z h1),aq (ax z h2)];exact sm d o z
   rw [aq (ax z h2),aq (ax z1 hl)];exact z1
  ·rw [<- hp];simp only [List.reverse_append,List.flatMap_append,List.reverse_cons,List.reverse_nil,List.nil_append,List.append_assoc,List.flatMap_cons,List.flatMap_nil,List.append_nil,List.singleton_append,Fo x,List.cons_append]
abbrev roN:List Str:=["saying","rows","place_of","waiting","part","taken","row"]
abbrev roAt (i j:Nat):Stmt:=match (bf fB).getD i (.Pass ⟨0,0,0,0⟩) with
 | .For _ _ b _ _=>b.getD j (.Pass ⟨0,0,0,0⟩)
 | _=>.Pass ⟨0,0,0,0⟩
theorem Eo {α:Type}:∀{R:List α} {k:Nat},k < R.length->∃ x R1,R.drop k=x::R1/\R.take (k+1)=R.take k++[x]/\R.drop (k+1)=R1:=by
 intro R k h;refine ⟨R[k],R.drop (k+1),List.drop_eq_getElem_cons h,?_,rfl⟩;rw [List.take_add_one,List.getElem?_eq_getElem h];rfl
theorem uE:aA roN ["saying"] (ag fB):=L2.fsc rfl
theorem CZ (T:au K mg "rows_of" fB) (aU:mg "len"=none) (bO:mg "tuple"=none) (M:Ms P w K mg base c) (G:∀ t,bx P w K mg base (c.of t) "laid_out" 2 ["self"] (zp c t)):Def P w K mg base 3 "rows_of" ["saying"] (wY c):=by
 refine aO T uE (λ_ _ _ _ _ _=>L2.ar1 λ_=>rfl) ?_ ?_
 ·walk_at "i1";obtain ⟨a,t,rfl,_⟩:=h;rfl
 walk_at "i2";obtain ⟨a,t,rfl,oa,ht,q⟩:=h;have nd:=uE.nd;have hu:=yy hr
 have stT:∃ ts,PS (cR CX0 P w K mg base roN "rows_of" (ag fB) f cdv A outer s H E).nox (roAt 3 0) ts/\∀(D:Ends) (o5 o6:Option V) (l1 d1 l3 b:Addr) (x:Tr) (R:List Nat) (H1:Hp),Ob c H1 b x->H1 l3=some (.lst (R.reverse.map λi:Nat=>V.int (i:Int)))->x.kids.length<=R.length->
   (∀ l4 H2,l4≠l3->H1 l4=none->(∀ d o,H1 d=some o->d≠l3->H2 d=some o)->H2 l3=some (.lst ((R.drop x.kids.length).reverse.map λi:Nat=>V.int (i:Int)))->H2 l4=some (.lst ((R.take x.kids.length).map λi:Nat=>V.int (i:Int)))->
    D.nx [some (.ref a),some (.ref l1),some (.ref d1),some (.ref l3),some (.ref b),some (.ref l4),o6] H2)->
   ts D [some (.ref a),some (.ref l1),some (.ref d1),some (.ref l3),some (.ref b),o5,o6] H1:=by
  refine ⟨_,(vG (i:=5) nd rfl (Or.inl rfl) (Or.inl rfl) rfl rfl (fg (gM (k:=1) (pv 4) (hr.mono (by decide)))) rfl (by decide+kernel) (by decide+kernel) rfl (show L2.FrN _ (ag fB) by decide+kernel) (fW (j:=3) rfl (Or.inl rfl) (by decide+kernel) (Or.inl rfl) fL) (show (["piece","waiting"]:List Str).Nodup by decide+kernel) (λ_ _ _ _=>ix) (λ_ _ _ _=>(pe_bm0K (K:=K) rfl PySem.F.plainAttrs_list PySem.F.slot_list_pop PySem.F.type_list_pop sE (pv 1)))),?_⟩;intro D o5 o6 l1 d1 l3 b x R H1 ob e3 hk fin;obtain ⟨dx,fs,eb,nf⟩:=ob.cls;unfold wO;refine fM ?_;refine ⟨_,rfl,b,_,_,_,_,_,rfl,eb,nf _ (by decide+kernel),M.made x,b,rfl,ob,λl us hl ou=>⟨l,rfl,⟨_,SqL.of ae⟩,?_⟩⟩;have hul:=ou.len;have nl:l≠l3:=(ax e3 hl).symm
  refine pz (K:=K) (xs:=us) (λl' H'=>l'=l/\H'=upd H1 l (.lst us)) (λR' h=>h l _ ⟨rfl,rfl⟩) (λl' H' h=>by obtain ⟨rfl,rfl⟩:=h;exact ae) (by rw [hul];have:=nP x;omega)
   (λl' D' i ys H'=>l'=l/\H1 D'=none/\D'≠l3/\ys=((R.take i).map λi:Nat=>V.int (i:Int))/\H' l3=some (.lst ((R.drop i).reverse.map λi:Nat=>V.int (i:Int)))/\∀ d o,H1 d=some o->d≠l3->H' d=some o)
   (λl' H' D' h hD=>?_) (λl' D' i v ys H' hv nl' el eD h N hN=>?_) (λl' D' ys H' el eD h=>?_)
  ·obtain ⟨rfl,rfl⟩:=h;have hD':=jK hD;refine ⟨rfl,hD',(ax e3 hD').symm,rfl,?_,λd o z _=>?_⟩
   ·rw [aq (ax e3 hD'),aq nl.symm];exact e3
   ·rw [aq (ax z hD'),aq (ax z hl)];exact z
  ·obtain ⟨rfl,hD',nD,rfl,e3',sm⟩:=h
   have hi:i < R.length:=by
    have:=(List.getElem?_eq_some_iff.mp hv).1;omega
   obtain ⟨y,R1,d1',d2',d3'⟩:=Eo hi;rw [d1',List.reverse_cons,List.map_append] at e3';refine ⟨_,rfl,.inl ⟨rfl,_,SqL.of e3'⟩,l3,_,_,rfl,rfl,e3',kS _ _,?_⟩;refine hN _ _ (by rw [aq nl];exact el) (by rw [aq nD];exact eD) ⟨rfl,hD',nD,?_,?_,λd o z n=>?_⟩
   ·rw [d2',List.map_append];rfl
   ·rw [aq nD.symm,ae,d3'];exact congrArg some (congrArg HO.lst List.dropLast_concat)
   ·rw [aq (ax z hD'),aq n];exact sm d o z n
  ·obtain ⟨rfl,hD',nD,rfl,e3',sm⟩:=h;rw [hul] at e3' eD;exact fin D' H' nD hD' sm e3' eD
 obtain ⟨tsT,htT,hqT⟩:=stT
 refine ⟨_,ai (aJ (i:=1) nd rfl (Or.inl rfl) (bF af)) (ai (aJ (i:=2) nd rfl (Or.inl rfl) xM) (ai (aJ (i:=3) nd rfl (Or.inr rfl) (bF af)) (ai (cK PassesOwn.never rfl (fg (gM (k:=2) (pv 0) (hr.mono (by omega)))) (aP (i:=4) nd rfl (Or.inl rfl)) (ai htT (ai (bg (mH PySem.F.plainAttrs_list PySem.F.slot_list_reverse PySem.F.type_list_reverse sD (pv 5)))
  (ai (aJ (i:=6) nd rfl (Or.inl rfl) (aK lj (bE (aa (gM (k:=1) (pv 4) (hr.mono (by decide))) af)) (iU eo rfl bO (by decide+kernel) (aa (pv 5) af))))
  (ai (aY (Fm (uM hu (pv 6) (pv 2))) (ai (By hu (pv 2) (pv 6) (aB aS rfl aU (by decide+kernel) (aa (pv 1) af)) rfl)
  (aj (bg (eO PySem.F.plainAttrs_list PySem.F.slot_list_append PySem.F.type_list_append bw (pv 1) (aa (pv 6) af))))) aI)
  (aj (bg (eO PySem.F.plainAttrs_list PySem.F.slot_list_append PySem.F.type_list_append bw (pv 3) (aa (qE hu (pv 2) (pv 6) (λ_ _=>rfl)) af))))))))) (aj (aw (pv 1)))))),?_⟩
 refine ⟨szA,λl1 h1=>?_⟩;intro d1 h2';refine ⟨szA,λl3 h3'=>?_⟩;have h2:H d1=none:=jK h2';have n12:l1≠d1:=λe=>by subst e;rw [ae] at h2';cases h2'
 have h3a:upd H l1 (.lst []) l3=none:=jK h3';have h3:H l3=none:=jK h3a;have n13:l1≠l3:=λe=>by subst e;rw [ae] at h3a;cases h3a
 have n23:d1≠l3:=λe=>by subst e;rw [ae] at h3';cases h3'
 have sm0:aE H (upd (upd (upd H l1 (.lst [])) d1 (.dT [])) l3 (.lst [])):=λb o e=>by rw [aq (ax e h3),aq (ax e h2),aq (ax e h1)];exact e
 have oa0:=oa.to (Kp.of sm0);obtain ⟨dx,fs,ea,nf⟩:=oa0.cls;refine ⟨_,rfl,a,_,_,_,_,_,rfl,ea,nf _ (by decide+kernel),G t,a,rfl,oa0,ht,λl us H' sm hl el ou=>⟨l,rfl,⟨_,SqL.of el⟩,?_⟩⟩;have ul:=ou.len;rw [hJ] at ul;have g1:H' l1=some (.lst []):=sm _ _ (by rw [aq n13,aq n12,ae]);have g2:H' d1=some (.dT []):=sm _ _ (by rw [aq n23,ae]);have g3:H' l3=some (.lst []):=sm _ _ ae
 have hl0:H l=none:=by
  cases z:H l with
  | none=>rfl
  | some o=>rw [sm0 _ _ z] at hl;cases hl
 have nl1:l≠l1:=λe=>by subst e;rw [aq n13,aq n12,ae] at hl;cases hl
 have nl3:l≠l3:=λe=>by subst e;rw [ae] at hl;cases hl
 have nld:l≠d1:=λe=>by subst e;rw [aq n23,ae] at hl;cases hl
 refine gh (xs:=us) (λi σ H2=>∃(o4 o5 o6:Option V) (rs:List Rw) (R:List Nat) (kvs:List (Rw×V)) (vs:List V),σ=[some (.ref a),some (.ref l1),some (.ref d1),some (.ref l3),o4,o5,o6]/\(∀ d o,H' d=some o->d≠l1->d≠d1->d≠l3->H2 d=some o)/\
   H2 l1=some (.lst vs)/\aZ (RwV H2) vs rs/\H2 d1=some (.dT kvs)/\PlO kvs rs/\H2 l3=some (.lst (R.reverse.map λi:Nat=>V.int (i:Int)))/\R.length<=i/\rs.length<=i/\tR (rs,R) (t.post.drop i)=some (t.rows,[(t.putR []).2]))
  ⟨_,_,_,[],[],[],[],rfl,λd o z _ _ _=>z,g1,.nil,g2,PlO.nil,g3,Nat.le_refl _,Nat.le_refl _,Fb t⟩ (λi σ H2 _ h=>?_) (λi v σ H2 hi h=>?_) (λσ H2 h=>?_)
 ·obtain ⟨o4,o5,o6,rs,R,kvs,vs,_,sb,_⟩:=h;exact SqL.of (sb _ _ el nl1 nld nl3)
 ·obtain ⟨o4,o5,o6,rs,R,kvs,vs,rfl,sb,e1,rv,e2,pl,e3,hR,hrs,hrun⟩:=h;obtain ⟨x,hx,b,rfl,ob⟩:=ou.get i v hi;rw [drop_at hx] at hrun;obtain ⟨s',hs',hrun'⟩:=CM hrun;obtain ⟨hk,rfl⟩:=EZ hs';have hil:i < us.length:=(List.getElem?_eq_some_iff.mp hi).1;have kp:Kp H' H2:=λd o z f=>sb d o z (λe=>by subst e;rw [g1] at z;cases z;cases f) (λe=>by subst e;rw [g2] at z;cases z;cases f) (λe=>by subst e;rw [g3] at z;cases z;cases f)
  have ob2:=ob.to kp;refine hqT _ _ _ l1 d1 l3 b x R H2 ob2 e3 hk λl4 H3 n43 h4 sm3 e33 e34=>?_;have nl41:l4≠l1:=(ax e1 h4).symm;have nl4d:l4≠d1:=(ax e2 h4).symm;have e31:H3 l1=some (.lst vs):=sm3 _ _ e1 n13;have e3d:H3 d1=some (.dT kvs):=sm3 _ _ e2 n23;have kp3:Kp H2 H3:=λd o z f=>sm3 d o z (λe=>by subst e;rw [e3] at z;cases z;cases f)
  refine ⟨_,rfl,.inl ⟨rfl,_,SqL.of e34⟩,l4,_,rfl,rfl,e34,?_⟩;have kp4:Kp H3 (upd H3 l4 (.lst ((R.take x.kids.length).map λi:Nat=>V.int (i:Int)).reverse)):=cW e34 rfl;rw [<- List.map_reverse] at kp4 ⊢;have ob4:=(ob2.to kp3).to kp4;obtain ⟨dx',fs',eb,nf'⟩:=ob4.cls;refine ⟨_,rfl,b,_,_,_,_,_,rfl,eb,nf' _ (by decide+kernel),M.word x,b,rfl,ob4,szB,λp1 hp1=>?_⟩;have kx:=nP x;have e44:upd H3 l4 (.lst ((R.take x.kids.length).reverse.map λi:Nat=>V.int (i:Int))) l4=_:=ae;have np1:l4≠p1:=ax e44 hp1;refine ⟨_,rfl,l4,_,rfl,.inl ⟨SqL.of (by rw [aq np1];exact e44),λp2 hp2=>?_⟩⟩;have np12:p1≠p2:=ax (ae (H:=upd H3 l4 (.lst ((R.take x.kids.length).reverse.map λi:Nat=>V.int (i:Int))))) hp2;refine Hk (K:=K) (by rw [aq np12,ae]) ae (by simp) (by simp only [List.length_cons,List.length_nil,List.length_map,List.length_reverse,List.length_take];exact Nat.le_trans (show _<=3 by omega) (by decide)) λrw' H6 s6 e6=>?_;have s46:aE (upd H3 l4 (.lst ((R.take x.kids.length).reverse.map λi:Nat=>V.int (i:Int)))) H6:=((ao hp1 _).trans (ao hp2 _)).trans s6;have e6':H6 rw'=some (.tup ((eQ x.word (R.take x.kids.length).reverse).map kV)):=by rw [qy];exact e6
  generalize hr0:eQ x.word (R.take x.kids.length).reverse=r at e6' hrun';have g1':H6 l1=some (.lst vs):=s46 _ _ (by rw [aq nl41.symm];exact e31);have gd':H6 d1=some (.dT kvs):=s46 _ _ (by rw [aq nl4d.symm];exact e3d);have g3':H6 l3=some (.lst ((R.drop x.kids.length).reverse.map λi:Nat=>V.int (i:Int))):=s46 _ _ (by rw [aq n43.symm];exact e33);have kp6:Kp H2 H6:=(kp3.trans kp4).trans (Kp.of s46)
  have sb6:∀ d o,H' d=some o->d≠l1->d≠d1->d≠l3->H6 d=some o:=λd o z z1 z2 z3=>by
   have y2:=sb d o z z1 z2 z3;exact s46 _ _ (by rw [aq (ax y2 h4)];exact sm3 d o y2 z3)
  have rv6:=rv.imp (RwV.to kp6);have vl:=rv.len;refine ⟨_,rfl,_,rfl,d1,_,rfl,jh.t gd' e6',_,rfl,?_⟩;have hv:=pl.2 r;have big:kvs.length < sizeLine:=by rw [pl.1];exact Nat.lt_of_le_of_lt (show rs.length<=1000 by omega) (by decide)
  cases hx0:idx rs r with
  | some j =>
   rw [hx0] at hv;rw [hv];refine cX ?_;have hp:bA rs r=(rs,j):=by unfold bA;rw [hx0]
   rw [hp] at hrun';refine ⟨_,rfl,.inl ⟨rfl,_,SqL.of g3'⟩,_,rfl,_,rfl,d1,_,rfl,(by have z:=jh.t gd' e6';rw [hv] at z;exact z),l3,_,_,rfl,rfl,g3',?_,?_⟩
   ·rw [List.length_map,List.length_reverse];exact Nat.lt_of_le_of_lt (show _<=1000 by rw [List.length_drop];omega) (by decide)
   ·have km:Kp H6 (upd H6 l3 (.lst (((R.drop x.kids.length).reverse.map λi:Nat=>V.int (i:Int))++[V.int (j:Int)]))):=cW g3' rfl;refine ⟨_,_,_,rs,j::R.drop x.kids.length,kvs,vs,rfl,λd o z z1 z2 z3=>by rw [aq z3];exact sb6 d o z z1 z2 z3,by rw [aq n13];exact g1',rv6.imp (RwV.to km),by rw [aq n23];exact gd',pl,by rw [ae,List.reverse_cons,List.map_append];rfl,?_,by omega,hrun'⟩;rw [List.length_cons,List.length_drop];omega
  | none =>
   rw [hx0] at hv;rw [hv];refine fm ?_;have hp:bA rs r=(rs++[r],rs.length):=by unfold bA;rw [hx0]
   rw [hp] at hrun';refine ⟨_,rfl,_,vs.length,rfl,.inl ⟨_,SqL.of g1',rfl⟩,_,rfl,_,rfl,d1,_,rfl,Ed.t gd' e6' big,?_⟩;rw [vl];have gA:upd H6 d1 (.dT (putK kvs r (.int (rs.length:Int)))) l1=some (.lst vs):=by rw [aq n12];exact g1'
   refine ⟨_,rfl,.inl ⟨rfl,_,SqL.of gA⟩,_,rfl,l1,_,_,rfl,rfl,gA,by rw [vl];exact Nat.lt_of_le_of_lt (show rs.length<=1000 by omega) (by decide),?_⟩;have k7:Kp H6 (upd (upd H6 d1 (.dT (putK kvs r (.int (rs.length:Int))))) l1 (.lst (vs++[.ref rw']))):=(cW gd' rfl).trans (cW gA rfl);have gB:upd (upd H6 d1 (.dT (putK kvs r (.int (rs.length:Int))))) l1 (.lst (vs++[.ref rw'])) d1=some (.dT (putK kvs r (.int (rs.length:Int)))):=by rw [aq n12.symm,ae]
   have gC:upd (upd H6 d1 (.dT (putK kvs r (.int (rs.length:Int))))) l1 (.lst (vs++[.ref rw'])) l3=some (.lst ((R.drop x.kids.length).reverse.map λi:Nat=>V.int (i:Int))):=by rw [aq n13.symm,aq n23.symm];exact g3'
   have e7:=k7 _ _ e6' rfl;have pl':=pl.put hx0;have hv':cE (putK kvs r (.int (rs.length:Int))) r=some (.int (rs.length:Int)):=by rw [eS,if_pos rfl]
   refine ⟨_,rfl,.inl ⟨rfl,_,SqL.of gC⟩,_,rfl,_,rfl,d1,_,rfl,(by have z:=jh.t gB e7;rw [hv'] at z;exact z),l3,_,_,rfl,rfl,gC,?_,?_⟩
   ·rw [List.length_map,List.length_reverse];exact Nat.lt_of_le_of_lt (show _<=1000 by rw [List.length_drop];omega) (by decide)
   ·have km:=cW (u:=.lst (((R.drop x.kids.length).reverse.map λi:Nat=>V.int (i:Int))++[V.int (rs.length:Int)])) gC rfl;refine ⟨_,_,_,rs++[r],rs.length::R.drop x.kids.length,_,vs++[.ref rw'],rfl,λd o z z1 z2 z3=>by rw [aq z3,aq z1,aq z2];exact sb6 d o z z1 z2 z3,by rw [aq n13,ae],?_,by rw [aq n23];exact gB,pl',by rw [ae,List.reverse_cons,List.map_append];rfl,?_,by rw [List.length_append];simp;omega,hrun'⟩
    ·exact ((rv6.imp (RwV.to k7)).imp (RwV.to km)).app (.cons ⟨rw',rfl,km _ _ e7 rfl⟩ .nil)
    ·rw [List.length_cons,List.length_drop];omega
 ·obtain ⟨o4,o5,o6,rs,R,kvs,vs,rfl,sb,e1,rv,e2,pl,e3,hR,hrs,hrun⟩:=h;rw [ul,<- hJ,List.drop_length] at hrun;cases hrun
  refine ⟨_,rfl,q l1 vs H2 (λd o z=>?_) h1 e1 rv⟩;exact sb d o (sm _ _ (sm0 _ _ z)) (ax z h1) (ax z h2) (ax z h3)
def wZ (c:CCs) (K:W.Frag):Sp:=λvs H Q _=>∃(a:Addr) (t:Tr),vs=[.ref a]/\Ob c H a t/\t.size<=1000/\t.steep<=25/\t.noq=true/\∀ v H',aE H H'->Dat K H' (lnD (eP t)) v->Q v H'
theorem qH:∀(t x:Tr),t.noq=true->x∈t.post->x.noq=true
 | .no t,x,h,m=>by
  rcases List.mem_append.mp (show x∈t.post++[.no t] from m) with m | m
  ·exact qH t x h m
  ·rw [List.mem_singleton.mp m];exact h
 | .fold u a b,x,h,m=>by
  have h':(a.noq && b.noq)=true:=h;rw [Bool.and_eq_true] at h';rcases List.mem_append.mp (show x∈a.post++b.post++[.fold u a b] from m) with m | m
  ·rcases List.mem_append.mp m with m | m
   ·exact qH a x h'.1 m
   ·exact qH b x h'.2 m
  ·rw [List.mem_singleton.mp m];exact h
 | .never,x,h,m=>by rw [List.mem_singleton.mp m];exact h
 | .always,x,h,m=>by rw [List.mem_singleton.mp m];exact h
 | .lp,x,h,m=>by rw [List.mem_singleton.mp m];exact h
 | .lq,x,h,m=>by rw [List.mem_singleton.mp m];exact h
theorem ji:∀(t x:Tr),x∈t.post->x.steep<=t.steep
 | .no t,x,m=>by
  rcases List.mem_append.mp (show x∈t.post++[.no t] from m) with m | m
  ·exact ji t x m
  ·rw [List.mem_singleton.mp m];exact Nat.le_refl _
 | .fold u a b,x,m=>by
  have s:=kP u a.steep b.steep;rcases List.mem_append.mp (show x∈a.post++b.post++[.fold u a b] from m) with m | m
  ·rcases List.mem_append.mp m with m | m
   ·exact Nat.le_trans (ji a x m) s.1
   ·exact Nat.le_trans (ji b x m) s.2
  ·rw [List.mem_singleton.mp m];exact Nat.le_refl _
 | .never,x,m=>by rw [List.mem_singleton.mp m];exact Nat.le_refl _
 | .always,x,m=>by rw [List.mem_singleton.mp m];exact Nat.le_refl _
 | .lp,x,m=>by rw [List.mem_singleton.mp m];exact Nat.le_refl _
 | .lq,x,m=>by rw [List.mem_singleton.mp m];exact Nat.le_refl _
theorem Ge {gs:List Gr} {ts:List Tr} (h:Tab gs ts) (hq:∀ x∈ts,x.noq=true):idx (gs.map Gr.rw) (eQ "q" [])=none:=by
 cases e:idx (gs.map Gr.rw) (eQ "q" []) with
 | none=>rfl
 | some i =>
  exfalso;have z:=wg e;rw [List.getElem?_map] at z;cases y:gs[i]? with
  | none=>rw [y] at z;cases z
  | some g =>
   rw [y] at z;have eg:g=.q:=zA (k:=.q) (Option.some.inj z);subst eg;obtain ⟨t,ht,gt⟩:=h.at y;have:=hq t (List.mem_of_getElem? ht);cases t <;> first | exact gt.elim | cases this
theorem Dh (T:au K mg "line_of" oG) (Ea:Def P w K mg base 3 "rows_of" ["saying"] (wY c)) (dW:Def P w K mg base 1 "must_be_without_q" ["rows"] EC) (kL:Def P w K mg base 9 "last_line" ["rows"] (mj K)):Def P w K mg base 10 "line_of" ["saying"] (wZ c K):=by
 refine aO T rE (λ_ _ _ _ _ _=>L2.ar1 λ_=>rfl) ?_ ?_
 ·walk_at "i1";obtain ⟨a,t,rfl,_⟩:=h;rfl
 walk_at "i2";obtain ⟨a,t,rfl,oa,hz,st,nq,q⟩:=h;have nd:=rE.nd
 refine ⟨_,(ai (aJ (i:=1) nd rfl (Or.inl rfl) (aD Ea (hr.mono (by omega)) rfl (aa (pv 0) af)))
  (ai (bg (aD dW (hr.mono (by omega)) rfl (aa (pv 1) af)))
  (aj (aw (aD kL (hr.mono (by omega)) rfl (aa (pv 1) af)))))),?_⟩
 refine ⟨_,rfl,a,t,rfl,oa,hz,λl us H1 s1 hl el al=>?_⟩;obtain ⟨gs,ts,er,tb,sub,len⟩:=Fc t;have hok:∀ x∈t.rows,oj x:=qA t [] λ_ z=>nomatch z;have hnq:idx t.rows (eQ "q" [])=none:=by rw [er];exact Ge tb λx hx=>qH t x nq (sub x hx)
 refine ⟨_,rfl,l,us,t.rows,rfl,el,al,hok,hnq,λH2 s2=>?_⟩;have al2:aZ (RwV H2) us (gs.map Gr.rw):=by rw [<- er];exact al.imp (RwV.to (Kp.of s2))
 exact ⟨_,rfl,l,us,gs,ts.map eP,eP t,rfl,s2 _ _ el,aZ.of_map (R:=RwV H2) (f:=Gr.rw) al2,by have z:=Ep tb λx hx=>Nat.le_trans (ji t x (sub x hx)) st;rwa [List.map_append] at z,Nat.le_trans len hz,λv H3 s3 d3=>q v H3 ((s1.trans s2).trans s3) d3⟩
def wQ (s:St4):Bool:=decide (4 < s.m) || decide (s.m < -4)
theorem Be {L:List St4}:(L.map wQ).any id=true↔∃ s∈L,4 < s.m.natAbs:=by
 rw [List.any_map,List.any_eq_true]
 have e:∀ s:St4,(id ∘ wQ) s=true↔4 < s.m.natAbs:=λs=>by
  show (decide (4 < s.m) || decide (s.m < -4))=true↔_;rw [Bool.or_eq_true,decide_eq_true_iff,decide_eq_true_iff];omega
 exact ⟨λ⟨s,h,z⟩=>⟨s,h,(e s).mp z⟩,λ⟨s,h,z⟩=>⟨s,h,(e s).mpr z⟩⟩
def GB:List Tr:=[.lp,.lp,.lp,.never,.lp,.always]
abbrev sJ:List Str:=["_law_script","_law_tree_here","_law_line","_law_n","_law_x","_law_rows"]
theorem xw:aA sJ ["_law_script"] (ag jS):=L2.fsc rfl
theorem ok_law {f:Addr} {fd:FuncData} (F:Fun K "law" "law" jS f fd) (aU:mg "len"=none) (cx:mg "range"=none) (Hu:mg "any"=none) (mQ:Def P w K mg base 1 "_law_cell" ["_law_script","_law_k"] (zr K)) (AY:Def P w K mg base 102 "_law_tree" ["_law_script","_law_at","_law_many","_law_leaves","_law_most"] (wW K))
  (gJ:Def P w K mg base 53 "_law_saying" ["_law_tree_here"] (EB c 50)) (Eb:Def P w K mg base 10 "line_of" ["saying"] (wZ c K)) (jz:Def P w K mg base 1 "_law_height" ["_law_line","_law_n","_law_x"] (zq K)) (cI:Def P w K mg base 52 "_law_saying_worth" ["_law_tree_here","_law_n","_law_x"] (EA 50))
  (ma:Def P w K mg base 8 "_law_refused" ["_law_line"] (Bg K)) (ik:Def P w K mg base 7 "rows_of_line" ["line"] (xh K)) (pG:Def P w K mg base 4 "_law_rows_right" ["_law_rows","_law_line"] (uw K)) (tN:Def P w K mg base 10 "line_of_rows" ["rows"] (Bi K)):lS P w K mg base CX0 160 f fd ["_law_script"] (spLaw K):=by
 refine F.ok xw ?_ ?_
 ·walk_at "i1";obtain ⟨a,ns,rfl,_⟩:=h;rfl
 walk_at "i3";obtain ⟨a,ns,rfl,S,q⟩:=h;have nd:=xw.nd;have hu:=hr.units
 have t3:∃ t,om (cR CX0 P w K mg base sJ "law" (ag jS) f cdv A outer s H E).nox ((bf jS).drop 3) t/\∀(v1:V) (x:V) (L:List St4) (o3 o4 o5:Option V) (H0:Hp),aE H H0->Dat K H0 (lnD L) x->Gd 25 L->
   t {nx:=λ_ H'=>Q .non H',rt:=Q} [some (.ref a),some v1,some x,o3,o4,o5] H0:=by
  refine ⟨_,⟨(ai (aY (aC hU (aB aS rfl aU (by decide+kernel) (aa (pv 2) af)) ak (aH _)) (aj (aw (jt bQ (aD ma (hr.mono (by omega)) rfl (aa (pv 2) af)) aL (aH _)))) aI)
  (ai (aY (gq (aB (Hl rfl) rfl Hu (by decide+kernel) (aa (lh (xs:=["_law_end","_law_slope","_law_height_here"]) rfl (iI (pv 2)) rfl (by decide+kernel) (by decide+kernel) (show L2.FrN _ (ag jS) by decide+kernel) fL (show (["_law_end","_law_slope","_law_height_here"]:List Str).Nodup by decide+kernel) (λ_ _ _ _=>qC (K:=K) (n:=3) rfl rfl (ba (aP (i:=0) (show (["_law_end","_law_slope","_law_height_here"]:List Str).Nodup by decide+kernel) rfl (Or.inl rfl) (.inr rfl)) (ba (aP (i:=1) (show (["_law_end","_law_slope","_law_height_here"]:List Str).Nodup by decide+kernel) rfl (Or.inl rfl) (.inr rfl)) (ba (aP (i:=2) (show (["_law_end","_law_slope","_law_height_here"]:List Str).Nodup by decide+kernel) rfl (Or.inl rfl) (.inr rfl)) fh)))) (λ_ _ _ _=>(BA (jt hU (pv 1) ak (aH _)) (jr (jt jE (pv 1) (fi cS ak) (aH _)))))) af))) (aj (aw (jt bQ (aD ma (hr.mono (by omega)) rfl (aa (pv 2) af)) aL (aH _)))) aI)
  (ai (aJ (i:=5) nd rfl (Or.inl rfl) (aD ik (hr.mono (by decide)) rfl (aa (pv 2) af)))
  (aj (aw (rZ (aD pG (hr.mono (by omega)) rfl (aa (pv 5) (aa (pv 2) af))) (jr (jt (vM hu) (aD tN (hr.mono (by omega)) rfl (aa (pv 5) af)) (pv 2) (aH _)))))))))⟩,?_⟩
  intro v1 x L o3 o4 o5 H0 s0 dx gd;obtain ⟨la,xs,rfl,sa,da⟩:=jH dx;have lx:=dU da;have l800:=gd.len (Nat.le_refl _);refine ⟨_,rfl,_,_,rfl,.inr ⟨_,sa,rfl⟩,_,_,rfl,rfl,_,rfl,cQ (λc=>?_) (λc=>?_)⟩
  ·have c:(6:Int) < (xs.length:Int):=of_decide_eq_true c;have e:Cz L="many":=if_pos (by omega);refine ⟨_,rfl,_,L,rfl,dx,gd.b,gd.i,.inl (by omega),λH1=>⟨rfl,?_⟩⟩;rw [e,decide_eq_true rfl];exact q _
  have c:¬ (6:Int) < (xs.length:Int):=λz=>c (decide_eq_true z);refine ⟨_,rfl,la,rfl,⟨xs,sa⟩,λD hD=>?_⟩;refine ⟨λi m H2=>m=xs.length - i/\i<=xs.length/\aE H0 H2/\H2 D=some (.lst (((L.take i).map wQ).map V.bl)),⟨_,rfl,Nat.zero_le _,ao hD _,ae⟩,?_⟩;rintro i m H2 ⟨rfl,hi,sm,hlD⟩
  have sa2:=sa.ts sm.ts
  by_cases hlt:i < xs.length
  ·refine .inr ⟨⟨xs,_,sa2,List.getElem?_eq_getElem hlt⟩,λo ho v H3 y=>?_⟩;obtain ⟨rfl,y⟩:=y;obtain ⟨st,hst,dst⟩:=hV (da.ts sm.ts) (y xs sa2);obtain ⟨c,e,rfl,q1,d1⟩:=dA dst;obtain ⟨o1,o2,o3,rfl⟩:=len3 ho;refine ⟨c,_,rfl,q1,rfl,_,_,rfl,_,_,rfl,_,_,rfl,rfl,[some e,some (.int st.m),some (.int st.h)],rfl,rfl,?_⟩
   have fin:∀ r:Bool,r=wQ st->∃ ys,H3 D=some (.lst ys)/\ys.length < sizeLine/\∃ m',m' < xs.length - i/\m'=xs.length - (i+1)/\i+1<=xs.length/\aE H0 (upd H3 D (.lst (ys++[.bl r])))/\upd H3 D (.lst (ys++[.bl r])) D=some (.lst (((L.take (i+1)).map wQ).map V.bl)):=λr hr=>by
    refine ⟨_,hlD,fA (by simp;omega),xs.length - (i+1),by omega,rfl,hlt,bp sm hD _,?_⟩;rw [ae,sF hst,List.map_append,hr];rfl
   refine ⟨_,rfl,_,_,rfl,rfl,_,rfl,cQ (λc1=>?_) (λc1=>?_)⟩
   ·exact fin true (by unfold wQ;rw [show decide (4 < st.m)=true from c1];rfl)
   ·exact ⟨_,rfl,_,rfl,_,_,rfl,rfl,fin _ (by unfold wQ;rw [show decide (4 < st.m)=false from Bool.eq_false_iff.mpr c1];rfl)⟩
  have ei:i=xs.length:=by omega
  subst ei;refine .inl ⟨⟨xs,sa2,Nat.le_refl _⟩,?_⟩;rw [lx,List.take_length] at hlD;have s2:=s0.trans sm;have dx2:=dx.ts sm.ts;refine ⟨D,L.map wQ,rfl,SqL.of hlD,_,rfl,cQ (λc2=>?_) (λc2=>?_)⟩
  ·have e:Cz L="steep":=if_neg (by omega);refine ⟨_,rfl,_,L,rfl,dx2,gd.b,gd.i,.inr (Be.mp c2),λH1=>⟨rfl,?_⟩⟩;rw [e,decide_eq_true rfl];exact q _
  ·have bk:Bk 10 L:=⟨gd.b,gd.i,by omega,λs hs=>by
    rcases Nat.lt_or_ge 4 s.m.natAbs with z | z
    ·exact absurd (Be.mpr ⟨s,hs,z⟩) c2
    ·exact z⟩
   refine ⟨_,rfl,_,L,rfl,dx2,bk,λl us gs Ls H3 R=>?_⟩;have few:=R.few;have lu:=R.al.len;have rl:=R.sr.rl;have dx3:=dx2.ts R.sm.ts;refine ⟨_,rfl,_,rfl,l,_,L,us,gs,Ls,rfl,R.el,R.al,R.sr,R.few,dx3,bk,λH4 s4=>⟨_,rfl,fm ?_⟩⟩;refine ⟨_,rfl,l,us,gs,Ls,_,rfl,s4 _ _ R.el,R.al.imp (GrV.to (Kp.of s4)),R.sr.ok,by omega,R.sr.nq,rl,λv1 H5 s5 d5=>?_⟩;refine ⟨_,rfl,_,_,.inl d5,.inl ((dx3.ts s4.ts).ts s5.ts),uS _,uS _,?_⟩;rw [ln_eqv,decide_eq_true rfl];exact q _
 obtain ⟨t3,ht3,k3⟩:=t3
 have t2:∃ t,om (cR CX0 P w K mg base sJ "law" (ag jS) f cdv A outer s H E).nox ((bf jS).drop 2) t/\∀(r:Addr) (t':Tr) (x:V) (o3 o4 o5:Option V) (H0:Hp),aE H H0->Tu H0 r t'->t'.noq=true->t'.size<=49->Dat K H0 (lnD (eP t')) x->
   t {nx:=λ_ H'=>Q .non H',rt:=Q} [some (.ref a),some (.ref r),some x,o3,o4,o5] H0:=by
  refine GX (Cb (X:=(cR CX0 P w K mg base sJ "law" (ag jS) f cdv A outer s H E).nox) (N:=sJ) (sc:=ag jS) (xs:=mI.map Lt.int) (g:=pZ 3) ?h ht3 ⟨(aj (cK PassesOwn.never rfl (gL rfl cx (aa (aK bJ (pv 3) ak) af)) (aP (i:=4) nd rfl (Or.inl rfl)) (aj (aY (aC BE (aD jz (hr.mono (by omega)) rfl (aa (pv 2) (aa (pv 3) (aa (pv 4) af)))) (aD cI (hr.mono (by omega)) rfl (aa (pv 1) (aa (pv 3) (aa (pv 4) af)))) (aH _)) (aj (aw nK)) aI))))⟩ ?a ?b PassesOwn.never rfl (aP (i:=3) nd rfl (Or.inl rfl)) ?s) ?r
  case h=>kernel_rfl
  case a=>rfl
  case b=>rfl
  case s=>intro _;rfl
  intro t k r t' x o3 o4 o5 H0 s0 tu nq sz dx;have st:t'.steep<=25:=by have:=gQ t';omega
  have gd0:=dZ t' st;have gd:Gd 25 (eP t'):=⟨gd0.b,gd0.s.mono st,gd0.i⟩;refine k _ _ _ rfl λla us' H2 s2 ea lu'=>?_;have eu:=we lu';subst eu;have s12:=s0.trans s2;refine gh (xs:=mI.map V.int) (λi σ H'=>aE H2 H'/\∃ o3 o4,σ=[some (.ref a),some (.ref r),some x,o3,o4,o5]) ⟨aE.refl _,_,_,rfl⟩ (λi σ H' _ z=>SqL.of (z.1 _ _ ea)) (λi y σ H' hy z=>?_) (λσ H' z=>?_)
  ·obtain ⟨sm,o3,o4,rfl⟩:=z;obtain ⟨n,rfl,n1,n12⟩:=yb hy;refine ⟨_,rfl,_,_,rfl,rfl,_,rfl,by omega,by omega,?_⟩;refine jb (λj σ H3=>aE H2 H3/\∃ o4,σ=[some (.ref a),some (.ref r),some x,some (.int n),o4,o5]) ⟨sm,_,rfl⟩ (λj σ H3 hj z=>?_) (λσ H3 z=>?_)
   ·obtain ⟨sm3,o4,rfl⟩:=z;have e0:(0:Int)+(j:Int)=(j:Int):=by omega
    rw [e0];have sA:=s2.trans sm3;have j0:(j:Int)<=n:=by omega
    refine ⟨_,rfl,_,rfl,_,rfl,x,eP t',n,(j:Int),rfl,dx.ts sA.ts,gd.b,by omega,by omega,by omega,j0,?_⟩;refine ⟨_,rfl,_,rfl,_,rfl,r,t',n,(j:Int),rfl,tu.to (Kp.of sA),nq,by omega,λH4 s4=>?_⟩;exact ⟨rfl,_,rfl,GJ (congrArg V.int (nN t' st nq _ _ 0 (by omega) (by omega) j0)) ⟨sm3.trans s4,_,rfl⟩⟩
   ·obtain ⟨sm3,o4,rfl⟩:=z;exact ⟨sm3,_,_,rfl⟩
  ·obtain ⟨sm,o3,o4,rfl⟩:=z;exact k3 _ x _ _ _ _ _ (s12.trans sm) (dx.ts (s2.trans sm).ts) gd
 obtain ⟨t2,ht2,k2⟩:=t2;refine ⟨_,ai (aJ (i:=1) nd rfl (Or.inl rfl) (aD AY (hr.mono (by omega)) rfl (aa (pv 0) (aa ak (aa (aK bJ ak (aK gu (aD mQ (hr.mono (by omega)) rfl (aa (pv 0) (aa ak af))) ak)) (aa (bF (aa aL (aa aL (aa aL (aa aL (aa aL (aa aL af))))))) (aa ak af))))))) (kZ (aJ (i:=2) nd rfl (Or.inl rfl) (aD Eb (hr.mono (by omega)) rfl (aa (aD gJ (hr.mono (by omega)) rfl (aa (pv 1) af)) af))) ht2),?_⟩;refine ⟨_,rfl,_,rfl,a,ns,0,rfl,S,by decide,by decide,λc _=>?_⟩;refine ⟨_,_,rfl,rfl,(by show (0:Int) < 8;decide),_,_,rfl,rfl,(by show 6<=sizeLine;decide),λlv hlv=>?_⟩;have e1:=Int.emod_nonneg c (show (8:Int)≠0 by decide);have e2:=Int.emod_lt_of_pos c (show (0:Int) < 8 by decide);have u1:=ao hlv (.lst [V.str "p",.str "p",.str "p",.str "never",.str "p",.str "always"]);refine ⟨a,lv,ns,1,_,12,GB,rfl,S.to u1,by decide,by decide,(by show (1:Int)<=1+c % 8;omega),(by show 1+c % 8<=(8:Int);omega),by decide,ae,(by decide),(by decide),(by decide),(by decide),λr t' H1 s1 tu nq sz=>?_⟩;refine ⟨_,rfl,r,t',rfl,tu,by omega,λo H2 s2 ob=>?_⟩;have st:t'.steep<=25:=by have:=gQ t';omega
 refine ⟨o,t',rfl,ob,by omega,st,nq,λv H3 s3 d3=>?_⟩;exact k2 r t' v _ _ _ H3 (((u1.trans s1).trans s2).trans s3) (tu.to (Kp.of (s2.trans s3))) nq sz d3
theorem jO:aA ["self","word","at"] ["self","word","at"] (ag fR):=L2.fsc rfl
theorem ok_init {fI C:Addr} {fd:FuncData} (F:Fun K "__init__" "NoLine.__init__" fR fI fd) (c:qj K C) (n1:bL K C "word") (n2:bL K C "at"):lS P w K mg base CX0 1 fI fd ["self","word","at"] (L2.kQ C "word" "at"):=by
 refine F.ok jO (λvs H Q E h=>?_) (λcdv Ar outer s H vs Q E hr h=>?_)
 ·obtain ⟨a,y,z,rfl,_⟩:=h;rfl
 obtain ⟨a,y,z,rfl,ea,q⟩:=h;have nd:=jO.nd
 refine ⟨_,(ai (Bx (pv 0) (pv 1) rfl)
  (aj (Bx (pv 0) (pv 2) rfl))),?_⟩
 refine ⟨_,rfl,_,rfl,a,C,rfl,c,n1,.inl ⟨ea,λd hd=>?_⟩⟩;have ne:d≠a:=λz=>by rw [z,ea] at hd;cases hd
 refine ⟨_,rfl,_,rfl,a,C,rfl,c,n2,.inr ⟨d,_,by rw [aq (Ne.symm ne),ae],ae,ne,(show 1 < 100 by decide),?_⟩⟩;refine q d _ ⟨hd,ne,?_,ae,λb h1 h2=>?_⟩
 ·rw [aq (Ne.symm ne),aq (Ne.symm ne),ae]
 ·rw [aq h2,aq h2,aq h1]
end Mine
namespace L2
open PySem PySem.Spec PyProof.Rows
structure eR (K:W.Frag) (x qual:Str) (st:Stmt) (f:Addr):Prop where
 ex:∃ fd:FuncData,Fun K x qual st f fd
 fn:PySem.W.isFn K (.ref f)=true
theorem bD {K:W.Frag} {x qual:Str} {st:Stmt} {f:Addr} {oc kV doc pm cdv ct:Value} {od an:Option Addr} {osl:Array (Option Value)} (l:K.lookup f=some ⟨oc,od,.func (PySem.W.fnOf x qual (eI st) (bf st) (ag st) .none kV doc pm an cdv ct),osl⟩)
  (c:PySem.W.codeIn K cdv qual=true) (k:PySem.W.keepIn K (.ref f)=true) (fn:PySem.W.isFn K (.ref f)=true):eR K x qual st f:=⟨⟨_,Ao l c k⟩,fn⟩
theorem eR.meth {K:W.Frag} {x qual:Str} {st:Stmt} {f C:Addr} (e:eR K x qual st f) (cl:Cls K C) (g:PySem.W.findIn K (.ref C) x=some (some (.ref f))):bh K C x qual st:=by
 obtain ⟨fd,F⟩:=e.ex;exact ⟨cl,f,fd,⟨g,e.fn,F.kp⟩,F⟩
theorem eR.made {K:W.Frag} {mg:Str->Option Value} {x qual:Str} {st:Stmt} {f C:Addr} (e:eR K "__init__" qual st f) (cl:Cls K C) (g:PySem.W.findIn K (.ref C) "__init__"=some (some (.ref f))) (m:mg x=some (.ref C)) (y:PySem.W.makesIn K C=true) (z:PySem.W.keepIn K (.ref C)=true):MkF K mg x C qual st:=by
 obtain ⟨fd,F⟩:=e.ex;exact ⟨cl,m,f,fd,⟨y,g,e.fn,z⟩,F⟩
end L2
open PySem PySem.W PyProof.Rows
structure Mine.AllF (K:Frag) (mg:Str->Option Value) (c:Mine.CCs):Prop where
 fx:Mine.Fx K c
 madeS_ne:L2.bh K c.ne "made_of" "Saying.made_of" Mine.bZ
 madeS_al:L2.bh K c.al "made_of" "Saying.made_of" Mine.bZ
 madeS_le:L2.bh K c.le "made_of" "Saying.made_of" Mine.bZ
 piecesS_ne:L2.bh K c.ne "pieces" "Saying.pieces" Mine.cz
 piecesS_al:L2.bh K c.al "pieces" "Saying.pieces" Mine.cz
 piecesS_le:L2.bh K c.le "pieces" "Saying.pieces" Mine.cz
 laid:∀ t,L2.bh K (c.of t) "laid_out" "Saying.laid_out" Mine.eX
 told:∀ t,L2.bh K (c.of t) "told" "Saying.told" Mine.lX
 Kne_ne:L2.bh K c.ne "making_word" "Never.making_word" Mine.cF
 Kal_al:L2.bh K c.al "making_word" "Always.making_word" Mine.cB
 Kle_le:L2.bh K c.le "making_word" "Letter.making_word" Mine.bI
 Kno_no:L2.bh K c.no "making_word" "Not.making_word" Mine.dC
 Mno_no:L2.bh K c.no "made_of" "Not.made_of" Mine.fQ
 Pno_no:L2.bh K c.no "pieces" "Not.pieces" Mine.gD
 Mfo:∀ u,L2.bh K (c.fold u) "made_of" "Fold.made_of" Mine.eZ
 Pfo:∀ u,L2.bh K (c.fold u) "pieces" "Fold.pieces" Mine.fV
 F0mo_mo:L2.bh K c.mo "making_word" "More.making_word" Mine.cU
 F1mo_mo:L2.bh K c.mo "folded" "More.folded" Mine.fS
 F0ls_ls:L2.bh K c.ls "making_word" "Less.making_word" Mine.cV
 F1ls_ls:L2.bh K c.ls "folded" "Less.folded" Mine.fU
 F0gr_gr:L2.bh K c.gr "making_word" "Greater.making_word" Mine.cu
 F1gr_gr:L2.bh K c.gr "folded" "Greater.folded" Mine.dM
 F0lr_lr:L2.bh K c.lr "making_word" "Lesser.making_word" Mine.cA
 F1lr_lr:L2.bh K c.lr "folded" "Lesser.folded" Mine.eA
 F0ld_ld:L2.bh K c.ld "making_word" "Leads.making_word" Mine.cG
 F1ld_ld:L2.bh K c.ld "folded" "Leads.folded" Mine.eY
 ile:L2.MkF K mg "Letter" c.le "Letter.__init__" Mine.fT
 ino:L2.MkF K mg "Not" c.no "Not.__init__" Mine.jo
 ifo:∀ u,L2.MkF K mg (Mine.W5.cls u) (c.fold u) "Fold.__init__" Mine.iu
 o_ne:L2.Mk0 K c.ne
 r_ne:mg "Never"=some (.ref c.ne)
 o_al:L2.Mk0 K c.al
 r_al:mg "Always"=some (.ref c.al)
theorem Mine.all_mk {K:Frag} {h:Heap} {mg:Str->Option Value} {ne al le no mo ls gr lr ld f_madeS f_piecesS f_laid f_told f_Kne f_Kal f_Kle f_Kno f_Mno f_Pno f_Mfo f_Pfo f_F0mo f_F1mo f_F0ls f_F1ls f_F0gr f_F1gr f_F0lr f_F1lr f_F0ld f_F1ld f_ile f_ino f_ifo:Addr} (X:K.In h) (G:h.Ns mainGlobals mg)
  (n_ne:nsIn K mainGlobals "Never"=some (some (.ref ne)))
  (n_al:nsIn K mainGlobals "Always"=some (some (.ref al)))
  (n_le:nsIn K mainGlobals "Letter"=some (some (.ref le)))
  (n_no:nsIn K mainGlobals "Not"=some (some (.ref no)))
  (n_mo:nsIn K mainGlobals "More"=some (some (.ref mo)))
  (n_ls:nsIn K mainGlobals "Less"=some (some (.ref ls)))
  (n_gr:nsIn K mainGlobals "Greater"=some (some (.ref gr)))
  (n_lr:nsIn K mainGlobals "Lesser"=some (some (.ref lr)))
  (n_ld:nsIn K mainGlobals "Leads"=some (some (.ref ld)))
  (c_ne:L2.Cls K ne)
  (c_al:L2.Cls K al)
  (c_le:L2.Cls K le)
  (c_no:L2.Cls K no)
  (c_mo:L2.Cls K mo)
  (c_ls:L2.Cls K ls)
  (c_gr:L2.Cls K gr)
  (c_lr:L2.Cls K lr)
  (c_ld:L2.Cls K ld)
  (h_ne:findIn K (.ref ne) "__class__"=some (some (.builtin "object.__class__")))
  (h_al:findIn K (.ref al) "__class__"=some (some (.builtin "object.__class__")))
  (h_le:findIn K (.ref le) "__class__"=some (some (.builtin "object.__class__")))
  (h_no:findIn K (.ref no) "__class__"=some (some (.builtin "object.__class__")))
  (h_mo:findIn K (.ref mo) "__class__"=some (some (.builtin "object.__class__")))
  (h_ls:findIn K (.ref ls) "__class__"=some (some (.builtin "object.__class__")))
  (h_gr:findIn K (.ref gr) "__class__"=some (some (.builtin "object.__class__")))
  (h_lr:findIn K (.ref lr) "__class__"=some (some (.builtin "object.__class__")))
  (h_ld:findIn K (.ref ld) "__class__"=some (some (.builtin "object.__class__")))
  (m_ne:mroIn K ne (.type "object")=some true)
  (m_al:mroIn K al (.type "object")=some true)
  (m_le:mroIn K le (.type "object")=some true)
  (m_no:mroIn K no (.type "object")=some true)
  (m_mo:mroIn K mo (.type "object")=some true)
  (m_ls:mroIn K ls (.type "object")=some true)
  (m_gr:mroIn K gr (.type "object")=some true)
  (m_lr:mroIn K lr (.type "object")=some true)
  (m_ld:mroIn K ld (.type "object")=some true)
  (s_ne:kitOne K (.ref ne) (.type "str")=some false)
  (s_al:kitOne K (.ref al) (.type "str")=some false)
  (s_le:kitOne K (.ref le) (.type "str")=some false)
  (s_no:kitOne K (.ref no) (.type "str")=some false)
  (s_mo:kitOne K (.ref mo) (.type "str")=some false)
  (s_ls:kitOne K (.ref ls) (.type "str")=some false)
  (s_gr:kitOne K (.ref gr) (.type "str")=some false)
  (s_lr:kitOne K (.ref lr) (.type "str")=some false)
  (s_ld:kitOne K (.ref ld) (.type "str")=some false)
  (hn:specialIn K (.builtin "object.__class__") "__get__"=some (some (.builtin "getset_descriptor.__get__")))
  (tk:takesIn K (.builtin "object.__class__")=some true)
  (a_name:findIn K (.ref le) "name"=some none)
  (a_part:findIn K (.ref no) "part"=some none)
  (a_one_mo:findIn K (.ref mo) "one"=some none)
  (a_one_ls:findIn K (.ref ls) "one"=some none)
  (a_one_gr:findIn K (.ref gr) "one"=some none)
  (a_one_lr:findIn K (.ref lr) "one"=some none)
  (a_one_ld:findIn K (.ref ld) "one"=some none)
  (a_other_mo:findIn K (.ref mo) "other"=some none)
  (a_other_ls:findIn K (.ref ls) "other"=some none)
  (a_other_gr:findIn K (.ref gr) "other"=some none)
  (a_other_lr:findIn K (.ref lr) "other"=some none)
  (a_other_ld:findIn K (.ref ld) "other"=some none)
  (g_madeS_ne:findIn K (.ref ne) "made_of"=some (some (.ref f_madeS)))
  (g_madeS_al:findIn K (.ref al) "made_of"=some (some (.ref f_madeS)))
  (g_madeS_le:findIn K (.ref le) "made_of"=some (some (.ref f_madeS)))
  (e_madeS:L2.eR K "made_of" "Saying.made_of" Mine.bZ f_madeS)
  (g_piecesS_ne:findIn K (.ref ne) "pieces"=some (some (.ref f_piecesS)))
  (g_piecesS_al:findIn K (.ref al) "pieces"=some (some (.ref f_piecesS)))
  (g_piecesS_le:findIn K (.ref le) "pieces"=some (some (.ref f_piecesS)))
  (e_piecesS:L2.eR K "pieces" "Saying.pieces" Mine.cz f_piecesS)
  (g_laid_ne:findIn K (.ref ne) "laid_out"=some (some (.ref f_laid)))
  (g_laid_al:findIn K (.ref al) "laid_out"=some (some (.ref f_laid)))
  (g_laid_le:findIn K (.ref le) "laid_out"=some (some (.ref f_laid)))
  (g_laid_no:findIn K (.ref no) "laid_out"=some (some (.ref f_laid)))
  (g_laid_mo:findIn K (.ref mo) "laid_out"=some (some (.ref f_laid)))
  (g_laid_ls:findIn K (.ref ls) "laid_out"=some (some (.ref f_laid)))
  (g_laid_gr:findIn K (.ref gr) "laid_out"=some (some (.ref f_laid)))
  (g_laid_lr:findIn K (.ref lr) "laid_out"=some (some (.ref f_laid)))
  (g_laid_ld:findIn K (.ref ld) "laid_out"=some (some (.ref f_laid)))
  (e_laid:L2.eR K "laid_out" "Saying.laid_out" Mine.eX f_laid)
  (g_told_ne:findIn K (.ref ne) "told"=some (some (.ref f_told)))
  (g_told_al:findIn K (.ref al) "told"=some (some (.ref f_told)))
  (g_told_le:findIn K (.ref le) "told"=some (some (.ref f_told)))
  (g_told_no:findIn K (.ref no) "told"=some (some (.ref f_told)))
  (g_told_mo:findIn K (.ref mo) "told"=some (some (.ref f_told)))
  (g_told_ls:findIn K (.ref ls) "told"=some (some (.ref f_told)))
  (g_told_gr:findIn K (.ref gr) "told"=some (some (.ref f_told)))
  (g_told_lr:findIn K (.ref lr) "told"=some (some (.ref f_told)))
  (g_told_ld:findIn K (.ref ld) "told"=some (some (.ref f_told)))
  (e_told:L2.eR K "told" "Saying.told" Mine.lX f_told)
  (g_Kne_ne:findIn K (.ref ne) "making_word"=some (some (.ref f_Kne)))
  (e_Kne:L2.eR K "making_word" "Never.making_word" Mine.cF f_Kne)
  (g_Kal_al:findIn K (.ref al) "making_word"=some (some (.ref f_Kal)))
  (e_Kal:L2.eR K "making_word" "Always.making_word" Mine.cB f_Kal)
  (g_Kle_le:findIn K (.ref le) "making_word"=some (some (.ref f_Kle)))
  (e_Kle:L2.eR K "making_word" "Letter.making_word" Mine.bI f_Kle)
  (g_Kno_no:findIn K (.ref no) "making_word"=some (some (.ref f_Kno)))
  (e_Kno:L2.eR K "making_word" "Not.making_word" Mine.dC f_Kno)
  (g_Mno_no:findIn K (.ref no) "made_of"=some (some (.ref f_Mno)))
  (e_Mno:L2.eR K "made_of" "Not.made_of" Mine.fQ f_Mno)
  (g_Pno_no:findIn K (.ref no) "pieces"=some (some (.ref f_Pno)))
  (e_Pno:L2.eR K "pieces" "Not.pieces" Mine.gD f_Pno)
  (g_Mfo_mo:findIn K (.ref mo) "made_of"=some (some (.ref f_Mfo)))
  (g_Mfo_ls:findIn K (.ref ls) "made_of"=some (some (.ref f_Mfo)))
  (g_Mfo_gr:findIn K (.ref gr) "made_of"=some (some (.ref f_Mfo)))
  (g_Mfo_lr:findIn K (.ref lr) "made_of"=some (some (.ref f_Mfo)))
  (g_Mfo_ld:findIn K (.ref ld) "made_of"=some (some (.ref f_Mfo)))
  (e_Mfo:L2.eR K "made_of" "Fold.made_of" Mine.eZ f_Mfo)
  (g_Pfo_mo:findIn K (.ref mo) "pieces"=some (some (.ref f_Pfo)))
  (g_Pfo_ls:findIn K (.ref ls) "pieces"=some (some (.ref f_Pfo)))
  (g_Pfo_gr:findIn K (.ref gr) "pieces"=some (some (.ref f_Pfo)))
  (g_Pfo_lr:findIn K (.ref lr) "pieces"=some (some (.ref f_Pfo)))
  (g_Pfo_ld:findIn K (.ref ld) "pieces"=some (some (.ref f_Pfo)))
  (e_Pfo:L2.eR K "pieces" "Fold.pieces" Mine.fV f_Pfo)
  (g_F0mo_mo:findIn K (.ref mo) "making_word"=some (some (.ref f_F0mo)))
  (e_F0mo:L2.eR K "making_word" "More.making_word" Mine.cU f_F0mo)
  (g_F1mo_mo:findIn K (.ref mo) "folded"=some (some (.ref f_F1mo)))
  (e_F1mo:L2.eR K "folded" "More.folded" Mine.fS f_F1mo)
  (g_F0ls_ls:findIn K (.ref ls) "making_word"=some (some (.ref f_F0ls)))
  (e_F0ls:L2.eR K "making_word" "Less.making_word" Mine.cV f_F0ls)
  (g_F1ls_ls:findIn K (.ref ls) "folded"=some (some (.ref f_F1ls)))
  (e_F1ls:L2.eR K "folded" "Less.folded" Mine.fU f_F1ls)
  (g_F0gr_gr:findIn K (.ref gr) "making_word"=some (some (.ref f_F0gr)))
  (e_F0gr:L2.eR K "making_word" "Greater.making_word" Mine.cu f_F0gr)
  (g_F1gr_gr:findIn K (.ref gr) "folded"=some (some (.ref f_F1gr)))
  (e_F1gr:L2.eR K "folded" "Greater.folded" Mine.dM f_F1gr)
  (g_F0lr_lr:findIn K (.ref lr) "making_word"=some (some (.ref f_F0lr)))
  (e_F0lr:L2.eR K "making_word" "Lesser.making_word" Mine.cA f_F0lr)
  (g_F1lr_lr:findIn K (.ref lr) "folded"=some (some (.ref f_F1lr)))
  (e_F1lr:L2.eR K "folded" "Lesser.folded" Mine.eA f_F1lr)
  (g_F0ld_ld:findIn K (.ref ld) "making_word"=some (some (.ref f_F0ld)))
  (e_F0ld:L2.eR K "making_word" "Leads.making_word" Mine.cG f_F0ld)
  (g_F1ld_ld:findIn K (.ref ld) "folded"=some (some (.ref f_F1ld)))
  (e_F1ld:L2.eR K "folded" "Leads.folded" Mine.eY f_F1ld)
  (g_ile_le:findIn K (.ref le) "__init__"=some (some (.ref f_ile)))
  (e_ile:L2.eR K "__init__" "Letter.__init__" Mine.fT f_ile)
  (g_ino_no:findIn K (.ref no) "__init__"=some (some (.ref f_ino)))
  (e_ino:L2.eR K "__init__" "Not.__init__" Mine.jo f_ino)
  (g_ifo_mo:findIn K (.ref mo) "__init__"=some (some (.ref f_ifo)))
  (g_ifo_ls:findIn K (.ref ls) "__init__"=some (some (.ref f_ifo)))
  (g_ifo_gr:findIn K (.ref gr) "__init__"=some (some (.ref f_ifo)))
  (g_ifo_lr:findIn K (.ref lr) "__init__"=some (some (.ref f_ifo)))
  (g_ifo_ld:findIn K (.ref ld) "__init__"=some (some (.ref f_ifo)))
  (e_ifo:L2.eR K "__init__" "Fold.__init__" Mine.iu f_ifo)
  (i_ne:findIn K (.ref ne) "__init__"=some (some (.builtin "object.__init__")))
  (i_al:findIn K (.ref al) "__init__"=some (some (.builtin "object.__init__")))
  (y_ne:makesIn K ne=true)
  (y_al:makesIn K al=true)
  (y_le:makesIn K le=true)
  (y_no:makesIn K no=true)
  (y_mo:makesIn K mo=true)
  (y_ls:makesIn K ls=true)
  (y_gr:makesIn K gr=true)
  (y_lr:makesIn K lr=true)
  (y_ld:makesIn K ld=true)
  (z_ne:keepIn K (.ref ne)=true)
  (z_al:keepIn K (.ref al)=true)
  (z_le:keepIn K (.ref le)=true)
  (z_no:keepIn K (.ref no)=true)
  (z_mo:keepIn K (.ref mo)=true)
  (z_ls:keepIn K (.ref ls)=true)
  (z_gr:keepIn K (.ref gr)=true)
  (z_lr:keepIn K (.ref lr)=true)
  (z_ld:keepIn K (.ref ld)=true) :
  ∃ c,Mine.AllF K mg c:=by
 refine ⟨⟨ne,al,le,no,mo,ls,gr,lr,ld⟩,?_⟩
 refine ⟨?_,?_,?_,?_,?_,?_,?_,?_,?_,?_,?_,?_,?_,?_,?_,?_,?_,?_,?_,?_,?_,?_,?_,?_,?_,?_,?_,?_,?_,?_,?_,?_,?_,?_⟩
 ·exact ⟨by intro t;cases t <;> first | exact c_ne | exact c_al | exact c_le | exact c_no | (rename_i u _ _;cases u <;> assumption),by intro t;cases t <;> first | exact h_ne | exact h_al | exact h_le | exact h_no | (rename_i u _ _;cases u <;> assumption),by intro t;cases t <;> first | exact m_ne | exact m_al | exact m_le | exact m_no | (rename_i u _ _;cases u <;> assumption),by intro t;cases t <;> first | exact s_ne | exact s_al | exact s_le | exact s_no | (rename_i u _ _;cases u <;> assumption),hn,tk,a_name,a_part,by intro u;cases u <;> assumption,by intro u;cases u <;> assumption⟩
 ·exact e_madeS.meth c_ne g_madeS_ne
 ·exact e_madeS.meth c_al g_madeS_al
 ·exact e_madeS.meth c_le g_madeS_le
 ·exact e_piecesS.meth c_ne g_piecesS_ne
 ·exact e_piecesS.meth c_al g_piecesS_al
 ·exact e_piecesS.meth c_le g_piecesS_le
 ·intro t;cases t <;> first | exact e_laid.meth c_ne g_laid_ne | exact e_laid.meth c_al g_laid_al | exact e_laid.meth c_le g_laid_le | exact e_laid.meth c_no g_laid_no | (rename_i u _ _;cases u <;> first | exact e_laid.meth c_mo g_laid_mo | exact e_laid.meth c_ls g_laid_ls | exact e_laid.meth c_gr g_laid_gr | exact e_laid.meth c_lr g_laid_lr | exact e_laid.meth c_ld g_laid_ld)
 ·intro t;cases t <;> first | exact e_told.meth c_ne g_told_ne | exact e_told.meth c_al g_told_al | exact e_told.meth c_le g_told_le | exact e_told.meth c_no g_told_no | (rename_i u _ _;cases u <;> first | exact e_told.meth c_mo g_told_mo | exact e_told.meth c_ls g_told_ls | exact e_told.meth c_gr g_told_gr | exact e_told.meth c_lr g_told_lr | exact e_told.meth c_ld g_told_ld)
 ·exact e_Kne.meth c_ne g_Kne_ne
 ·exact e_Kal.meth c_al g_Kal_al
 ·exact e_Kle.meth c_le g_Kle_le
 ·exact e_Kno.meth c_no g_Kno_no
 ·exact e_Mno.meth c_no g_Mno_no
 ·exact e_Pno.meth c_no g_Pno_no
 ·intro u;cases u <;> first | exact e_Mfo.meth c_mo g_Mfo_mo | exact e_Mfo.meth c_ls g_Mfo_ls | exact e_Mfo.meth c_gr g_Mfo_gr | exact e_Mfo.meth c_lr g_Mfo_lr | exact e_Mfo.meth c_ld g_Mfo_ld
 ·intro u;cases u <;> first | exact e_Pfo.meth c_mo g_Pfo_mo | exact e_Pfo.meth c_ls g_Pfo_ls | exact e_Pfo.meth c_gr g_Pfo_gr | exact e_Pfo.meth c_lr g_Pfo_lr | exact e_Pfo.meth c_ld g_Pfo_ld
 ·exact e_F0mo.meth c_mo g_F0mo_mo
 ·exact e_F1mo.meth c_mo g_F1mo_mo
 ·exact e_F0ls.meth c_ls g_F0ls_ls
 ·exact e_F1ls.meth c_ls g_F1ls_ls
 ·exact e_F0gr.meth c_gr g_F0gr_gr
 ·exact e_F1gr.meth c_gr g_F1gr_gr
 ·exact e_F0lr.meth c_lr g_F0lr_lr
 ·exact e_F1lr.meth c_lr g_F1lr_lr
 ·exact e_F0ld.meth c_ld g_F0ld_ld
 ·exact e_F1ld.meth c_ld g_F1ld_ld
 ·exact e_ile.made c_le g_ile_le (mg_of X G n_le) y_le z_le
 ·exact e_ino.made c_no g_ino_no (mg_of X G n_no) y_no z_no
 ·intro u;cases u <;> first | exact e_ifo.made c_mo g_ifo_mo (mg_of X G n_mo) y_mo z_mo | exact e_ifo.made c_ls g_ifo_ls (mg_of X G n_ls) y_ls z_ls | exact e_ifo.made c_gr g_ifo_gr (mg_of X G n_gr) y_gr z_gr | exact e_ifo.made c_lr g_ifo_lr (mg_of X G n_lr) y_lr z_lr | exact e_ifo.made c_ld g_ifo_ld (mg_of X G n_ld) y_ld z_ld
 ·exact ⟨y_ne,i_ne,z_ne⟩
 ·exact mg_of X G n_ne
 ·exact ⟨y_al,i_al,z_al⟩
 ·exact mg_of X G n_al
section
variable {P:Program} {w:World} {K:Frag} {mg:Str->Option Value} {base:Heap} {c:Mine.CCs}
open Mine L2
theorem Mine.mks (A:AllF K mg c):tG P w K mg base "Letter" c.le 1 ["self","name"] (kR c.le nV)/\tG P w K mg base "Not" c.no 1 ["self","part"] (kR c.no sU)/\∀ u:W5,tG P w K mg base u.cls (c.fold u) 1 ["self","one","other"] (kQ (c.fold u)):=
 ⟨zP A.ile A.fx.nName,ok_iNot A.ino A.fx.nPart,λu=>FU (A.ifo u) (A.fx.nOne u) (A.fx.nOther u)⟩
theorem Mine.ms (A:AllF K mg c) (fv:mg "min"=none) (iC:mg "max"=none):Ms P w K mg base c:=by
 obtain ⟨kl,kn,kf⟩:=mks (P:=P) (w:=w) (base:=base) A
 have word:∀ t,bx P w K mg base (c.of t) "making_word" 1 ["self"] (eT c t):=by
  intro t;cases t with
  | never=>exact CS A.Kne_ne
  | always=>exact zH A.Kal_al
  | lp=>exact ok_wLp A.Kle_le A.fx
  | lq=>exact ok_wLq A.Kle_le A.fx
  | no t=>exact ok_wNot A.Kno_no
  | fold u a b =>
   cases u
   ·exact FJ A.F0mo_mo
   ·exact FK A.F0ls_ls
   ·exact xQ A.F0gr_gr
   ·exact zG A.F0lr_lr
   ·exact CT A.F0ld_ld
 have folded:∀ u,bx P w K mg base (c.fold u) "folded" 1 ["self","n","first","second"] (iM u):=by
  intro u;cases u
  ·exact FW A.F1mo_mo fv
  ·exact FX A.F1ls_ls iC
  ·exact xZ A.F1gr_gr iC
  ·exact zQ A.F1lr_lr fv
  ·exact Dp A.F1ld_ld fv
 refine ⟨λt=>?_,λt=>?_,λt=>?_⟩
 ·cases t with
  | never=>exact BG A.madeS_ne rfl
  | always=>exact BG A.madeS_al rfl
  | lp=>exact BG A.madeS_le rfl
  | lq=>exact BG A.madeS_le rfl
  | no t=>exact ok_mNot A.Mno_no A.fx
  | fold u a b=>exact FP (A.Mfo u) A.fx
 ·exact word t
 ·cases t with
  | never=>exact qG A.piecesS_ne rfl (word .never)
  | always=>exact qG A.piecesS_al rfl (word .always)
  | lp=>exact qG (t:=.lp) A.piecesS_le rfl (word .lp)
  | lq=>exact qG (t:=.lq) A.piecesS_le rfl (word .lq)
  | no t=>exact ok_pNot A.Pno_no A.fx
  | fold u a b=>exact FO (A.Pfo u) A.fx (word (.fold u a b))
end
open PySem PySem.W PyProof.Rows
structure Mine.LineX (K:Frag) (mg:Str->Option Value) (CN fI:Addr):Prop where
 m:mg "NoLine"=some (.ref CN)
 fe:L2.FunE K "__init__" "NoLine.__init__" Mine.fR fI
 xi:L2.pd K CN L2.bmV "ValueError.__new__" fI=true
 kc:keepIn K (.ref CN)=true
 fl:L2.qj K CN
 n1:L2.bL K CN "word"
 n2:L2.bL K CN "at"
 cc:L2.oB K CN
 su:mroIn K CN (.ref CN)=some true
theorem Mine.linex {P:Program} {w:World} {base:Heap} {K:Frag} {mg:Str->Option Value} {CN fI:Addr} (Z:Mine.LineX K mg CN fI):L2.XC2 P w K mg base "NoLine" CN "word" "at":=by
 obtain ⟨fdI,FI⟩:=Z.fe.ex;exact ⟨Z.m,Z.kc,⟨fI,fdI,_,Mine.ok_init FI Z.fl Z.n1 Z.n2,FI.binds (λ_ _ _ _ _ _=>L2.ar3 λ_ _ _=>rfl),Z.xi⟩,Z.fl,Z.n1,Z.n2⟩
theorem Mine.cls34 {K:Frag} {h:Heap} {mg:Str->Option Value} {CN fI aT:Addr} {c1:ClassData} {es:Array DictEntry} {ep:Nat} (X:K.In h) (G:h.Ns mainGlobals mg)
  (mCN:nsIn K mainGlobals "NoLine"=some (some (.ref CN)))
  (i0:findIn K (.ref CN) "__init__"=some (some (.ref fI)))
  (fe:L2.FunE K "__init__" "NoLine.__init__" Mine.fR fI)
  (xi:L2.pd K CN L2.bmV "ValueError.__new__" fI=true)
  (kc:keepIn K (.ref CN)=true)
  (xf:L2.ze K CN=true)
  (sa:findIn K (.ref CN) "__setattr__"=some (some (.builtin "object.__setattr__")))
  (n1:findIn K (.ref CN) "word"=some none)
  (n2:findIn K (.ref CN) "at"=some none)
  (e6:clsIn K CN=some c1)
  (e7:typeIn K (.ref CN)=some (.type "type"))
  (e8:mroIn K CN (.type "BaseException")=some true)
  (e9:findIn K (.ref CN) "__getattribute__"=some (some (.builtin "BaseException.__getattribute__")))
  (e10:findIn K (.ref CN) "__getattr__"=some none)
  (e12:findIn K (.ref CN) "__class__"=some (some (.builtin "object.__class__")))
  (e13:specialIn K (.builtin "object.__class__") "__get__"=some (some (.builtin "getset_descriptor.__get__")))
  (e14:takesIn K (.builtin "object.__class__")=some true)
  (e16:mroIn K CN (.type "object")=some true)
  (su:mroIn K CN (.ref CN)=some true)
  (qni:kitOne K (.type "NoneType") (.type "int")=some false)
  (qsi:kitOne K (.type "str") (.type "int")=some false)
  (qti:kitOne K (.type "tuple") (.type "int")=some false)
  (qbi:kitOne K (.type "bool") (.type "int")=some true)
  (qib:kitOne K (.type "int") (.type "bool")=some false)
  (qns:kitOne K (.type "NoneType") (.type "str")=some false)
  (qis:kitOne K (.type "int") (.type "str")=some false)
  (qbs:kitOne K (.type "bool") (.type "str")=some false)
  (qts:kitOne K (.type "tuple") (.type "str")=some false)
  (qnt:kitOne K (.type "NoneType") (.type "tuple")=some false)
  (qit:kitOne K (.type "int") (.type "tuple")=some false)
  (qst:kitOne K (.type "str") (.type "tuple")=some false)
  (qbt:kitOne K (.type "bool") (.type "tuple")=some false)
  (qlt:kitOne K (.type "list") (.type "tuple")=some false)
  (qdt:kitOne K (.type "dict") (.type "tuple")=some false)
  (t1:nsIn K mainGlobals "TAKEN"=some (some (.ref aT)))
  (t2:K.lookup aT=some ⟨.type "dict",none,.dict es ep,#[]⟩)
  (t3:(aT == sysModules)=false)
  (t4:KTD.Rows (λ(n:Int) v=>∃ t,v=Value.int n t) es.toList Mine.TK) :
  ∃ CN fI,Mine.LineX K mg CN fI/\L2.oh K mg "TAKEN" Mine.TK/\Mine.yV K:=
 ⟨CN,fI,⟨mg_of X G mCN,fe,xi,kc,L2.xfld_mk xf sa ⟨e9,e10,⟨_,e6⟩,e12,e13,e14,e8,e16⟩,n1,n2,⟨⟨_,e6⟩,e7,e8⟩,su⟩,L2.zj X G t1 t2 t3 t4,⟨qni,qsi,qti,qbi,qib,qns,qis,qbs,qts,qnt,qit,qst,qbt,qlt,qdt⟩⟩
abbrev Mine.Pg:=PySem.Challenge.rw_leansay_k34_whole_saying_line_rows_line.prog
namespace PySem.W.Fast
def tw725024639877410849:=0
def tw3757324140043220918:=0
def tw17076645053497592614:=0
def tw3551179321443753948:=0
def tw16548651240069224824:=0
def tw310250091276468215:=0
def tw9757056292508147249:=0
def tw9215708964711531289:=0
def tw10490567243376762701:=0
def tw3615080361098175810:=0
def tw8245211945018714040:=0
def tw2199061964130053830:=0
def tw17054146961898421829:=0
def tw7639001918815330994:=0
def tw18369223326555332479:=0
def tw14738511257887232529:=0
def tw3110821352426340437:=0
def tw11821301569783901986:=0
def tw9051572741419081993:=0
def tw5617034305670869768:=0
def tw16037543107209703178:=0
def tw14432706098839554072:=0
def tw7325191382547111573:=0
def tw13037343343426035717:=0
def tw14231737961774012628:=0
def tw9446413357748517424:=0
def tw17458719093261448891:=0
def tw18137324004881269449:=0
def tw10621011544903183441:=0
def tw5626706895107120713:=0
def tw1146130809064539617:=0
def tw8896286579372375473:=0
def tw15473465697100533965:=0
def tw3984483387348861454:=0
def tw17646794254667668149:=0
def tw6886369329464529467:=0
def tw8981703743948909949:=0
def tw8400385409115025115:=0
def tw13492334986143215357:=0
def tw12033056920348783031:=0
def tw10379107358360712539:=0
def tw11834787172387305849:=0
def tw8783873524990191458:=0
def tw17045923036898662897:=0
def tw4567187392214656909:=0
def tw12655087605085674754:=0
def tw17384758932944527715:=0
def tw9712632314472483005:=0
def tw13544220075574866924:=0
def tw10179528006416326428:=0
def tw10247203121188548987:=0
def tw11396233610435059471:=0
def tw17361717920202302785:=0
def tw16001227624184732356:=0
def tw17475220873420800439:=0
def tw2905674530211012789:=0
def tw9046984064494473206:=0
def tw1180029986522157687:=0
def tw4376175274148661245:=0
def tw5394246150431379353:=0
def tw11364307876952903225:=0
def tw13069027221309126135:=0
def tw16706143097438496689:=0
def tw10577092232581897565:=0
def tw14844402525132674951:=0
def tw5311332742960559666:=0
def tw2788920439419897139:=0
def tw13389554466397175376:=0
def tw1243485632994240368:=0
def tw15585320204008035957:=0
def tw3386360510403859662:=0
def tw12624007923407211766:=0
def tw8541623274452295635:=0
def tw16785935424659202450:=0
def tw10950046309424487650:=0
def tw12781424811584982378:=0
def tw10533287543904113176:=0
def tw5387011457916891401:=0
def tw10971383033105528611:=0
def tw4078622686186737321:=0
def tw4251117061331506379:=0
def tw13902339796393148474:=0
def tw493217595439550066:=0
def tw12267487572211120706:=0
def tw6486859635181968176:=0
def tw1977243200365415367:=0
def tw13764449308626229363:=0
def tw5117377286554835895:=0
def tw5652644290825341311:=0
def tw12169330814142013352:=0
def tw16768419974423618693:=0
def tw11867671495911263031:=0
def tw3628947318130159872:=0
def tw6904168456422611976:=0
def tw2929217474836530614:=0
def tw17201575599993514338:=0
def tw11166341365223290780:=0
def tw12693053008074511422:=0
def tw6694627642293075026:=0
def tw2147111706231120253:=0
def tw8271544853069282477:=0
def tw17416876732006030906:=0
def tw4246294427838660789:=0
def tw9328473593033463817:=0
def tw11285820066382283601:=0
def tw9467275260601309127:=0
def tw6173721940343645877:=0
def tw17505327408510116765:=0
def tw166862490134027245:=0
def tw13482999593213193016:=0
def tw13813974433268413867:=0
def tw6208848891051657962:=0
def tw10506203296536005304:=0
def tw15820405908266753556:=0
def tw17324624425200163594:=0
def tw17881979599845905636:=0
def tw10246156768247906811:=0
def tw7358155349074656946:=0
def tw14471222551200096787:=0
def tw13995777780325629794:=0
def tw13980783221087800817:=0
def tw9724877738777174216:=0
def tw13885838933581611587:=0
def tw6043300879698337312:=0
def tw9442328989573049957:=0
def tw4133844768872432113:=0
def tw17125199169602138235:=0
def tw5532610110223534156:=0
def tw1436500966638359619:=0
def tw18408720620591219775:=0
def tw11508465841806032936:=0
def tw9961453025669332508:=0
def tw4816575400451024284:=0
def tw2605117390100129036:=0
def tw9322071063224363021:=0
def tw6645877842655778541:=0
def tw9220928360137903586:=0
def tw2817166005540845516:=0
def tw741527548573686667:=0
def tw11299644175506615630:=0
def tw7576922717082782052:=0
def tw10629772933485122533:=0
def tw10211407826459129383:=0
def tw17067420173368288265:=0
def tw16762408333019475262:=0
def tw17593601972896044926:=0
def tw14805312764589731015:=0
def tw6302496547096793223:=0
def tw4509835385411006200:=0
def tw295416936164184359:=0
def tw7968489849867762197:=0
def tw13265082916328360792:=0
def tw6874325196418583558:=0
def tw7682261970023228690:=0
def tw3880312365431924644:=0
def tw13771616646878791004:=0
def tw6280922623918707905:=0
def tw13973156400734511214:=0
def tw11446249942284385021:=0
def tw144018445221495864:=0
def tw6603714537488722415:=0
def tw7721917211194888297:=0
def tw2018962290308426283:=0
def tw16651436988051398639:=0
def tw5370546737359572386:=0
def tw15375824029989365537:=0
def tw9574746317997508606:=0
def tw12976103258675988984:=0
def tw6917037400159352703:=0
def tw1104866211003605972:=0
def tw14660973922309986961:=0
def tw11171923201216442504:=0
def tw8186588802550941553:=0
def tw8083567470375259010:=0
def tw6025219929573213540:=0
def tw2101088519979558124:=0
def tw16685226806207303720:=0
def tw9000733000258666085:=0
def tw16728409545182679871:=0
def tw2846406020815862401:=0
def tw3226257803422301188:=0
def tw10185894187290429673:=0
def tw7421592966826389720:=0
def tw17959999801562980899:=0
def tw13298308549009234961:=0
def tw16441922503529086521:=0
def tw4798324091578695446:=0
def tw7233582750506158572:=0
def tw13548342931049954658:=0
def tw17095122773153465662:=0
def tw10744704582745217937:=0
def tw12205488478812600805:=0
def tw1768994796173851766:=0
def tw12713744532857460941:=0
def tw7239739612252528798:=0
def tw2462209955328218868:=0
def tw15763774923285909568:=0
def tw10017926140856600965:=0
def tw14973663009300631320:=0
def tw8882353779096077631:=0
def tw9987187012326235463:=0
def tw2225348839341404609:=0
def tw2781122125075832464:=0
def tw12672815281622901004:=0
def tw2150699440620772905:=0
def tw12212263440887902094:=0
def tw17256533926275684891:=0
def tw15577606411984915268:=0
def tw1386321386726853661:=0
def tw11761225145030285974:=0
def tw11212334731365516722:=0
def tw14752153105786948046:=0
def tw15130005634576459798:=0
def tw5920159420648250246:=0
def tw16023424157296823094:=0
def tw17659809747924610032:=0
def tw9415591007012954051:=0
def tw3618773131816927640:=0
def tw7688207374971062483:=0
def tw7249321910136578960:=0
def tw10080965977750538967:=0
def tw1753265304631032282:=0
def tw11713157001871692893:=0
def tw6651600191321132642:=0
def tw11063133696788903261:=0
def tw16224884359393712914:=0
def tw17697643572100954592:=0
def tw2759771344743266993:=0
def tw6613833630526609211:=0
def tw5374394107400890233:=0
def tw4848571769742122321:=0
def tw8458480623084844236:=0
def tw11186265571735414048:=0
def tw4524868820172806626:=0
def tw7218817478940579788:=0
def tw8241079660112409950:=0
def tw2068810050792941118:=0
def tw2036806462813444733:=0
def tw16780840225693239328:=0
def tw5347243709344457366:=0
def tw17583579017523040251:=0
def tw6940131508846024563:=0
def tw3374196526759032356:=0
def tw16364176203042956426:=0
def tw16422401959623016309:=0
def tw521367154496708620:=0
def tw7248219915309155942:=0
def tw3585786555105408683:=0
def tw7693469359623702156:=0
def tw7068837948440816453:=0
def tw16204370915211078170:=0
def tw815849838167793910:=0
def tw2100112812022288771:=0
def tw1982095653773491890:=0
def tw16146180938232116753:=0
def tw11242321099397025475:=0
def tw11952785309257364437:=0
def tw13152845283601434377:=0
def tw9615091675054813823:=0
def tw7785051960773750034:=0
def tw16747994607770690167:=0
def tw1676010365626263703:=0
def tw17685890613355070044:=0
def tw12996914774520089257:=0
def tw12288199738921129804:=0
def tw9055812262089817671:=0
def tw16954210002900328124:=0
def tw4291595070571979329:=0
def tw16037216420044878563:=0
def tw13614497002408375246:=0
def tw10683771363729123426:=0
def tw8823001658795976443:=0
def tw16659752831287662978:=0
def tw11099486234045472520:=0
def tw18003208922070199528:=0
def tw7740138911306745596:=0
def tw16281690751389268326:=0
def tw9577612663503096265:=0
def tw3428076641807887212:=0
def tw13396486534560120646:=0
def tw5538529546612372663:=0
def tw10286335112189485208:=0
def tw5304651753524523869:=0
def tw5622805895593978208:=0
def tw11956631299844906286:=0
def tw18314224821928520746:=0
def tw9994051835487349462:=0
def tw18071961653622769234:=0
def tw4677808114247241176:=0
def tw18046741355856170867:=0
def tw8198898268040445989:=0
def tw11554972898971212524:=0
def tw12468772271464065061:=0
def tw3495026198694478121:=0
def tw3035781636931509900:=0
def tw16746093990629944743:=0
def tw1829371052099980121:=0
def tw10939955270172797528:=0
def tw10506543445638759669:=0
def tw382012617540977130:=0
def tw688107253263142230:=0
def tw16870515513321980401:=0
def tw17277586807062169238:=0
def tw2737818682968158164:=0
def tw13212016116911456316:=0
def tw11989093421131187998:=0
def tw9940622373601047930:=0
def tw8606024523487731114:=0
def tw11827718253378957903:=0
def tw2651046443375009783:=0
def tw16962457246666409957:=0
def tw785192666947270948:=0
def tw15833565056505033625:=0
def tw7655445315587005244:=0
def tw12939013903539978787:=0
def tw6386545554028470667:=0
def tw12439789014872384299:=0
def tw5562093158534802828:=0
def tw7231083232651959495:=0
def tw3002569543833264405:=0
def tw7207272495982804523:=0
def tw980603041611513405:=0
def tw14730227818085722334:=0
def tw4453894387381468659:=0
def tw6376562374873472099:=0
def tw8511865485598129413:=0
def tw6112728752054652053:=0
def tw12562334371586949521:=0
def tw14088281502700616312:=0
def tw18136060911511922025:=0
def tw354032036236395781:=0
def tw9982981168888439898:=0
def tw14846297411348390205:=0
def tw16041300711278836037:=0
def tw1044747972907379349:=0
def tw11218434533982189289:=0
def tw1935614648179668255:=0
def tw3339832288841222338:=0
def tw9999934590819356518:=0
def tw16666573091873660290:=0
def tw2497155439804849097:=0
def tw13647572995160164578:=0
def tw16870629854821180126:=0
def tw11178095068717181994:=0
def tw17033372423812499357:=0
def tw18311014444963846170:=0
def tw8548886723726696682:=0
def tw13795673592066700921:=0
def tw14110271699813276868:=0
def tw4867213487898640837:=0
def tw1980577354172296330:=0
def tw3153429912903533111:=0
def tw14813016343068949464:=0
def tw3000008992735716093:=0
def tw864588674805866389:=0
def tw6794005550280748084:=0
def tw8389615113031579510:=0
def tw12117982320511938218:=0
def tw14255840459786447145:=0
def tw17331918394842695064:=0
def tw10071436193964417796:=0
def tw12169290132223178599:=0
def tw13432694111236903857:=0
def tw9612352132151933432:=0
def tw16049996758105543234:=0
def tw16114039237725365543:=0
def tw764472009024310370:=0
def tw13223938241804153282:=0
def tw16501412821383299480:=0
def tw8412573374236714295:=0
def tw933114565354915127:=0
def tw10279653028082596376:=0
def tw10971350057293050285:=0
def tw5436646124055449899:=0
def tw7120754174098320464:=0
def tw14105717811995972476:=0
def tw1893090468987538080:=0
def tw4486778819334746004:=0
def tw14078045132308028379:=0
def tw5698113738130011076:=0
def tw4637801789309391618:=0
def tw10514550759138364629:=0
def tw4889287295276421388:=0
def tw7127033507812295127:=0
def tw2204476934848298362:=0
def tw9727671907508368800:=0
def tw17009594179651827219:=0
def tw6728628664298093952:=0
def tw7459856107446051500:=0
def tw14770918905834988163:=0
def tw13616920824293018562:=0
def tw6169044892649727192:=0
def tw14477806473538639241:=0
def tw387102729682537742:=0
def tw9899133927615660588:=0
def tw17096309870924539068:=0
def tw14651303334179301461:=0
def tw16324850985942818970:=0
def tw1212629347973662487:=0
def tw7867377387013438351:=0
def tw16825176147387463364:=0
def tw18036055096622569301:=0
def tw4439889284194569752:=0
def tw12967407005077097294:=0
def tw11812074000057841076:=0
def tw131391250429853694:=0
def tw12767486797059327705:=0
def tw7345188072833676816:=0
def tw7513359773835696736:=0
def tw16447890680392897956:=0
def tw12738334007746398096:=0
def tw8380399794808934687:=0
def tw8905181659755800244:=0
def tw17355127365799062261:=0
def tw17642306231577924076:=0
def tw7315380828874589792:=0
def tw1228632892873015899:=0
def tw17322049184010807660:=0
def tw4756495805365695312:=0
def tw486439374252938200:=0
def tw7756280910583688563:=0
def tw18175058565985123129:=0
def tw5627876295908732156:=0
def tw763384452805027517:=0
def tw18376073503902062496:=0
def tw3076645211068571122:=0
def tw11751594823776914663:=0
def tw15909940514174919452:=0
def tw17589426111277213015:=0
def tw16260918543104258498:=0
def tw2588210506273085712:=0
def tw4511508619411881729:=0
def tw6510734880813054115:=0
def tw10640620322281546721:=0
def tw13854773519753223907:=0
def tw12721235117898754287:=0
def tw14333978303447741651:=0
def tw14613580771237575791:=0
def tw1216711308892463109:=0
def tw350208872962374629:=0
def tw2895330117711090868:=0
def tw1458505598874221594:=0
def tw9381951987780817950:=0
def tw16673192696329364786:=0
def tw4367969745791671055:=0
def tw12163586942745170731:=0
def tw3222247627428321792:=0
def tw2736834540058814429:=0
def tw12605550841710016584:=0
def tw8803733741076665288:=0
def tw241751350490959408:=0
def tw5654056221231034353:=0
def tw12374468542758373096:=0
def tw4777016460665574021:=0
def tw10102748777665942626:=0
def tw12028821367354917183:=0
def tw14291511545631867143:=0
def tw15898606516442875653:=0
def tw16779246837384515657:=0
def tw3118610614065480100:=0
def tw5092454091220101900:=0
def tw12957549374022748429:=0
def tw14296046832587255991:=0
def tw14508935656305851017:=0
def tw17824884561562572648:=0
def tw9717956107455615314:=0
def tw8469377841192521795:=0
def tw9895150473428669421:=0
def tw1414212806545806793:=0
def tw12097908200234397320:=0
def tw16593148413005365898:=0
def tw15297530101162793376:=0
def tw15948846174323299660:=0
def tw2346703415993964653:=0
def tw15461104019951981088:=0
def tw10844697027919070989:=0
def tw16970132031093281511:=0
def tw9745368785165032086:=0
def tw11950053015715254233:=0
def tw15958486885051019868:=0
def tw17401680155452178845:=0
def tw185183183856516258:=0
def tw7325980058970109409:=0
def tw11610424224303198469:=0
def tw428225670360571365:=0
def tw2060587390337966710:=0
def tw11392879197243700668:=0
def tw2621094285716690217:=0
def tw4705472646874984485:=0
def tw17166621231159779958:=0
def tw14087484069562207176:=0
def tw13572893432105455957:=0
def tw12385435802158210415:=0
def tw13380125773476949491:=0
def tw14309835379696984279:=0
def tw1508582673123783611:=0
def tw16254128948817862047:=0
def tw16396728997442772086:=0
def tw6857581675564749455:=0
def tw7917005669812510147:=0
def tw8549756240002102352:=0
def tw8931661867304478182:=0
def tw9335982803079562519:=0
def tw12781470358197080700:=0
def tw17291972991445712355:=0
def tw2828379130531695466:=0
def tw6062454715992681861:=0
def tw6583542007818196675:=0
def tw17289515118231399958:=0
def tw2211264278868134437:=0
def tw3723347037694915863:=0
def tw12880167341442819378:=0
def tw9919269969963306302:=0
def tw16917685064043952256:=0
def tw3175964177258408258:=0
def tw11032572588274684247:=0
def tw14114893999735090425:=0
def tw12015671790796433959:=0
def tw497653496103354454:=0
def tw785972079261831457:=0
def tw17932142446619747778:=0
def tw2071452317790396387:=0
def tw7222870909998585111:=0
def tw16482576241121362097:=0
def tw2425119392910278163:=0
def tw18230904883118208503:=0
def tw10463281364053507111:=0
def tw14904005415632540054:=0
def tw9737968212758951527:=0
def tw10690070011726603295:=0
def tw11212326297485223956:=0
def tw12812250061656646495:=0
def tw13590120133021470571:=0
def tw13643049506759491578:=0
def tw15854412606824356080:=0
def tw17132551302559178125:=0
def tw1719485287495779647:=0
def tw1735250554152054750:=0
def tw1976524473419176507:=0
def tw216663047048646482:=0
def tw2495138551551381459:=0
def tw3117784017787557112:=0
def tw380703357499166953:=0
def tw3975404726461469290:=0
def tw4452922467307849036:=0
def tw5490459347095118002:=0
def tw5709098123583373689:=0
def tw5836085308964775337:=0
def tw6026481482037853015:=0
def tw6635915254568841891:=0
def tw6644744523763886990:=0
def tw698818916717770955:=0
def tw7762033651281605653:=0
def tw8547658598759094030:=0
def tw10061203282574336034:=0
def tw14717567529000791925:=0
def tw9903938930006420427:=0
def tw10696283248249658714:=0
def tw11274844564269078842:=0
def tw13047748646732071932:=0
def tw13812745481865073514:=0
def tw14188526811927626066:=0
def tw15449775467050123120:=0
def tw16875535854048786938:=0
def tw4744991501286600212:=0
def tw4973368160415991283:=0
def tw5163635535251595409:=0
def tw5576844645219757656:=0
def tw7083719292973775320:=0
def tw7599466364088976682:=0
def tw7829319858381027543:=0
def tw9063823215022877301:=0
def tw9861043428844757700:=0
def tw12864477591871732978:=0
def tw7117447271309817508:=0
def tw10015391263896852117:=0
def tw10926636113426439719:=0
def tw12003787281999268353:=0
def tw14213478237836776057:=0
def tw14711006917428184475:=0
def tw16042650327246838227:=0
def tw17230407007505216041:=0
def tw2219119814013639840:=0
def tw3205826837497049460:=0
def tw3838901021622367886:=0
def tw4276518300188540883:=0
def tw4630686937268256865:=0
def tw5152015812945740344:=0
def tw5196370351721149602:=0
def tw5889761243666254107:=0
def tw8095205205594668804:=0
def tw7195337695059100535:=0
def tw10130245294491533214:=0
def tw10801297141550663310:=0
def tw10964061585031039690:=0
def tw12829351039494985572:=0
def tw13603232118026632747:=0
def tw13670786485894460620:=0
def tw13914513109458098178:=0
def tw1455684559916176453:=0
def tw14685340302704360325:=0
def tw14886382309103851555:=0
def tw17380779638845223086:=0
def tw3551253195101658383:=0
def tw4067716151082148217:=0
def tw6941470339405790948:=0
def tw10230351135982631263:=0
def tw10540393753448837339:=0
def tw10947708574821678155:=0
def tw1115509100817562549:=0
def tw11535758170023222570:=0
def tw12106251686017098569:=0
def tw13093938492660557819:=0
def tw13671522722637432391:=0
def tw14954664253195010281:=0
def tw1636053236576993898:=0
def tw18389663375211175662:=0
def tw5756382805139388037:=0
def tw6991420702784469706:=0
def tw8284263417736939724:=0
def tw8362904335905439971:=0
def tw9260119562002741704:=0
def tw1255721804034292975:=0
def tw12717562398220377643:=0
def tw12843068363380059846:=0
def tw12862839621246217749:=0
def tw1301183408865995087:=0
def tw13136629129619382070:=0
def tw13266355040112474113:=0
def tw13405592525002712185:=0
def tw1366622407570765171:=0
def tw13727108936805303941:=0
def tw13826309068590561939:=0
def tw13933102190616168766:=0
def tw14070891838005353594:=0
def tw14221220135963107340:=0
def tw14334947213807192954:=0
def tw14386392996264409135:=0
def tw14406906528317967899:=0
def tw14480907484964607127:=0
def tw14548911810481861239:=0
def tw14614872743036954493:=0
def tw14635214515828619877:=0
def tw14638902413636666184:=0
def tw14778008227678541786:=0
def tw14996187354532809834:=0
def tw15001946337225437588:=0
def tw15236351096047742582:=0
def tw15246925835301509210:=0
def tw15319366832297640199:=0
def tw15406831469627691583:=0
def tw15487100106952790886:=0
def tw15549668740308197384:=0
def tw15551511925594088903:=0
def tw15799765674586635903:=0
def tw15822732592397871744:=0
def tw15863419058012242992:=0
def tw15878694965801778950:=0
def tw15904761473380781029:=0
def tw15938301794272373764:=0
def tw1597328434365060792:=0
def tw16140125480992055718:=0
def tw16152535484352332346:=0
def tw16250124020204380954:=0
def tw16257463606078038830:=0
def tw16279533595945937156:=0
def tw16291098147923951559:=0
def tw16368715941173523303:=0
def tw16372024297380419286:=0
def tw16462390463731592436:=0
def tw16639221382325906829:=0
def tw16763137841401537915:=0
def tw16772082253592742483:=0
def tw16998025585054688987:=0
def tw1704071096650315304:=0
def tw17313940538366820288:=0
def tw17377823667697207408:=0
def tw17424318697440193457:=0
def tw17456291394960047696:=0
def tw17472895303285721031:=0
def tw17569705175646114494:=0
def tw1767478482396612764:=0
def tw17750578015979772234:=0
def tw17806082866705430057:=0
def tw17928482936192625227:=0
def tw1797868036399830102:=0
def tw18035541091824163275:=0
def tw18156850251244980348:=0
def tw18207155158048282512:=0
def tw18323293111754073269:=0
def tw18434287313732369854:=0
def tw18436429141619667735:=0
def tw1850459198649686391:=0
def tw1964069360321017951:=0
def tw2019768305701323488:=0
def tw2021406500874422060:=0
def tw204364668426079074:=0
def tw2179059916235100067:=0
def tw2180943923955075279:=0
def tw2214438595718744557:=0
def tw2300497707888319339:=0
def tw2308333989721747467:=0
def tw2338512883342233261:=0
def tw241011445888882658:=0
def tw2453050616082179889:=0
def tw2529160480539317273:=0
def tw2533302792540720428:=0
def tw264405011070196268:=0
def tw2647881112798419617:=0
def tw2681504725879817357:=0
def tw2799851243177069585:=0
def tw2862764457439199027:=0
def tw2955662604883272647:=0
def tw3040116522090458656:=0
def tw3041836500757375282:=0
def tw3052513131579694449:=0
def tw3198227272119705856:=0
def tw3381749322695227992:=0
def tw34039177044044831:=0
def tw3409251970826006774:=0
def tw3456153460205213869:=0
def tw3465359310574857206:=0
def tw3497000786337286139:=0
def tw3688210752474662117:=0
def tw3715329742092719067:=0
def tw3759585480061251453:=0
def tw4163937931534294100:=0
def tw421376292621247738:=0
def tw4214998628759617249:=0
def tw4241378927820135591:=0
def tw4295422175968096008:=0
def tw4317590324548209632:=0
def tw4355918869537539604:=0
def tw4359759423424340883:=0
def tw4491915575912843256:=0
end PySem.W.Fast
open PySem PySem.W PyProof.Rows
set_option hygiene false
local macro_rules | `(tactic| walk_at "td") => `(tactic| (dsimp only [L2.KOf];refine' L2.aQ KX G ?a ?l ?c ?k;(case a=>k_is);(case l=>k_is);(case c=>k_is);(case k=>k_is)))
local macro_rules | `(tactic| walk_at "fe") => `(tactic| (refine' L2.bD ?l ?c ?k ?fn;(case l=>k_is);(case c=>k_is);(case k=>k_is);(case fn=>k_is)))
set_option hygiene true
set_option maxRecDepth 100000 in
set_option maxHeartbeats 0 in
theorem PySem.Challenge.cw_leansay_k34_whole_saying_line_rows_line_holds : PySem.Challenge.rw_leansay_k34_whole_saying_line_rows_line.Holds := by
 w_on;o_law;k_head;(case hw=>w_witness2)
 k_fill
 refine L2.CA (l:=PySem.Challenge.rw_leansay_k34_whole_saying_line_rows_line) (n:=63) (k:=160) (x:="_law_script") (CX:=L2.CX0) (sp:=Mine.spLaw) rfl (by decide) rfl ⟨rfl,by decide,by decide⟩ (λw h Y=>PySem.W.kIn_of Y) ?F ?S ?C
 case F =>
  intro w mg fa h KX G hmg
  have qm:L2.au (L2.KOf KX) mg "common_factor" Mine.gp:=by walk_at "td"
  have AR:L2.au (L2.KOf KX) mg "fraction" Mine.mG:=by walk_at "td"
  have T_less:L2.au (L2.KOf KX) mg "less" Mine.zx:=by walk_at "td"
  have wB:L2.au (L2.KOf KX) mg "is_outside" Mine.jm:=by walk_at "td"
  have oi:L2.au (L2.KOf KX) mg "told_by_stretch" Mine.eV:=by walk_at "td"
  have HB:L2.au (L2.KOf KX) mg "joined" Mine.rS:=by walk_at "td"
  have ue:L2.au (L2.KOf KX) mg "put_steeper" Mine.iF:=by walk_at "td"
  have yT:L2.au (L2.KOf KX) mg "flat_rows" Mine.jY:=by walk_at "td"
  have qk:L2.au (L2.KOf KX) mg "straight_rows" Mine.bV:=by walk_at "td"
  have HD:L2.au (L2.KOf KX) mg "is_out" Mine.rT:=by walk_at "td"
  have qc:L2.au (L2.KOf KX) mg "must_stay" Mine.ir:=by walk_at "td"
  have jf:L2.au (L2.KOf KX) mg "must_lead_back" Mine.dI:=by walk_at "td"
  have T_moved:L2.au (L2.KOf KX) mg "moved" Mine.jl:=by walk_at "td"
  have ql:L2.au (L2.KOf KX) mg "put_straights" Mine.bW:=by walk_at "td"
  have wA:L2.au (L2.KOf KX) mg "put_folded" Mine.jk:=by walk_at "td"
  have ug:L2.au (L2.KOf KX) mg "is_below_at" Mine.iH:=by walk_at "td"
  have AQ:L2.au (L2.KOf KX) mg "is_below" Mine.mF:=by walk_at "td"
  have kG:L2.au (L2.KOf KX) mg "rows_of_line" Mine.cJ:=by walk_at "td"
  have AJ:L2.au (L2.KOf KX) mg "straight" Mine.mz:=by walk_at "td"
  have tj:L2.au (L2.KOf KX) mg "side_by_side" Mine.gT:=by walk_at "td"
  have T_added:L2.au (L2.KOf KX) mg "added" Mine.nC:=by walk_at "td"
  have Hv:L2.au (L2.KOf KX) mg "turned" Mine.jP:=by walk_at "td"
  have Hw:L2.au (L2.KOf KX) mg "raised" Mine.jQ:=by walk_at "td"
  have lQ:L2.au (L2.KOf KX) mg "greater_stretches" Mine.bY:=by walk_at "td"
  have tF:L2.au (L2.KOf KX) mg "greater_line" Mine.gY:=by walk_at "td"
  have uf:L2.au (L2.KOf KX) mg "lesser_line" Mine.iG:=by walk_at "td"
  have DY:L2.au (L2.KOf KX) mg "cut_off" Mine.oN:=by walk_at "td"
  have AO:L2.au (L2.KOf KX) mg "is_whole" Mine.mE:=by walk_at "td"
  have lP:L2.au (L2.KOf KX) mg "how_many_it_takes" Mine.dR:=by walk_at "td"
  have pD:L2.au (L2.KOf KX) mg "is_place_ahead" Mine.fD:=by walk_at "td"
  have HC:L2.au (L2.KOf KX) mg "is_row" Mine.gX:=by walk_at "td"
  have wz:L2.au (L2.KOf KX) mg "rows_fault" Mine.jj:=by walk_at "td"
  have tw:L2.au (L2.KOf KX) mg "must_be_rows" Mine.gU:=by walk_at "td"
  have DT:L2.au (L2.KOf KX) mg "rows_of" Mine.fB:=by walk_at "td"
  have yP:L2.au (L2.KOf KX) mg "leaf_line" Mine.jR:=by walk_at "td"
  have yS:L2.au (L2.KOf KX) mg "fold_line" Mine.jX:=by walk_at "td"
  have AK:L2.au (L2.KOf KX) mg "row_line" Mine.mB:=by walk_at "td"
  have yQ:L2.au (L2.KOf KX) mg "last_line" Mine.jT:=by walk_at "td"
  have lO:L2.au (L2.KOf KX) mg "must_be_without_q" Mine.dQ:=by walk_at "td"
  have DU:L2.au (L2.KOf KX) mg "line_of" Mine.oG:=by walk_at "td"
  have tD:L2.au (L2.KOf KX) mg "line_of_rows" Mine.gW:=by walk_at "td"
  have HA:L2.au (L2.KOf KX) mg "_law_cell" Mine.jW:=by walk_at "td"
  have DW:L2.au (L2.KOf KX) mg "_law_whole" Mine.oJ:=by walk_at "td"
  have T_l_row:L2.au (L2.KOf KX) mg "_law_row" Mine.cT:=by walk_at "td"
  have DX:L2.au (L2.KOf KX) mg "_law_fault" Mine.oK:=by walk_at "td"
  have Hz:L2.au (L2.KOf KX) mg "_law_fold" Mine.ER:=by walk_at "td"
  have DV:L2.au (L2.KOf KX) mg "_law_worth" Mine.oH:=by walk_at "td"
  have Hy:L2.au (L2.KOf KX) mg "_law_size" Mine.jU:=by walk_at "td"
  have Hx:L2.au (L2.KOf KX) mg "_law_tree" Mine.eW:=by walk_at "td"
  have AM:L2.au (L2.KOf KX) mg "_law_saying" Mine.mC:=by walk_at "td"
  have AN:L2.au (L2.KOf KX) mg "_law_height" Mine.mD:=by walk_at "td"
  have tE:L2.au (L2.KOf KX) mg "_law_rows_right" Mine.ck:=by walk_at "td"
  have pC:L2.au (L2.KOf KX) mg "_law_saying_worth" Mine.dJ:=by walk_at "td"
  have yR:L2.au (L2.KOf KX) mg "_law_refused" Mine.jV:=by walk_at "td"
  have T_law:L2.au (L2.KOf KX) mg "law" Mine.jS:=by walk_at "td"
  have aU:mg "len"=none:=by
   refine' PySem.W.mg_none_of KX G ?z;(case z=>k_is)
  have iD:mg "abs"=none:=by
   refine' PySem.W.mg_none_of KX G ?z;(case z=>k_is)
  have aX:mg "isinstance"=none:=by
   refine' PySem.W.mg_none_of KX G ?z;(case z=>k_is)
  have pB:mg "bool"=none:=by
   refine' PySem.W.mg_none_of KX G ?z;(case z=>k_is)
  have vn:mg "int"=none:=by
   refine' PySem.W.mg_none_of KX G ?z;(case z=>k_is)
  have vm:mg "str"=none:=by
   refine' PySem.W.mg_none_of KX G ?z;(case z=>k_is)
  have bO:mg "tuple"=none:=by
   refine' PySem.W.mg_none_of KX G ?z;(case z=>k_is)
  have cx:mg "range"=none:=by
   refine' PySem.W.mg_none_of KX G ?z;(case z=>k_is)
  have AI:mg "list"=none:=by
   refine' PySem.W.mg_none_of KX G ?z;(case z=>k_is)
  have fv:mg "min"=none:=by
   refine' PySem.W.mg_none_of KX G ?z;(case z=>k_is)
  have iC:mg "max"=none:=by
   refine' PySem.W.mg_none_of KX G ?z;(case z=>k_is)
  have vo:mg "all"=none:=by
   refine' PySem.W.mg_none_of KX G ?z;(case z=>k_is)
  have Hu:mg "any"=none:=by
   refine' PySem.W.mg_none_of KX G ?z;(case z=>k_is)
  have vk:mg "sum"=none:=by
   refine' PySem.W.mg_none_of KX G ?z;(case z=>k_is)
  have bu:mg "enumerate"=none:=by
   refine' PySem.W.mg_none_of KX G ?z;(case z=>k_is)
  have kb:kitOne (L2.KOf KX) (.type "int") (.type "bool")=some false:=by
   dsimp only [L2.KOf]
   first | k_is | kit_is
  have AA:∃ c,Mine.AllF (L2.KOf KX) mg c:=by
   dsimp only [L2.KOf];refine' Mine.all_mk KX G ?zaa ?zab ?zac ?zad ?zae ?zaf ?zag ?zah ?zai ?zaj ?zak ?zal ?zam ?zan ?zao ?zap ?zaq ?zar ?zas ?zat ?zau ?zav ?zaw ?zax ?zay ?zaz ?zba ?zbb ?zbc ?zbd ?zbe ?zbf ?zbg ?zbh ?zbi ?zbj ?zbk ?zbl ?zbm ?zbn ?zbo ?zbp ?zbq ?zbr ?zbs ?hn ?tk ?zbt ?zbu ?zbv ?zbw ?zbx ?zby ?zbz ?zca ?zcb ?zcc ?zcd ?zce ?zcf ?zcg ?zch ?zci ?zcj ?zck ?zcl ?zcm ?zcn ?zco ?zcp ?zcq ?zcr ?zcs ?zct ?zcu ?zcv ?zcw ?zcx ?zcy ?zcz ?zda ?zdb ?zdc ?zdd ?zde ?zdf ?zdg ?zdh ?zdi ?zdj ?zdk ?zdl ?zdm ?zdn ?zdo ?zdp ?zdq ?zdr ?zds ?zdt ?zdu ?zdv ?zdw ?zdx ?zdy ?zdz ?zea ?zeb ?zec ?zed ?zee ?zef ?zeg ?zeh ?zei ?zej ?zek ?zel ?zem ?zen ?zeo ?zep ?zeq ?zer ?zes ?zet ?zeu ?zev ?zew ?zex ?zey ?zez ?zfa ?zfb ?zfc ?zfd ?zfe ?zff ?zfg ?zfh ?zfi ?zfj ?zfk ?zfl ?zfm ?zfn ?zfo ?zfp ?zfq ?zfr ?zfs ?zft ?zfu ?zfv ?zfw ?zfx ?zfy ?zfz ?zga ?zgb ?zgc
   (case zaa|zab|zac|zad|zae|zaf|zag|zah|zai=>k_is)
   (case zaj|zak|zal|zam|zan|zao|zap|zaq|zar=>refine' ⟨?q1,?q2,?q3,?q4⟩;(case q1|q2|q3|q4=>k_is))
   (case zas|zat|zau|zav|zaw|zax|zay|zaz|zba|zbb|zbc|zbd|zbe|zbf|zbg|zbh|zbi|zbj=>k_is)
   (case zbk|zbl|zbm|zbn|zbo|zbp|zbq|zbr|zbs=>first | k_is | kit_is)
   (case hn|tk|zbt|zbu|zbv|zbw|zbx|zby|zbz|zca|zcb|zcc|zcd|zce|zcf|zcg|zch=>k_is)
   (case zci=>walk_at "fe")
   (case zcj|zck|zcl=>k_is)
   (case zcm=>walk_at "fe")
   (case zcn|zco|zcp|zcq|zcr|zcs|zct|zcu|zcv=>k_is)
   (case zcw=>walk_at "fe")
   (case zcx|zcy|zcz|zda|zdb|zdc|zdd|zde|zdf=>k_is)
   (case zdg=>walk_at "fe")
   (case zdh=>k_is)
   (case zdi=>walk_at "fe")
   (case zdj=>k_is)
   (case zdk=>walk_at "fe")
   (case zdl=>k_is)
   (case zdm=>walk_at "fe")
   (case zdn=>k_is)
   (case zdo=>walk_at "fe")
   (case zdp=>k_is)
   (case zdq=>walk_at "fe")
   (case zdr=>k_is)
   (case zds=>walk_at "fe")
   (case zdt|zdu|zdv|zdw|zdx=>k_is)
   (case zdy=>walk_at "fe")
   (case zdz|zea|zeb|zec|zed=>k_is)
   (case zee=>walk_at "fe")
   (case zef=>k_is)
   (case zeg=>walk_at "fe")
   (case zeh=>k_is)
   (case zei=>walk_at "fe")
   (case zej=>k_is)
   (case zek=>walk_at "fe")
   (case zel=>k_is)
   (case zem=>walk_at "fe")
   (case zen=>k_is)
   (case zeo=>walk_at "fe")
   (case zep=>k_is)
   (case zeq=>walk_at "fe")
   (case zer=>k_is)
   (case zes=>walk_at "fe")
   (case zet=>k_is)
   (case zeu=>walk_at "fe")
   (case zev=>k_is)
   (case zew=>walk_at "fe")
   (case zex=>k_is)
   (case zey=>walk_at "fe")
   (case zez=>k_is)
   (case zfa=>walk_at "fe")
   (case zfb=>k_is)
   (case zfc=>walk_at "fe")
   (case zfd|zfe|zff|zfg|zfh=>k_is)
   (case zfi=>walk_at "fe")
   (case zfj|zfk|zfl|zfm|zfn|zfo|zfp|zfq|zfr|zfs|zft|zfu|zfv|zfw|zfx|zfy|zfz|zga|zgb|zgc=>k_is)
  obtain ⟨c,AF⟩:=AA
  have CC:∃ CN fI,Mine.LineX (L2.KOf KX) mg CN fI/\L2.oh (L2.KOf KX) mg "TAKEN" Mine.TK/\Mine.yV (L2.KOf KX):=by
   dsimp only [L2.KOf];refine' Mine.cls34 KX G ?zgd ?i0 ?fe ?xi ?kc ?xf ?sa ?n1 ?n2 ?e6 ?e7 ?e8 ?e9 ?zge ?zgf ?zgg ?zgh ?zgi ?su ?zgj ?zgk ?zgl ?zgm ?zgn ?zgo ?zgp ?zgq ?zgr ?zgs ?zgt ?zgu ?zgv ?zgw ?zgx ?t1 ?t2 ?t3 ?t4
   (case zgd|i0=>k_is)
   (case fe=>refine' L2.funE_mk ?fl ?fc ?fk;(case fl=>k_is);(case fc=>k_is);(case fk=>k_is))
   (case xi=>kernel_rfl)
   (case kc=>k_is)
   (case xf=>kernel_rfl)
   (case sa|n1|n2|e6|e7|e8|e9|zge|zgf|zgg|zgh|zgi|su=>k_is)
   (case zgj|zgk|zgl|zgm|zgn|zgo|zgp|zgq|zgr|zgs|zgt|zgu|zgv|zgw|zgx=>first | k_is | kit_is)
   (case t1|t2=>k_is)
   (case t3=>decide)
   (case t4=>exact (.cons rfl ⟨_,rfl⟩ (.cons rfl ⟨_,rfl⟩ (.cons rfl ⟨_,rfl⟩ (.cons rfl ⟨_,rfl⟩ (.cons rfl ⟨_,rfl⟩ (.cons rfl ⟨_,rfl⟩ (.cons rfl ⟨_,rfl⟩ (.cons rfl ⟨_,rfl⟩ (.cons rfl ⟨_,rfl⟩ (.cons rfl ⟨_,rfl⟩ .nil)))))))))))
  obtain ⟨CN,fI,XF,wD,KK⟩:=CC
  have yW:∃ t,mg "MOST_ROWS"=some (.int 400 t):=by
   refine' L2.kN KX G ?ie ?iq;(case ie=>k_is);(case iq=>exact ⟨_,rfl⟩)
  obtain ⟨t_MOST_ROWS,kI⟩:=yW
  have kJ:∃ t,mg "STEEPEST_straights"=some (.int 12 t):=by
   refine' L2.kN KX G ?ie ?iq;(case ie=>k_is);(case iq=>exact ⟨_,rfl⟩)
  obtain ⟨t_STEEPEST_straights,dG⟩:=kJ
  have pE:∃ t,mg "STEEPEST_backs"=some (.int 4 t):=by
   refine' L2.kN KX G ?ie ?iq;(case ie=>k_is);(case iq=>exact ⟨_,rfl⟩)
  obtain ⟨t_STEEPEST_backs,cf⟩:=pE
  have pF:∃ t,mg "MOST_STRETCHES"=some (.int 6 t):=by
   refine' L2.kN KX G ?ie ?iq;(case ie=>k_is);(case iq=>exact ⟨_,rfl⟩)
  obtain ⟨t_MOST_STRETCHES,cg⟩:=pF
  have kH:L2.iJ (L2.KOf KX) mg "NOUGHT" [0,1]:=by
   dsimp only [L2.KOf];refine' L2.uo (ns:=[0,1]) KX G ?e ?l ?z ?v;(case e=>k_is);(case l=>k_is);(case z=>decide);(case v=>exact (.cons ⟨_,rfl⟩ (.cons ⟨_,rfl⟩ .nil)))
  have Cv:L2.iJ (L2.KOf KX) mg "WHOLE" [1,1]:=by
   dsimp only [L2.KOf];refine' L2.uo (ns:=[1,1]) KX G ?e ?l ?z ?v;(case e=>k_is);(case l=>k_is);(case z=>decide);(case v=>exact (.cons ⟨_,rfl⟩ (.cons ⟨_,rfl⟩ .nil)))
  obtain ⟨f,fd,F,m⟩:=T_law.ex;have e:=hmg.symm.trans m;cases e
  obtain ⟨oc,od,kV,doc,pm,an,cdv,ct,osl,hfd,lk,hcd⟩:=id F.ex;subst hfd;refine ⟨PySem.W.fnOf "law" "law" (L2.eI Mine.sLaw) (L2.bf Mine.sLaw) (L2.ag Mine.sLaw) .none kV doc pm an cdv ct,λs u=>.of_eq rfl,λbase kb' nb=>?_⟩;have M:=Mine.ms (P:=Mine.Pg) (w:=w) (base:=base) AF fv iC;obtain ⟨kl,kn,kf⟩:=Mine.mks (P:=Mine.Pg) (w:=w) (base:=base) AF;have GL:∀ t,L2.bx Mine.Pg w (L2.KOf KX) mg base (c.of t) "laid_out" 2 ["self"] (Mine.zp c t):=λt=>Mine.ok_laid (AF.laid t) M;have dRowsOf:=Mine.CZ DT aU bO M GL;have XN:=Mine.linex (P:=Mine.Pg) (w:=w) (base:=base) XF;have dFactor:=Mine.Dn (P:=Mine.Pg) (w:=w) (base:=base) qm iD;have dFrac:=Mine.xV AR dFactor;have dLess:=Mine.ok_less (P:=Mine.Pg) (w:=w) (base:=base) T_less;have dJoined:=Mine.Dk (P:=Mine.Pg) (w:=w) (base:=base) HB bO;have dSbs:=Mine.qd tj aU dLess;have dTurned:=Mine.CU (P:=Mine.Pg) (w:=w) (base:=base) Hv bO;have dRaised:=Mine.De (P:=Mine.Pg) (w:=w) (base:=base) Hw bO;have dAdded:=Mine.FZ T_added dSbs dJoined;have dGr:=Mine.ok_gr tF kH dSbs (Mine.ok_gst lQ dFrac) dJoined;have dLe:=Mine.ok_le uf dTurned dGr;have dStr:=Mine.xR (P:=Mine.Pg) (w:=w) (base:=base) AJ Cv;have dCut:=Mine.ok_cut DY dStr dGr dLe;have dFold:=Mine.xY yS dAdded dTurned dRaised dGr dLe dCut;have dRow:=Mine.zJ AK aU (Mine.xS yP dStr) dTurned dRaised dFold;have dLast:=Mine.xT yQ dRow;have dNoQ:=Mine.ok_noQ (P:=Mine.Pg) (w:=w) (base:=base) lO;have dLineOf:=Mine.Dh DU dRowsOf dNoQ dLast;have dIw:=Mine.zN (P:=Mine.Pg) (w:=w) (base:=base) AO aX vn pB KK.ib;have dHow:=Mine.ok_how (P:=Mine.Pg) (w:=w) (base:=base) lP wD;have dAh:=Mine.FY pD dIw;have dIr:=Mine.FT HC aX bO aU vm vo kI dHow dAh;have dMust:=Mine.ok_must tw (Mine.FV wz bu aU dIr);have dLine:=Mine.FQ tD dMust dNoQ dLast;have dLw:=Mine.Dg (P:=Mine.Pg) (w:=w) (base:=base) DW aX vn pB KK;have dLr:=Mine.ok_lrow T_l_row aX bO aU vm vo KK dLw;have dLf:=Mine.Di DX cx aU dLr;have dF14:=Mine.Dl (P:=Mine.Pg) (w:=w) (base:=base) Hz fv iC;have dWo:=Mine.zF DV aU dF14;have dCell:=Mine.ok_cell (P:=Mine.Pg) (w:=w) (base:=base) HA aU;have dSteep:=Mine.zI (P:=Mine.Pg) (w:=w) (base:=base) ue aU cx;have dStraight:=Mine.tU qk iD aU cx dG (Mine.Dm (P:=Mine.Pg) (w:=w) (base:=base) yT) dSteep;have dOut:=Mine.zO HD (Mine.zL wB kH Cv dLess) (Mine.ok_told oi dFrac);have dStay:=Mine.CY qc bu kH dOut;have dLead:=Mine.Dq jf bu aU iD cg cf dStay;have dPut:=Mine.FN ql aU dStraight (Mine.zM (P:=Mine.Pg) (w:=w) (base:=base) T_moved bO);have dBack:=Mine.ok_back kG kH dLead dPut (Mine.xX (P:=Mine.Pg) (w:=w) (base:=base) wA aU) (Mine.zR AQ (Mine.vO (P:=Mine.Pg) (w:=w) (base:=base) ug));have dNo:=Mine.ok_no34 kG (Mine.Dj jf bu aU iD cg cf XN (Mine.CW qc bu kH dOut));have dRef:=Mine.vN yR XN XF.m XF.cc XF.su dNo;have dHt:=Mine.xU (P:=Mine.Pg) (w:=w) (base:=base) AN;have dRight:=Mine.zK tE aX AI cx fv iC dLf dWo dHt;have dTree:=Mine.CV Hx aU cx vk dCell (Mine.ok_size (P:=Mine.Pg) (w:=w) (base:=base) Hy vk 100);have dSay:=Mine.FL AM AF.o_ne AF.r_ne AF.o_al AF.r_al kl kn kf 50;exact Mine.ok_law F aU cx Hu dCell dTree dSay dLineOf dHt (Mine.ok_sayW pC aU dF14 50) dRef dBack dRight dLine
 case S=>exact λK H a ns hl hb hO hS=>⟨a,ns,rfl,Mine.scr_of hO hS hl hb,λ_=>rfl⟩
 case C=>exact λ_ _ _ _ z=>z
