import PyProof.Rows.All
import Wide.All
import OpenK.AllK
import Wide.FinOn
import Lean
import PyProof.EqAt
import PyProof.EqKinds
import PyProof.TupleCall
import KE.KRevIter
import PyProof.ListNew
import PyProof.NeKinds
import PyProof.StrBlockL
import KE.LcSums
import PyProof.Rows.EqDataRows
import PyProof.Draws
import PyProof.EnumMake
import PyProof.ZipIter
import PyProof.WalksMore
import PyProof.P3In
import PyProof.IsRules
import KE.KLcPair
import PyProof.Rows.Range3
import PyProof.Rows.MinMaxN
import KE.KTab
import PyProof.Rows.SumAny
import PyProof.ExcClass2
import PyProof.ExcInit
import PyProof.StationsW
import PyProof.InstStoreFacts
import PySem.Challenge.RW_leansay_k55_whole_alike_by_laws
set_option Elab.async false
set_option linter.all false
noncomputable section
set_option hygiene false
local macro_rules | `(tactic| walk_at "i1") => `(tactic| intro vs H Q E h)
local macro_rules | `(tactic| walk_at "i2") => `(tactic| intro f cdv A outer s H vs Q E hr h)
local macro_rules | `(tactic| walk_at "i3") => `(tactic| intro cdv A outer s H vs Q E hr h)
set_option hygiene true
set_option maxRecDepth 100000
namespace L2
open PySem PySem.Spec PyProof.Rows
abbrev Key:=Sum Int Str
def sA:Key->Value->Bool
 | .inl k,v=>Value.isInt k v
 | .inr x,v=>Value.isStrOf x v
def keyH (w:World):Key->Int
 | .inl k=>hashInt k
 | .inr x=>hashStr w x
theorem cF:∀{k:Key} {v:Value},sA k v=true->(∃ i t,k=Sum.inl i/\v=Value.int i t)\/(∃ x t,k=Sum.inr x/\v=Value.str x t)
 | .inl i,v,h=>by
  obtain ⟨t,e⟩:=Value.isInt_shape (k:=i) (v:=v) h;exact .inl ⟨i,t,rfl,e⟩
 | .inr x,v,h=>by
  obtain ⟨t,e⟩:=Value.isStrOf_shape (x:=x) (v:=v) h;exact .inr ⟨x,t,rfl,e⟩
theorem Br (i:Int) (t:Tok):sA (.inl i) (.int i t)=true:=by simp [sA,Value.isInt]
theorem Bq (x:Str) (t:Tok):sA (.inr x) (.str x t)=true:=by simp [sA,Value.isStrOf]
theorem key_ll (a b:Int):decide ((Sum.inl a:Key)=Sum.inl b)=(a == b):=by
 by_cases e:a=b
 ·subst e;simp
 ·have h:¬ (Sum.inl a:Key)=Sum.inl b:=λq=>e (Sum.inl.inj q);rw [decide_eq_false h];exact (beq_eq_false_iff_ne.mpr e).symm
theorem key_rr (a b:Str):decide ((Sum.inr a:Key)=Sum.inr b)=decide (a=b):=by
 by_cases e:a=b
 ·subst e;simp
 ·have h:¬ (Sum.inr a:Key)=Sum.inr b:=λq=>e (Sum.inr.inj q);rw [decide_eq_false h,decide_eq_false e]
theorem key_lr (a:Int) (b:Str):decide ((Sum.inl a:Key)=Sum.inr b)=false:=decide_eq_false (λq=>nomatch q)
theorem key_rl (a:Str) (b:Int):decide ((Sum.inr a:Key)=Sum.inl b)=false:=decide_eq_false (λq=>nomatch q)
noncomputable def cM (prog:Program) (w:World):PySem.KeyKind prog w Key where
 is:=sA
 hash:=keyH w
 inj:=λv a b ha hb=>by
  rcases cF ha with ⟨i,t,rfl,rfl⟩ | ⟨x,t,rfl,rfl⟩
  ·rcases cF hb with ⟨j,u,rfl,e⟩ | ⟨y,u,rfl,e⟩
   ·injection e with e1 _;rw [e1]
   ·exact nomatch e
  ·rcases cF hb with ⟨j,u,rfl,e⟩ | ⟨y,u,rfl,e⟩
   ·exact nomatch e
   ·injection e with e1 _;rw [e1]
 byValue:=λk v h=>by
  rcases cF h with ⟨i,t,rfl,rfl⟩ | ⟨x,t,rfl,rfl⟩ <;> rfl
 pyHash:=λhv h=>by
  rcases cF hv with ⟨i,t,rfl,rfl⟩ | ⟨x,t,rfl,rfl⟩
  ·exact wpAny_pyHash_int h
  ·exact wpAny_pyHash_str h
 eqBool:=λhu hv h=>by
  rcases cF hu with ⟨i,t,rfl,rfl⟩ | ⟨x,t,rfl,rfl⟩
  ·rcases cF hv with ⟨j,u,rfl,rfl⟩ | ⟨y,u,rfl,rfl⟩
   ·rw [key_ll] at h;exact wpAny_eqBool_int h
   ·rw [key_lr] at h;exact SeqAt.EqAt.int_str i t y u _ _ _ _ h
  ·rcases cF hv with ⟨j,u,rfl,rfl⟩ | ⟨y,u,rfl,rfl⟩
   ·rw [key_rl] at h;exact SeqAt.EqAt.str_int x t j u _ _ _ _ h
   ·rw [key_rr] at h;exact wpAny_eqBool_str h
 «strs»:=λk x t v h=>by
  rcases cF h with ⟨i,u,rfl,e⟩ | ⟨y,u,rfl,e⟩
  ·exact nomatch e
  ·injection e with e1 _
   subst e1;cases v <;> rfl
theorem wz (prog:Program) (w:World) (i:Int) (t:Tok):(cM prog w).is (.inl i) (.int i t)=true:=Br i t
theorem wy (prog:Program) (w:World) (x:Str) (t:Tok):(cM prog w).is (.inr x) (.str x t)=true:=Bq x t
inductive V where
 | non | bl (b:Bool) | int (i:Int) | str (x:Str) | byt (b:Array UInt8) | flt (b:UInt64) | ref (a:Addr) | ty (n:String)
 deriving DecidableEq
def RelV:V->Value->Prop
 | .non,u=>u=Value.none
 | .bl b,u=>u=Value.bool b
 | .int i,u=>∃ t,u=Value.int i t
 | .str x,u=>∃ t,u=Value.str x t
 | .byt b,u=>∃ t,u=Value.bytes b t
 | .flt b,u=>∃ t,u=Value.float b t
 | .ref a,u=>u=Value.ref a
 | .ty n,u=>u=Value.type n
abbrev Vals:List V->List Value->Prop:=Paired RelV
theorem Vals.length {xs:List V} {us:List Value} (r:Vals xs us):xs.length=us.length:=Paired.length r
theorem Vals.get:∀{xs:List V} {us:List Value} {i:Nat} {x:V},Vals xs us->xs[i]?=some x->∃ u,us[i]?=some u/\RelV x u
 | _,_,_,_,.nil,e=>by simp at e
 | _,_,0,_,.cons r _,e=>by simp at e;subst e;exact ⟨_,rfl,r⟩
 | _,_,i+1,x,.cons _ t,e=>by
  obtain ⟨u,h1,h2⟩:=Vals.get (i:=i) (x:=x) t (by simpa using e);exact ⟨u,by simpa using h1,h2⟩
theorem Vals.set {x:V} {u:Value} (r:RelV x u):∀{xs:List V} {us:List Value} (i:Nat),Vals xs us->Vals (xs.set i x) (us.set i u)
 | _,_,_,.nil=>.nil
 | _,_,0,.cons _ t=>.cons r t
 | _,_,i+1,.cons q t=>.cons q (Vals.set r i t)
theorem Vals.append:∀{xs ys:List V} {us ws:List Value},Vals xs us->Vals ys ws->Vals (xs++ys) (us++ws)
 | _,_,_,_,.nil,s=>s
 | _,_,_,_,.cons r t,s=>.cons r (Vals.append t s)
theorem Vals.take:∀{xs:List V} {us:List Value} (n:Nat),Vals xs us->Vals (xs.take n) (us.take n)
 | _,_,0,_=>.nil
 | _,_,_+1,.nil=>.nil
 | _,_,n+1,.cons r t=>.cons r (Vals.take n t)
theorem Vals.drop:∀{xs:List V} {us:List Value} (n:Nat),Vals xs us->Vals (xs.drop n) (us.drop n)
 | _,_,0,r=>r
 | _,_,_+1,.nil=>.nil
 | _,_,n+1,.cons _ t=>Vals.drop n t
def kF:Option V->Option Value->Prop
 | some v,some u=>RelV v u
 | none,none=>True
 | _,_=>False
def KV {κ:Type}:List (κ×V)->List (κ×Value)->Prop:=Paired λ(p:κ×V) (q:κ×Value)=>p.1=q.1/\RelV p.2 q.2
def kV:Key->V
 | .inl i=>.int i
 | .inr x=>.str x
inductive HO where
 | lst (xs:List V)
 | tup (xs:List V)
 | dK (kvs:List (Key×V)) | dT (kvs:List (List Key×V))
 | set (S:Int->Bool) (n:Nat)
 | ins (C dx:Addr) (fs:List (Str×V))
 | own (x:Addr)
 | xd (fs:List (Str×V))
 | met (f x:Addr)
 | rng (lo hi:Int)
 | frz (o:Obj) (u:HO)
 | tbl (ps:Array Value)
 | ext (φ:Heap->Prop)
abbrev Hp:=Addr->Option HO
def upd (H:Hp) (a:Addr) (o:HO):Hp:=λb=>if b=a then some o else H b
theorem ae {H:Hp} {a:Addr} {o:HO}:upd H a o a=some o:=by unfold upd;rw [if_pos rfl]
theorem au {H:Hp} {a b:Addr} {o:HO} (h:b≠a):upd H a o b=H b:=by unfold upd;rw [if_neg h]
theorem oO {H:Hp} {a:Addr} {o u:HO}:upd (upd H a o) a u=upd H a u:=by
 funext b;unfold upd;split <;> rfl
theorem oi {H:Hp} {a b:Addr} {o u:HO} (h:H a=some o) (h':H b=some u) (d:o≠u):a≠b:=by
 intro e;subst e;rw [h] at h';exact d (Option.some.inj h')
theorem aw {H:Hp} {a b:Addr} {o:HO} (h:H a=some o) (h':H b=none):a≠b:=by
 intro e;subst e;rw [h] at h';cases h'
section
variable (P:Program) (w:World)
noncomputable def cq (H:Hp) (h:Heap) (a:Addr):HO->Prop
 | .lst xs=>xs.length<=sizeLine/\∃(its:List Value) (n:Nat),Vals xs its/\h.get? a=some {cls:=.type "list",data:=.seq its.toArray n}
 | .tup xs=>xs.length<=sizeLine/\∃ its:List Value,Vals xs its/\IsTup h a its.toArray
 | .dK kvs=>kvs.length<=sizeLine/\(a == sysModules)=false/\∃ vs,KV kvs vs/\h.DictOf (cM P w) a vs
 | .dT kvs=>kvs.length<=sizeLine/\(a == sysModules)=false/\∃ xs:List (List Key×Addr×Value),
   Paired (λ(p:List Key×V) (q:List Key×Addr×Value)=>p.1=q.1/\H q.2.1=some (.tup (p.1.map kV))/\RelV p.2 q.2.2) kvs xs/\
   ∃ o es ep,h.get? a=some o/\o.ExactDict/\o.data=.dict es ep/\es.toList=xs.map (entryOfKey (tupleKind (cM P w)))/\(xs.map (·.1)).Nodup
 | .set S n=>h.SetOf (intKind P w) a S n
 | .ins C dx fs=>H dx=some (.own a)/\fs.length<=1000/\dx≠a/\h.get? a=some (PySem.W.instObj C dx)/\
   ∃ mA,h.Ns1 dx mA/\(∀ f,kF (fs.lookup f) (mA f))/\PySem.Within mA (fs.map (·.1))
 | .own _=>∃ o,h.get? a=some o
 | .xd fs=>∃ mA,h.Ns1 a mA/\∀ f,kF (fs.lookup f) (mA f)
 | .rng lo hi=>∃ t u v,h.get? a=some {cls:=.type "range",data:=.fields #[.int lo t,.int hi u,.int 1 v] }
 | .frz o u=>h.get? a=some o/\cq H h a u
 | .tbl ps=>h.get? a=some {cls:=.none,data:=.fields ps}
 | .met f x=>h.get? a=some (PySem.W.methodObj (.ref f) (.ref x))
 | .ext φ=>φ h/\(∃ o,h.get? a=some o)/\∀ h1 h2:Heap,φ h1->(∀ o,h1.get? a=some o->h2.get? a=some o)->φ h2
def HOk (H:Hp) (h:Heap):Prop:=∀ a o,H a=some o->cq P w H h a o
end
section
variable {P:Program} {w:World} {H H':Hp} {h h':Heap} {a:Addr} {o:HO}
theorem cq.lt (x:cq P w H h a o):a < h.objs.size:=by
 cases o with
 | lst xs=>obtain ⟨_,_,_,_,e⟩:=x;exact Heap.lt_size e
 | tup xs=>obtain ⟨_,_,_,p⟩:=x;exact p.lt
 | dK kvs=>obtain ⟨_,_,_,_,o,_,_,e,_⟩:=x;exact Heap.lt_size e
 | dT kvs=>obtain ⟨_,_,_,_,o,_,_,e,_⟩:=x;exact Heap.lt_size e
 | set S n=>obtain ⟨o,_,_,_,e,_⟩:=x;exact Heap.lt_size e
 | ins C dx fs=>obtain ⟨_,_,_,e,_⟩:=x;exact Heap.lt_size e
 | own y=>obtain ⟨_,e⟩:=x;exact Heap.lt_size e
 | xd fs=>obtain ⟨_,⟨_,_,_,e,_⟩,_⟩:=x;exact Heap.lt_size e
 | rng lo hi=>obtain ⟨_,_,_,e⟩:=x;exact Heap.lt_size e
 | frz ob u=>obtain ⟨e,_⟩:=x;exact Heap.lt_size e
 | tbl ps=>exact Heap.lt_size (show h.get? a=some _ from x)
 | met f y=>exact Heap.lt_size (show h.get? a=some _ from x)
 | ext φ=>obtain ⟨_,⟨_,e⟩,_⟩:=x;exact Heap.lt_size e
theorem Paired.mapP {α β:Type} {F G:α->β->Prop}:∀{l₁:List α} {l₂:List β},Paired F l₁ l₂->(∀ a b,F a b->G a b)->Paired G l₁ l₂
 | _,_,.nil,_=>.nil
 | _,_,.cons r t,f=>.cons (f _ _ r) (Paired.mapP t f)
theorem cq.stay (x:cq P w H h a o) (k:∀ b u,(b=a\/H b=some (.own a))->h.get? b=some u->h'.get? b=some u)
  (ho:∀ b,H b=some (.own a)->H' b=some (.own a)) (ht:∀ b xs,H b=some (.tup xs)->H' b=some (.tup xs)):cq P w H' h' a o:=by
 induction o with
 | lst xs=>obtain ⟨z,its,n,r,e⟩:=x;exact ⟨z,its,n,r,k _ _ (.inl rfl) e⟩
 | tup xs=>obtain ⟨z,its,r,ob,e,c⟩:=x;exact ⟨z,its,r,ob,k _ _ (.inl rfl) e,c⟩
 | dK kvs=>obtain ⟨z,y,vs,r,ob,es,ep,e,c⟩:=x;exact ⟨z,y,vs,r,ob,es,ep,k _ _ (.inl rfl) e,c⟩
 | dT kvs =>
  obtain ⟨z,y,xs,r,ob,es,ep,e,c⟩:=x;exact ⟨z,y,xs,Paired.mapP r λp q z=>⟨z.1,ht _ _ z.2.1,z.2.2⟩,ob,es,ep,k _ _ (.inl rfl) e,c⟩
 | set S n=>obtain ⟨ob,es,ep,t,e,c⟩:=x;exact ⟨ob,es,ep,t,k _ _ (.inl rfl) e,c⟩
 | ins C dx fs =>
  obtain ⟨d,z,ne,e,mA,⟨od,es,ep,e2,c⟩,r⟩:=x;exact ⟨ho _ d,z,ne,k _ _ (.inl rfl) e,mA,⟨od,es,ep,k _ _ (.inr d) e2,c⟩,r⟩
 | own y=>obtain ⟨ob,e⟩:=x;exact ⟨ob,k _ _ (.inl rfl) e⟩
 | xd fs=>obtain ⟨mA,⟨od,es,ep,e,c⟩,r⟩:=x;exact ⟨mA,⟨od,es,ep,k _ _ (.inl rfl) e,c⟩,r⟩
 | rng lo hi=>obtain ⟨t,u,v,e⟩:=x;exact ⟨t,u,v,k _ _ (.inl rfl) e⟩
 | frz ob u ih=>obtain ⟨e,q⟩:=x;exact ⟨k _ _ (.inl rfl) e,ih q⟩
 | tbl ps =>
  have e:h.get? a=some {cls:=.none,data:=.fields ps}:=x;show h'.get? a=some {cls:=.none,data:=.fields ps};exact k a _ (.inl rfl) e
 | met f y =>
  have e:h.get? a=some (PySem.W.methodObj (.ref f) (.ref y)):=x;show h'.get? a=some (PySem.W.methodObj (.ref f) (.ref y));exact k a _ (.inl rfl) e
 | ext φ=>obtain ⟨p,⟨o,e⟩,st⟩:=x;exact ⟨st _ _ p λo q=>k _ _ (.inl rfl) q,⟨o,k _ _ (.inl rfl) e⟩,st⟩
theorem HOk.lt (x:HOk P w H h) (e:H a=some o):a < h.objs.size:=(x a o e).lt
theorem HOk.fresh (x:HOk P w H h) (e:h.objs.size<=a):H a=none:=by
 cases q:H a with
 | none=>rfl
 | some u=>exact absurd (Nat.lt_of_lt_of_le (x.lt q) e) (Nat.lt_irrefl _)
theorem HOk.kept (x:HOk P w H h) (k:∀ b u,h.get? b=some u->h'.get? b=some u):HOk P w H h':=λa o e =>
 (x a o e).stay (λb u _ q=>k b u q) (λ_ q=>q) λ_ _ q=>q
theorem HOk.laid (x:HOk P w H h) (k:∀ b u,h.get? b=some u->h'.get? b=some u) (hp:h.objs.size<=a) (new:cq P w (upd H a o) h' a o):HOk P w (upd H a o) h':=λb u e=>by
 have hn:=x.fresh hp
 by_cases hb:b=a
 ·subst hb;rw [ae] at e;cases e;exact new
 ·rw [au hb] at e;exact (x b u e).stay (λc v _ q=>k c v q) (λc q=>by rw [au (aw q hn)];exact q) λc xs q=>by rw [au (aw q hn)];exact q
end
def Rd (H:Hp) (a:Addr) (u:HO):Prop:=H a=some u\/∃ o,H a=some (.frz o u)
theorem Rd.ok {P:Program} {w:World} {H:Hp} {h:Heap} {a:Addr} {u:HO} (r:Rd H a u) (x:HOk P w H h):cq P w H h a u:=by
 rcases r with r | ⟨o,r⟩
 ·exact x a u r
 ·obtain ⟨_,q⟩:=x a _ r;exact q
def Mut:Option HO->Prop
 | some (.lst _)=>True
 | some (.dK _)=>True
 | some (.dT _)=>True
 | some (.set _ _)=>True
 | some (.ins _ _ _)=>True
 | some (.ext _)=>True
 | _=>False
section
variable {P:Program} {w:World} {H:Hp} {h h':Heap} {x e:Addr} {o':HO}
theorem HOk.write (ok:HOk P w H h) (mu:Mut (H x)) (he:e=x\/H e=some (.own x)) (k:∀ b u,b≠e->h.get? b=some u->h'.get? b=some u) (heo:∃ u,h'.get? e=some u)
  (new:cq P w (upd H x o') h' x o'):HOk P w (upd H x o') h':=λb u q=>by
 have nown:∀ c y,H c=some (.own y)->c≠x:=λc y r z=>by subst z;rw [r] at mu;exact mu
 have ntup:∀ c xs,H c=some (.tup xs)->c≠x:=λc xs r z=>by subst z;rw [r] at mu;exact mu
 by_cases hb:b=x
 ·subst hb;rw [ae] at q;cases q;exact new
 ·rw [au hb] at q
  by_cases hbe:b=e
  ·have q':H b=some (.own x):=by
    rcases he with z | z
    ·exact absurd (hbe.trans z) hb
    ·rw [hbe];exact z
   rw [q] at q';cases q'
   obtain ⟨v,hv⟩:=heo;exact ⟨v,by rw [hbe];exact hv⟩
  ·refine (ok b u q).stay (λc v hc r=>k c v ?_ r) (λc r=>by rw [au (nown c b r)];exact r) λc xs r=>by rw [au (ntup c xs r)];exact r
   rcases hc with rfl | hc
   ·exact hbe
   ·rintro rfl
    rcases he with z | z
    ·exact nown c b hc z
    ·rw [hc] at z;cases z;exact hb rfl
end
structure Un (fs ex:List Addr) (H H':Hp) (h h':Heap):Prop where
 keep:∀ b o,h.get? b=some o->H b=none->b ∉ fs->b ∉ ex->h'.get? b=some o
 slot:∀ b o,h.get? b=some o->H b=none->b∈fs->b ∉ ex->∃ sl,h'.get? b=some {o with slots:=sl}
 free:∀ b o,h.get? b=some o->H b=none->b ∉ ex->H' b=none
 there:∀ b o,h.get? b=some o->b ∉ ex->∃ o',h'.get? b=some o'
 tups:∀ b xs,H b=some (.tup xs)->H' b=some (.tup xs)
 frzs:∀ b o u,H b=some (.frz o u)->H' b=some (.frz o u)
 tbls:∀ b ps,H b=some (.tbl ps)->∃ more,H' b=some (.tbl (ps++more))
section
variable {fs fs' ex ex':List Addr} {H H1 H2:Hp} {h h1 h2 h':Heap} {a x e:Addr} {o:HO}
theorem Un.any (u:Un fs ex H H1 h h1) {b:Addr} {ob:Obj} (q:h.get? b=some ob) (n:H b=none) (hx:b ∉ ex):∃ sl,h1.get? b=some {ob with slots:=sl}:=by
 by_cases hb:b∈fs
 ·exact u.slot b ob q n hb hx
 ·exact ⟨ob.slots,u.keep b ob q n hb hx⟩
theorem Un.kept (k:∀ b u,h.get? b=some u->h'.get? b=some u):Un fs ex H H h h':=
 ⟨λb ob q _ _ _=>k b ob q,λb ob q _ _ _=>⟨ob.slots,k b ob q⟩,λ_ _ _ n _=>n,λb ob q _=>⟨ob,k b ob q⟩,λ_ _ q=>q,λ_ _ _ q=>q,λ_ ps q=>⟨#[],by rw [q];simp⟩⟩
theorem Un.refl:Un fs ex H H h h:=Un.kept λ_ _ q=>q
theorem Un.laid (k:∀ b u,h.get? b=some u->h'.get? b=some u) (hp:h.objs.size<=a) (hn:H a=none):Un fs ex H (upd H a o) h h' where
 keep:=λb u q _ _ _=>k b u q
 slot:=λb u q _ _ _=>⟨u.slots,k b u q⟩
 free:=λb u q n _=>by rw [au (Nat.ne_of_lt (Nat.lt_of_lt_of_le (Heap.lt_size q) hp))];exact n
 there:=λb u q _=>⟨u,k b u q⟩
 tups:=λb xs q=>by rw [au (aw q hn)];exact q
 frzs:=λb u xs q=>by rw [au (aw q hn)];exact q
 tbls:=λb ps q=>⟨#[],by rw [au (aw q hn),q];simp⟩
theorem Un.write (mu:Mut (H x)) (he:e=x\/H e=some (.own x)) (k:∀ b u,b≠e->h.get? b=some u->h'.get? b=some u) (heo:∃ u,h'.get? e=some u):Un fs ex H (upd H x o) h h':=by
 have hx:∀ b,H b=none->b≠x:=λb n z=>by subst z;rw [n] at mu;exact mu
 have hb:∀ b,H b=none->b≠e:=λb n z=>by
  subst z;rcases he with r | r
  ·exact hx b n r
  ·rw [n] at r;cases r
 have hm:∀ b u,H b=some u->¬Mut (some u)->b≠x:=λb u q nm z=>by subst z;rw [q] at mu;exact nm mu
 refine ⟨λb u q n _ _=>k b u (hb b n) q,λb u q n _ _=>⟨u.slots,k b u (hb b n) q⟩,λb u q n _=>by rw [au (hx b n)];exact n,λb u q _=>?_,
  λb xs q=>by rw [au (hm b _ q λz=>z)];exact q,λb u xs q=>by rw [au (hm b _ q λz=>z)];exact q,λb ps q=>⟨#[],by rw [au (hm b _ q λz=>z),q];simp⟩⟩
 by_cases hbe:b=e
 ·subst hbe;exact heo
 ·exact ⟨u,k b u hbe q⟩
end
def trk (h:Heap) (H:Hp):List Addr:=(List.range h.objs.size).filter λa=>(H a).isSome
def uu (h:Heap) (H:Hp):Heap:=PySem.W.hideAll h (trk h H)
theorem Bu (h:Heap) (H:Hp):(uu h H).objs.size=h.objs.size:=PySem.W.hideAll_size _ _
theorem Es {h:Heap} {H:Hp} {b:Addr} {o:Obj} (e:h.get? b=some o) (n:H b=none):(uu h H).get? b=some o:=
 PySem.W.hideAll_get _ e λhm=>by
  have q:(H b).isSome=true:=(List.mem_filter.mp hm).2;rw [n] at q;simp at q
theorem of_hidT {h:Heap} {H:Hp} {b:Addr} {o:Obj} (e:(uu h H).get? b=some o):h.get? b=some o/\H b=none:=by
 have e':h.get? b=some o:=PySem.W.of_hideAll (trk h H) e;refine ⟨e',?_⟩;cases q:H b with
 | none=>rfl
 | some x =>
  have hm:b∈trk h H:=List.mem_filter.mpr ⟨List.mem_range.mpr (Heap.lt_size e'),by simp [q]⟩;have z:(uu h H).get? b=none:=PySem.W.hideAll_none (trk h H) hm;rw [z] at e;cases e
structure Mod (K:W.Frag) (mg:Str->Option Value) (base:Heap):Prop where
 kin:K.In base
 glob:base.Ns mainGlobals mg
 blt:∃ mb,base.Ns builtinsNs mb/\∀ x:Str,x≠"__name__"->mb x=bootBuiltins x
 nolimit:base.NoLimit
structure Cx where
 prog:Program
 w:World
 K:W.Frag
 mg:Str->Option Value
 base:Heap
 A:Around
 N:List Str
 s₀:Shared
 H₀:Hp
 env:Env
 outer:List Env
 stack:List Env
 ex:List Addr
 fn:Str->Bool
 calm:Bool
 pn:List (Addr×Obj)
 xe:Value->Shared->Prop
def frs (l:List Env):List Addr:=l.filterMap (·.frame)
abbrev Cx.fs (X:Cx):List Addr:=frs X.outer
def Vis (sc:Scope) (x:Str):Prop:=sc.names.lookup x=some .local\/sc.names.lookup x=some .cell\/sc.names.lookup x=some .free
def Loc (sc:Scope) (x:Str):Prop:=sc.names.lookup x=some .local\/sc.names.lookup x=some .cell
def Look (env:Env) (h:Heap) (m:Str->Option Value) (x:Str) (u:Value):Prop:=
 (env.kindOf x=some .local/\m x=some u)\/((env.kindOf x=some .cell\/env.kindOf x=some .free)/\∃ c,env.cells.lookup x=some c/\h.IsCell c (some u))
structure Cx.Ok (X:Cx):Prop where
 mod:Mod X.K X.mg X.base
 kind:X.env.scope.kind=.function
 glob:X.env.globals=mainGlobals
 blt:X.env.builtins=builtinsNs
 above:X.s₀.heap.objs.size<=X.env.locals
 inj:∀ x y c,X.env.cells.lookup x=some c->X.env.cells.lookup y=some c->x=y
 has:∀ x,(X.env.kindOf x=some .cell\/X.env.kindOf x=some .free)->∃ c,X.env.cells.lookup x=some c
 cab:∀ x c,X.fn x=true->X.env.cells.lookup x=some c->X.s₀.heap.objs.size<=c
 hd:X.calm=true->X.A.handled=none
 frames:X.A.frames=some X.stack
 stk:X.stack=X.outer\/(X.stack=X.env::X.outer/\X.env.frame=some X.env.locals)
 exf:∀ b∈X.ex,b≠X.env.locals/\∀ x c,X.env.cells.lookup x=some c->c≠b
 bs:∀ b o,X.base.get? b=some o->X.s₀.heap.get? b=some o/\X.H₀ b=none
 bsz:X.base.objs.size<=X.s₀.heap.objs.size
 noex:∀ b o,X.base.get? b=some o->b ∉ X.ex
 exfs:∀ b∈X.ex,b ∉ X.fs
 funs:X.s₀.heap.FunFrames X.base X.outer
 frf:∀ b∈X.fs,X.H₀ b=none
structure Inv (X:Cx) (pins:List (Addr×Obj)) (σ:List (Option V)) (H:Hp) (s:Shared):Prop where
 ok:X.Ok
 os:s.os=X.s₀.os
 bare:AllBare s.gens
 base:Un X.fs X.ex X.H₀ H X.s₀.heap s.heap
 loc:∃ m,s.heap.Ns X.env.locals m/\∀(i:Nat) (x:Str) (v:V),X.N[i]?=some x->σ[i]?=some (some v)->Vis X.env.scope x->∃ u,RelV v u/\Look X.env s.heap m x u
 cell:∀ x c,X.env.cells.lookup x=some c->∃ v,s.heap.IsCell c v
 free:H X.env.locals=none
 freeC:∀ x c,X.env.cells.lookup x=some c->H c=none
 pin:∀ p∈X.pn++pins,s.heap.get? p.1=some p.2/\H p.1=none/\p.1≠X.env.locals/\p.1 ∉ X.fs/\∀ v,p.2.data≠.cell v
 hok:HOk X.prog X.w H s.heap
 len:σ.length=X.N.length
section
variable {X:Cx} {pins:List (Addr×Obj)} {σ:List (Option V)} {H H':Hp} {s:Shared} {h':Heap}
theorem Cx.Ok.nofr (ok:X.Ok) {b:Addr} {o:Obj} (e:X.base.get? b=some o):b ∉ X.fs:=λhb=>by
 have:=(ok.funs.mem hb).1;rw [e] at this;cases this
theorem Inv.bs (I:Inv X pins σ H s):∀ b o,X.base.get? b=some o->s.heap.get? b=some o/\H b=none:=λb o e =>
 ⟨I.base.keep b o (I.ok.bs b o e).1 (I.ok.bs b o e).2 (I.ok.nofr e) (I.ok.noex b o e),I.base.free b o (I.ok.bs b o e).1 (I.ok.bs b o e).2 (I.ok.noex b o e)⟩
theorem Inv.bk (I:Inv X pins σ H s):∀ b o,X.base.get? b=some o->s.heap.get? b=some o:=λb o e=>(I.bs b o e).1
theorem Inv.mod (I:Inv X pins σ H s):Mod X.K X.mg X.base:=I.ok.mod
theorem Inv.kIn (I:Inv X pins σ H s):X.K.In s.heap:=I.ok.mod.kin.keeps I.bk
theorem Inv.lt (I:Inv X pins σ H s):X.env.locals < s.heap.objs.size:=let ⟨_,hn,_⟩:=I.loc;hn.lt
theorem Inv.sz (I:Inv X pins σ H s):X.s₀.heap.objs.size<=s.heap.objs.size:=Nat.le_trans I.ok.above (Nat.le_of_lt I.lt)
theorem Inv.nofs (I:Inv X pins σ H s) {a:Addr} (h:s.heap.objs.size<=a):a ∉ X.fs:=λhb=>by
 obtain ⟨_,o,ho,_⟩:=I.ok.funs.mem hb;exact absurd (Nat.lt_of_lt_of_le (Heap.lt_size ho) (Nat.le_trans I.sz h)) (Nat.lt_irrefl _)
theorem Inv.cne (I:Inv X pins σ H s):∀ x c,X.env.cells.lookup x=some c->c≠X.env.locals:=λx c e z=>by
 obtain ⟨v,o,ho,hd⟩:=I.cell x c e;obtain ⟨m,⟨o',es,ep,ho',hd',_⟩,_⟩:=I.loc;rw [z,ho'] at ho;cases ho;rw [hd'] at hd;cases hd
theorem Inv.funs (I:Inv X pins σ H s):s.heap.FunFrames X.base X.outer:=by
 have all:∀(l:List Env),(∀ b∈frs l,b∈X.fs)->X.s₀.heap.FunFrames X.base l->s.heap.FunFrames X.base l:=by
  intro l
  induction l with
  | nil=>intro _ _;trivial
  | cons env r ih =>
   intro hs hl;obtain ⟨hk,⟨L,o,hf,hn,ho,hd⟩,hr⟩:=hl;have hL:L∈X.fs:=hs L (by unfold frs;rw [List.filterMap_cons,hf];exact List.mem_cons_self);obtain ⟨sl,e⟩:=I.base.slot L o ho (I.ok.frf L hL) hL λz=>I.ok.exfs L z hL;exact ⟨hk,⟨L,_,hf,hn,e,hd⟩,ih (λb hb=>hs b (by unfold frs;rw [List.filterMap_cons,hf];exact List.mem_cons_of_mem _ hb)) hr⟩
 exact all X.outer (λ_ hb=>hb) I.ok.funs
theorem Inv.stack (I:Inv X pins σ H s):s.heap.FunFrames X.base X.stack:=by
 rcases I.ok.stk with e | ⟨e,hf⟩
 ·rw [e];exact I.funs
 ·rw [e];obtain ⟨m,hn,_⟩:=I.loc;refine .cons (by rw [I.ok.kind];decide) hf hn ?_ I.funs;exact Heap.get?_none_of_le (Nat.le_trans I.ok.bsz I.ok.above)
theorem Inv.stkSub (I:Inv X pins σ H s):∀ b∈frs X.stack,b∈X.env.locals::X.fs:=λb hb=>by
 rcases I.ok.stk with e | ⟨e,hf⟩
 ·rw [e] at hb;exact List.mem_cons_of_mem _ hb
 ·rw [e] at hb;unfold frs at hb;rw [List.filterMap_cons,hf] at hb;exact hb
theorem Inv.stkFree (I:Inv X pins σ H s):∀ b∈frs X.stack,H b=none:=λb hb=>by
 rcases List.mem_cons.mp (I.stkSub b hb) with e | hb
 ·rw [e];exact I.free
 ·obtain ⟨_,o,ho,_⟩:=I.ok.funs.mem hb;exact I.base.free b o ho (I.ok.frf b hb) λz=>I.ok.exfs b z hb
theorem Inv.step {g':Array GenState} {t':Nat} {d':Drawn} {ch:List Addr} (I:Inv X pins σ H s)
  (hch:∀ b∈ch,(b∈X.ex\/X.s₀.heap.objs.size<=b)/\b≠X.env.locals/\(∀ x c,X.env.cells.lookup x=some c->c≠b)/\∀ p∈X.pn++pins,p.1≠b)
  (keep:∀ b o,b≠X.env.locals->b ∉ X.fs->b ∉ ch->s.heap.get? b=some o->H b=none->h'.get? b=some o)
  (slot:∀ b o,b≠X.env.locals->b∈X.fs->b ∉ ch->s.heap.get? b=some o->H b=none->∃ sl,h'.get? b=some {o with slots:=sl}) (free:∀ b o,b ∉ ch->s.heap.get? b=some o->H b=none->H' b=none)
  (there:∀ b o,b ∉ ch->s.heap.get? b=some o->∃ o',h'.get? b=some o')
  (tups:∀ b xs,H b=some (.tup xs)->H' b=some (.tup xs)) (frzs:∀ b o u,H b=some (.frz o u)->H' b=some (.frz o u)) (tbls:∀ b ps,H b=some (.tbl ps)->∃ more,H' b=some (.tbl (ps++more)))
  (ns:∀ m,s.heap.Ns X.env.locals m->h'.Ns X.env.locals m) (hok:HOk X.prog X.w H' h') (hg:AllBare g') :
  Inv X pins σ H' {s with heap:=h',gens:=g',drawn:=d',toks:=t' }:=by
 have neL:∀ b o,X.s₀.heap.get? b=some o->b≠X.env.locals:=λb o e=>Nat.ne_of_lt (Nat.lt_of_lt_of_le (Heap.lt_size e) I.ok.above)
 have neC:∀ b o,X.s₀.heap.get? b=some o->b ∉ X.ex->b ∉ ch:=λb o e hx hb=>by
  rcases (hch b hb).1 with z | z
  ·exact hx z
  ·exact absurd (Nat.lt_of_lt_of_le (Heap.lt_size e) z) (Nat.lt_irrefl _)
 have cellK:∀ x c,X.env.cells.lookup x=some c->∀ v,s.heap.IsCell c v->h'.IsCell c v:=λx c e v ⟨o,ho,hd⟩=>by
  have nch:c ∉ ch:=λz=>(hch c z).2.2.1 x c e rfl
  by_cases hc:c∈X.fs
  ·obtain ⟨sl,q⟩:=slot c o (I.cne x c e) hc nch ho (I.freeC x c e);exact ⟨_,q,hd⟩
  ·exact ⟨o,keep c o (I.cne x c e) hc nch ho (I.freeC x c e),hd⟩
 refine ⟨I.ok,I.os,hg,⟨λb o e n hb hx=>?_,λb o e n hb hx=>?_,λb o e n hx=>?_,λb o e hx=>?_,λb xs e=>tups b xs (I.base.tups b xs e),λb o xs e=>frzs b o xs (I.base.frzs b o xs e),λb ps e=>?_⟩,?_,λx c e=>?_,?_,λx c e=>?_,λp hp=>?_,hok,I.len⟩
 ·exact keep b o (neL b o e) hb (neC b o e hx) (I.base.keep b o e n hb hx) (I.base.free b o e n hx)
 ·obtain ⟨sl,e1⟩:=I.base.slot b o e n hb hx;obtain ⟨sl',e2⟩:=slot b _ (neL b o e) hb (neC b o e hx) e1 (I.base.free b o e n hx);exact ⟨sl',e2⟩
 ·obtain ⟨o',e1⟩:=I.base.there b o e hx;exact free b o' (neC b o e hx) e1 (I.base.free b o e n hx)
 ·obtain ⟨o',e1⟩:=I.base.there b o e hx;exact there b o' (neC b o e hx) e1
 ·obtain ⟨m1,e1⟩:=I.base.tbls b ps e;obtain ⟨m2,e2⟩:=tbls b _ e1;exact ⟨m1++m2,by rw [e2,Array.append_assoc]⟩
 ·obtain ⟨m,hn,hl⟩:=I.loc;refine ⟨m,ns m hn,λi x v e1 e2 e3=>?_⟩;obtain ⟨u,r,l⟩:=hl i x v e1 e2 e3;refine ⟨u,r,?_⟩;rcases l with l | ⟨k,c,e,z⟩
  ·exact .inl l
  ·exact .inr ⟨k,c,e,cellK x c e _ z⟩
 ·obtain ⟨v,z⟩:=I.cell x c e;exact ⟨v,cellK x c e v z⟩
 ·obtain ⟨m,⟨o,_,_,ho,_⟩,_⟩:=I.loc;exact free _ o (λz=>(hch _ z).2.1 rfl) ho I.free
 ·obtain ⟨v,o,ho,hd⟩:=I.cell x c e;exact free c o (λz=>(hch c z).2.2.1 x c e rfl) ho (I.freeC x c e)
 ·obtain ⟨e,n,ne,nf,d⟩:=I.pin p hp;have nch:p.1 ∉ ch:=λz=>(hch p.1 z).2.2.2 p hp rfl;exact ⟨keep p.1 p.2 ne nf nch e n,free p.1 p.2 nch e n,ne,nf,d⟩
theorem Inv.un {t':Nat} (I:Inv X pins σ H s) (u:Un X.fs [] H H' s.heap h') (hok:HOk X.prog X.w H' h'):Inv X pins σ H' {s with heap:=h',toks:=t' }:=by
 obtain ⟨m,⟨o,es,ep,ho,r⟩,_⟩:=id I.loc;obtain ⟨sl,hL⟩:=u.any ho I.free (by simp)
 exact I.step (g':=s.gens) (d':=s.drawn) (ch:=[]) (λ_ z=>nomatch z) (λb o _ hb _ e n=>u.keep b o e n hb (by simp)) (λb o _ hb _ e n=>u.slot b o e n hb (by simp)) (λb o _ e n=>u.free b o e n (by simp)) (λb o _ e=>u.there b o e (by simp)) u.tups u.frzs u.tbls (λm' hm=>by
  obtain ⟨o',es',ep',ho',r'⟩:=hm;rw [ho] at ho';cases ho'
  exact ⟨_,es',ep',hL,r'⟩) hok I.bare
theorem Inv.call {g':Array GenState} {t':Nat} {d':Drawn} {ch:List Addr} (I:Inv X pins σ H s) (u:Un (frs X.stack) ch H H' s.heap h') (hok:HOk X.prog X.w H' h') (hg:AllBare g')
  (hch:∀ b∈ch,(b∈X.ex\/X.s₀.heap.objs.size<=b)/\b≠X.env.locals/\(∀ x c,X.env.cells.lookup x=some c->c≠b)/\∀ p∈X.pn++pins,p.1≠b) :
  Inv X pins σ H' {s with heap:=h',gens:=g',drawn:=d',toks:=t' }:=by
 obtain ⟨m,⟨o,es,ep,ho,r⟩,_⟩:=id I.loc;obtain ⟨sl,hL⟩:=u.any ho I.free λz=>(hch _ z).2.1 rfl
 exact I.step (ch:=ch) hch (λb o hL hb hc e n=>u.keep b o e n (λz=>(List.mem_cons.mp (I.stkSub b z)).elim hL hb) hc) (λb o _ _ hc e n=>u.any e n hc) (λb o hc e n=>u.free b o e n hc) (λb o hc e=>u.there b o e hc) u.tups u.frzs u.tbls (λm' hm=>by
  obtain ⟨o',es',ep',ho',r'⟩:=hm;rw [ho] at ho';cases ho'
  exact ⟨_,es',ep',hL,r'⟩) hok hg
theorem Inv.turned {t':Nat} {it:Addr} (I:Inv X pins σ H s) (k:∀ b o,b≠it->s.heap.get? b=some o->h'.get? b=some o) (hn:H it=none) (hL:it≠X.env.locals)
  (h1:it∈X.ex\/X.s₀.heap.objs.size<=it) (h2:∀ x c,X.env.cells.lookup x=some c->c≠it) (h3:∀ p∈X.pn++pins,p.1≠it):Inv X pins σ H {s with heap:=h',toks:=t' }:=by
 have nit:∀ b u,H b=some u->b≠it:=λb u e z=>by rw [z,hn] at e;cases e
 refine I.step (g':=s.gens) (d':=s.drawn) (ch:=[it]) (λb hb=>?_) (λb o _ _ hc e _=>k b o (λz=>hc (by simp [z])) e) (λb o _ _ hc e _=>⟨o.slots,k b o (λz=>hc (by simp [z])) e⟩) (λ_ _ _ _ n=>n)
  (λb o hc e=>⟨o,k b o (λz=>hc (by simp [z])) e⟩) (λ_ _ e=>e) (λ_ _ _ e=>e) (λb ps e=>⟨#[],by rw [e];simp⟩) (λm hm=>?_) (λb u e=>?_) I.bare
 ·have e:b=it:=by simpa using hb
  subst e;exact ⟨h1,hL,h2,h3⟩
 ·obtain ⟨o,es,ep,ho,r⟩:=hm;exact ⟨o,es,ep,k _ o (Ne.symm hL) ho,r⟩
 ·refine (I.hok b u e).stay (λc v hc q=>k c v ?_ q) (λ_ q=>q) λ_ _ q=>q;rcases hc with z | z
  ·rw [z];exact nit b u e
  ·exact nit c _ z
theorem Inv.tok (I:Inv X pins σ H s) (t:Nat):Inv X pins σ H {s with toks:=t}:=I.un (h':=s.heap) (t':=t) Un.refl I.hok
theorem Inv.kept {t':Nat} (I:Inv X pins σ H s) (k:∀ b u,s.heap.get? b=some u->h'.get? b=some u):Inv X pins σ H {s with heap:=h',toks:=t' }:=I.un (Un.kept k) (I.hok.kept k)
theorem Inv.laid {a:Addr} {o:HO} {t':Nat} (I:Inv X pins σ H s) (k:∀ b u,s.heap.get? b=some u->h'.get? b=some u) (hp:s.heap.objs.size<=a) (new:cq X.prog X.w (upd H a o) h' a o) :
  Inv X pins σ (upd H a o) {s with heap:=h',toks:=t' }:=I.un (Un.laid k hp (I.hok.fresh hp)) (I.hok.laid k hp new)
theorem Inv.write {x e:Addr} {o:HO} {t':Nat} (I:Inv X pins σ H s) (mu:Mut (H x)) (he:e=x\/H e=some (.own x)) (k:∀ b u,b≠e->s.heap.get? b=some u->h'.get? b=some u) (heo:∃ u,h'.get? e=some u)
  (new:cq X.prog X.w (upd H x o) h' x o):Inv X pins σ (upd H x o) {s with heap:=h',toks:=t' }:=I.un (Un.write mu he k heo) (I.hok.write mu he k heo new)
theorem Inv.pins_of {pins':List (Addr×Obj)} (I:Inv X pins σ H s) (h:∀ p∈pins',s.heap.get? p.1=some p.2/\H p.1=none/\p.1≠X.env.locals/\p.1 ∉ X.fs/\∀ v,p.2.data≠.cell v):Inv X pins' σ H s:=
 ⟨I.ok,I.os,I.bare,I.base,I.loc,I.cell,I.free,I.freeC,λp hp=>(List.mem_append.mp hp).elim (λz=>I.pin p (List.mem_append_left _ z)) (h p),I.hok,I.len⟩
theorem vZ {N:List Str} (hN:N.Nodup) {i j:Nat} {x:Str} (a:N[i]?=some x) (b:N[j]?=some x):i=j:=by
 obtain ⟨h1,e1⟩:=List.getElem?_eq_some_iff.mp a;obtain ⟨h2,e2⟩:=List.getElem?_eq_some_iff.mp b;exact (List.getElem_inj hN).mp (e1.trans e2.symm)
theorem Av {M:Model} {A:Around} {E:Value->Shared->Prop} {i:Nat} {x:Str} {v:V} {u:Value} {Q:Unit->Shared->Prop} (I:Inv X pins σ H s) (hN:X.N.Nodup) (hi:X.N[i]?=some x) (hx:Loc X.env.scope x) (r:RelV v u)
  (h:∀ s',Inv X pins (σ.set i (some v)) H s'->(∃ a,Heap.SameBut a s.heap s'.heap/\(a=X.env.locals\/X.env.cells.lookup x=some a))->Q () s') (hf:X.fn x=true\/X.env.scope.names.lookup x=some .local:=by first | exact .inl rfl | exact .inr rfl | assumption):wpAny M A (storeName X.env x u) Q E s:=by
 obtain ⟨m,hn,hl⟩:=id I.loc;have hcls:(X.env.scope.kind == .class || (X.env.scope.kind == .module && X.env.locals != X.env.globals))=false:=by rw [I.ok.kind];rfl
 have hiσ:i < σ.length:=by rw [I.len];exact (List.getElem?_eq_some_iff.mp hi).1
 have cne:=I.cne
 have tracked:∀{a:Addr} {h':Heap},(∃ o,s.heap.get? a=some o/\H a=none)->Heap.SameBut a s.heap h'->HOk X.prog X.w H h':=λ{a h'} ha hs b ob e=>by
  obtain ⟨_,_,hfree⟩:=ha;refine (I.hok b ob e).stay (λc w' hc q=>(hs.2 c ?_).trans q) (λ_ q=>q) λ_ _ q=>q;rintro rfl
  rcases hc with rfl | hc
  ·rw [hfree] at e;cases e
  ·rw [hfree] at hc;cases hc
 rcases hx with hk | hk
 ·refine wpAny_storeName_local hk hn (λh' hn' hs=>?_) hcls;obtain ⟨oL,_,_,hoL,_⟩:=id hn;refine h _ ⟨I.ok,I.os,I.bare,⟨λb o e n hb hx=>?_,λb o e n hb hx=>?_,I.base.free,λb o e hx=>?_,I.base.tups,I.base.frzs,I.base.tbls⟩,⟨_,hn',λj y v' e1 e2 e3=>?_⟩,λy c e=>?_,I.free,I.freeC,λp hp=>?_,tracked ⟨oL,hoL,I.free⟩ hs,by simpa using I.len⟩ ⟨_,hs,.inl rfl⟩
  ·exact (hs.2 b (Nat.ne_of_lt (Nat.lt_of_lt_of_le (Heap.lt_size e) I.ok.above))).trans (I.base.keep b o e n hb hx)
  ·obtain ⟨sl,e1⟩:=I.base.slot b o e n hb hx;exact ⟨sl,(hs.2 b (Nat.ne_of_lt (Nat.lt_of_lt_of_le (Heap.lt_size e) I.ok.above))).trans e1⟩
  ·obtain ⟨o',e1⟩:=I.base.there b o e hx;exact ⟨o',(hs.2 b (Nat.ne_of_lt (Nat.lt_of_lt_of_le (Heap.lt_size e) I.ok.above))).trans e1⟩
  ·by_cases hj:j=i
   ·subst hj;rw [hi] at e1;cases e1
    rw [List.getElem?_set_self hiσ] at e2;cases e2
    exact ⟨u,r,.inl ⟨hk,by simp⟩⟩
   ·rw [List.getElem?_set_ne (Ne.symm hj)] at e2;obtain ⟨u',r',q⟩:=hl j y v' e1 e2 e3;refine ⟨u',r',?_⟩;rcases q with ⟨k,e⟩ | ⟨k,c,e,z⟩
    ·refine .inl ⟨k,?_⟩;have:y≠x:=λe=>hj (vZ hN e1 (e ▸ hi));simp [this,e]
    ·exact .inr ⟨k,c,e,z.sameBut hs (cne y c e)⟩
  ·obtain ⟨w',z⟩:=I.cell y c e;exact ⟨w',z.sameBut hs (cne y c e)⟩
  ·obtain ⟨e,n,ne,nf,d⟩:=I.pin p hp;exact ⟨(hs.2 p.1 ne).trans e,n,ne,nf,d⟩
 ·have hfn:X.fn x=true:=by
   rcases hf with z | z
   ·exact z
   ·rw [z] at hk;cases hk
  obtain ⟨c,hc⟩:=I.ok.has x (.inl hk);obtain ⟨w',z⟩:=I.cell x c hc;refine wpAny_storeName_cell I.ok.kind hk hc z (λh' hc' hs=>?_);obtain ⟨oc,hoc,hocd⟩:=id z;refine h {s with heap:=h' } ⟨I.ok,I.os,I.bare,⟨λb o e n hb hx=>?_,λb o e n hb hx=>?_,I.base.free,λb o e hx=>?_,I.base.tups,I.base.frzs,I.base.tbls⟩,⟨m,hn.sameBut hs (Ne.symm (cne x c hc)),λj y v' e1 e2 e3=>?_⟩,λy c' e=>?_,I.free,I.freeC,λp hp=>?_,tracked ⟨oc,hoc,I.freeC x c hc⟩ hs,by simpa using I.len⟩ ⟨c,hs,.inr hc⟩
  ·exact (hs.2 b (Nat.ne_of_lt (Nat.lt_of_lt_of_le (Heap.lt_size e) (I.ok.cab x c hfn hc)))).trans (I.base.keep b o e n hb hx)
  ·obtain ⟨sl,e1⟩:=I.base.slot b o e n hb hx;exact ⟨sl,(hs.2 b (Nat.ne_of_lt (Nat.lt_of_lt_of_le (Heap.lt_size e) (I.ok.cab x c hfn hc)))).trans e1⟩
  ·obtain ⟨o',e1⟩:=I.base.there b o e hx;exact ⟨o',(hs.2 b (Nat.ne_of_lt (Nat.lt_of_lt_of_le (Heap.lt_size e) (I.ok.cab x c hfn hc)))).trans e1⟩
  ·by_cases hj:j=i
   ·subst hj;rw [hi] at e1;cases e1
    rw [List.getElem?_set_self hiσ] at e2;cases e2
    exact ⟨u,r,.inr ⟨.inl hk,c,hc,hc'⟩⟩
   ·rw [List.getElem?_set_ne (Ne.symm hj)] at e2;obtain ⟨u',r',q⟩:=hl j y v' e1 e2 e3;refine ⟨u',r',?_⟩;rcases q with q | ⟨k,c',e,z'⟩
    ·exact .inl q
    ·refine .inr ⟨k,c',e,z'.sameBut hs ?_⟩;rintro rfl
     exact hj (vZ hN e1 (I.ok.inj _ _ _ e hc ▸ hi))
  ·by_cases hcc:c'=c
   ·subst hcc;exact ⟨_,hc'⟩
   ·obtain ⟨w2,z2⟩:=I.cell y c' e;exact ⟨w2,z2.sameBut hs hcc⟩
  ·obtain ⟨e,n,ne,nf,d⟩:=I.pin p hp;refine ⟨(hs.2 p.1 ?_).trans e,n,ne,nf,d⟩;intro q;rw [q,hoc] at e;have q':oc=p.2:=Option.some.inj e;exact d w' (by rw [<- q'];exact hocd)
theorem uZ {M:Model} {A:Around} {E:Value->Shared->Prop} {i:Nat} {x:Str} {v:V} {u:Value} {Q:Unit->Shared->Prop} (I:Inv X pins σ H s) (hN:X.N.Nodup) (hi:X.N[i]?=some x) (hx:Loc X.env.scope x) (r:RelV v u)
  (h:∀ s',Inv X pins (σ.set i (some v)) H s'->Q () s') (hf:X.fn x=true\/X.env.scope.names.lookup x=some .local:=by first | exact .inl rfl | exact .inr rfl | assumption):wpAny M A (storeName X.env x u) Q E s:=
 Av I hN hi hx r (λs' I' _=>h s' I') hf
theorem Inv.call' {s':Shared} {ch:List Addr} (I:Inv X pins σ H s) (ho:s'.os=s.os) (u:Un (frs X.stack) ch H H' s.heap s'.heap) (hok:HOk X.prog X.w H' s'.heap) (hg:AllBare s'.gens)
  (hch:∀ b∈ch,(b∈X.ex\/X.s₀.heap.objs.size<=b)/\b≠X.env.locals/\(∀ x c,X.env.cells.lookup x=some c->c≠b)/\∀ p∈X.pn++pins,p.1≠b):Inv X pins σ H' s':=by
 obtain ⟨h',g',d',t',o'⟩:=s';have e:o'=s.os:=ho;subst e;exact I.call (g':=g') (t':=t') (d':=d') u hok hg hch
end
abbrev XK:=Value->Option Addr->Hp->Prop
abbrev St:=List (Option V)
abbrev VK:=V->Hp->Prop
abbrev TE:=St->Hp->VK->Prop
abbrev TT:=St->Hp->(Bool->Hp->Prop)->Prop
abbrev TA:=St->Hp->(List V->Hp->Prop)->Prop
structure Ends where
 nx:St->Hp->Prop
 rt:VK
 bk:St->Hp->Prop:=λ_ _=>False
 ct:St->Hp->Prop:=λ_ _=>False
abbrev TS:=Ends->St->Hp->Prop
def EP (X:Cx) (pins:List (Addr×Obj)) (σ:St) (Q:VK) (u:Value) (s':Shared):Prop:=∃ v H',Inv X pins σ H' s'/\RelV v u/\Q v H'
def TP (X:Cx) (pins:List (Addr×Obj)) (σ:St) (Q:Bool->Hp->Prop) (b:Bool) (s':Shared):Prop:=∃ H',Inv X pins σ H' s'/\Q b H'
def AP (X:Cx) (pins:List (Addr×Obj)) (σ:St) (Q:List V->Hp->Prop) (us:List Value) (s':Shared):Prop:=∃ vs H',Inv X pins σ H' s'/\Vals vs us/\Q vs H'
def SP (X:Cx) (pins:List (Addr×Obj)) (D:Ends) (f:Flow) (s':Shared):Prop:=
 match f with
 | .next=>∃ σ' H',Inv X pins σ' H' s'/\D.nx σ' H'
 | .brk=>∃ σ' H',Inv X pins σ' H' s'/\D.bk σ' H'
 | .cont=>∃ σ' H',Inv X pins σ' H' s'/\D.ct σ' H'
 | .ret u=>∃ v σ' H',Inv X pins σ' H' s'/\RelV v u/\D.rt v H'
def PE (X:Cx) (e:Expr) (t:TE):Prop:=
 ∀(pins:List (Addr×Obj)) (s:Shared) (σ:St) (H:Hp) (Q:VK),Inv X pins σ H s->t σ H Q->wpAny (model X.prog X.w) X.A (eval e X.env) (EP X pins σ Q) X.xe s
def PT (X:Cx) (e:Expr) (t:TT):Prop:=
 ∀(pins:List (Addr×Obj)) (s:Shared) (σ:St) (H:Hp) (Q:Bool->Hp->Prop),Inv X pins σ H s->t σ H Q->wpAny (model X.prog X.w) X.A (isTrue e X.env (eval e X.env)) (TP X pins σ Q) X.xe s
def PW (X:Cx) (e:Expr) (t:TT):Prop:=
 ∀(whole:Sem Value) (pins:List (Addr×Obj)) (s:Shared) (σ:St) (H:Hp) (Q:Bool->Hp->Prop),Inv X pins σ H s->t σ H Q->wpAny (model X.prog X.w) X.A (isTrue e X.env whole) (TP X pins σ Q) X.xe s
theorem PW.pt {X:Cx} {e:Expr} {t:TT} (h:PW X e t):PT X e t:=h _
def PA (X:Cx) (es:List Expr) (t:TA):Prop:=
 ∀(pos:Pos) (pins:List (Addr×Obj)) (s:Shared) (σ:St) (H:Hp) (Q:List V->Hp->Prop),Inv X pins σ H s->t σ H Q->wpAny (model X.prog X.w) X.A (spliced (backTo pos (starEach es X.env))) (AP X pins σ Q) X.xe s
def PS (X:Cx) (st:Stmt) (t:TS):Prop:=
 ∀(pins:List (Addr×Obj)) (s:Shared) (σ:St) (H:Hp) (D:Ends),Inv X pins σ H s->t D σ H->wpAny (model X.prog X.w) X.A (exec st X.env) (SP X pins D) X.xe s
def PSs (X:Cx) (st:List Stmt) (t:TS):Prop:=
 ∀(pins:List (Addr×Obj)) (s:Shared) (σ:St) (H:Hp) (D:Ends),Inv X pins σ H s->t D σ H->wpAny (model X.prog X.w) X.A (execs st X.env) (SP X pins D) X.xe s
theorem thn {α:Type} {t:Sem α} {Q Q':α->Shared->Prop} {M:Model} {A:Around} {E:Value->Shared->Prop} {s:Shared} (h:wpAny M A t Q E s) (hQ:∀ a s,Q a s->Q' a s):wpAny M A t Q' E s:=wpAny_mono h hQ λ_ _ x=>x
section
variable {X:Cx}
theorem bin {a b:Expr} {ta tb:TE} (ha:PE X a ta) (hb:PE X b tb) {pins:List (Addr×Obj)} {s:Shared} {σ:St} {H:Hp} {R:V->V->Hp->Prop} (I:Inv X pins σ H s) (h:ta σ H λx H1=>tb σ H1 λy H2=>R x y H2)
  {α:Type} {Q:α->Shared->Prop} {f:Value->Value->Sem α}
  (hf:∀ v u s2 x y H2,Inv X pins σ H2 s2->RelV x v->RelV y u->R x y H2->wpAny (model X.prog X.w) X.A (f v u) Q X.xe s2) :
  wpAny (model X.prog X.w) X.A (eval a X.env) (λv s₁=>wpAny (model X.prog X.w) X.A (eval b X.env) (λu s₂=>wpAny (model X.prog X.w) X.A (f v u) Q X.xe s₂) X.xe s₁) X.xe s:=by
 refine thn (ha pins s σ H _ I h) λv s1 zz=>?_;obtain ⟨x,H1,I1,r1,q1⟩:=zz;refine thn (hb pins s1 σ H1 _ I1 q1) λu s2 zz=>?_;obtain ⟨y,H2,I2,r2,q2⟩:=zz;exact hf v u s2 x y H2 I2 r1 r2 q2
inductive XtVar (i:Nat) (σ:St) (H:Hp) (Q:VK):Prop where
 | mk (v:V) (z_0:σ[i]?=some (some v)) (z_1:Q v H):XtVar i σ H Q
def tVar (i:Nat):TE:=λσ H Q=>XtVar i σ H Q
inductive XBl (x:V) (P:Bool->Prop):Prop where
 | mk (c:Bool) (e:x=.bl c) (q:P c):XBl x P
def tC (v:V):TE:=λ_ H Q=>Q v H
theorem DC {i:Nat} {x:Str} {pos:Pos} (hN:X.N[i]?=some x) (hv:Vis X.env.scope x) (hd:(x == ("__debug__":Str))=false:=by decide) (hcd:(x == ("__classdict__":Str))=false:=by decide):PE X (.Name x pos) (tVar i):=by
 intro pins s σ H Q I h;obtain ⟨v,e,h⟩:=h;obtain ⟨m,hn,hl⟩:=I.loc;obtain ⟨u,r,l⟩:=hl i x v hN e hv;have fin:EP X pins σ Q u s:=⟨v,H,I,r,h⟩;rcases l with ⟨hk,hm⟩ | ⟨hk,c,hc,hcell⟩
 ·exact wpAny_Name (wpAny_loadName_local I.ok.kind hk hn hm fin) hd
 ·rcases hk with hk | hk
  ·exact wpAny_Name (wpAny_loadName_cell I.ok.kind hk hc hcell fin) hd
  ·exact wpAny_Name (wpAny_loadName_free I.ok.kind hk hc hcell fin hcd) hd
theorem aq {i j pos}:PE X (.Constant (.int i) j pos) (tC (.int i)):=λ_ _ _ H _ I h=>wpAny_Constant_int ⟨.int i,H,I.tok _,⟨_,rfl⟩,h⟩
theorem kK {b j pos}:PE X (.Constant (.bool b) j pos) (tC (.bl b)):=λ_ _ _ H _ I h=>Constant_bool ⟨.bl b,H,I,rfl,h⟩
theorem cQ {j pos}:PE X (.Constant .none j pos) (tC .non):=λ_ _ _ H _ I h=>Constant_none ⟨.non,H,I,rfl,h⟩
theorem aI {x j pos}:PE X (.Constant (.str x) j pos) (tC (.str x)):=λ_ _ _ H _ I h=>Calls.Constant_str ⟨.str x,H,I.tok _,⟨_,rfl⟩,h⟩
def Gl (X:Cx) (x:Str):Prop:=X.env.kindOf x=some .globalImplicit
theorem ky {E:Value->Shared->Prop} {pins:List (Addr×Obj)} {s:Shared} {σ:St} {H:Hp} {x:Str} {u:Value} {pos:Pos} {Q:Value->Shared->Prop} (I:Inv X pins σ H s) (hg:Gl X x) (hm:X.mg x=some u) (h:Q u s)
  (hd:(x == ("__debug__":Str))=false:=by decide):wpAny (model X.prog X.w) X.A (eval (.Name x pos) X.env) Q E s:=
 Calls.Name_function_global I.ok.kind hg (Calls.loadGlobal_global (by rw [I.ok.glob];exact I.mod.glob.keeps I.bk) hm h) hd
theorem nK {E:Value->Shared->Prop} {pins:List (Addr×Obj)} {s:Shared} {σ:St} {H:Hp} {x:Str} {u:Value} {pos:Pos} {Q:Value->Shared->Prop} (I:Inv X pins σ H s) (hg:Gl X x) (hm:X.mg x=none) (hv:bootBuiltins x=some u) (h:Q u s)
  (hn:x≠"__name__":=by decide) (hd:(x == ("__debug__":Str))=false:=by decide):wpAny (model X.prog X.w) X.A (eval (.Name x pos) X.env) Q E s:=by
 obtain ⟨mb,h1,h2⟩:=I.mod.blt;exact Calls.Name_function_global I.ok.kind hg (Calls.loadGlobal_builtin (by rw [I.ok.glob];exact I.mod.glob.keeps I.bk) hm (by rw [I.ok.blt];exact h1.keeps I.bk) ((h2 x hn).trans hv) h) hd
theorem cL {x:Str} {v:V} {u:Value} {pos:Pos} (hg:Gl X x) (hm:X.mg x=some u) (r:RelV v u) (hd:(x == ("__debug__":Str))=false:=by decide):PE X (.Name x pos) (tC v):=
 λ_ _ _ H _ I h=>ky I hg hm ⟨v,H,I,r,h⟩ hd
theorem gD {x:Str} {v:V} {u:Value} {pos:Pos} (hg:Gl X x) (hm:X.mg x=none) (hv:bootBuiltins x=some u) (r:RelV v u) (hn:x≠"__name__":=by decide) (hd:(x == ("__debug__":Str))=false:=by decide):PE X (.Name x pos) (tC v):=
 λ_ _ _ H _ I h=>nK I hg hm hv ⟨v,H,I,r,h⟩ hn hd
variable {a b:Expr} {ta tb:TE} {pos:Pos}
def PC (X:Cx) (op:CmpOp) (a b:Expr) (t:TE):Prop:=
 ∀(
  pins:List (Addr×Obj)) (s:Shared) (σ:St) (H:Hp) (Q:VK),Inv X pins σ H s->t σ H Q->
  wpAny (model X.prog X.w) X.A (eval a X.env) (λv s₁=>wpAny (model X.prog X.w) X.A (eval b X.env) (λu s₂=>wpAny (model X.prog X.w) X.A (compareOp op v u) (EP X pins σ Q) X.xe s₂) X.xe s₁) X.xe s
def tB (t:TE):TT:=λσ H Q=>t σ H λx H1=>XBl x λc=>Q c H1
theorem pt_cmp {op:CmpOp} {t:TE} (h:PC X op a b t) (h1:behindInMarks op b=false:=by first | exact nobehind _ (by decide) (by decide) | rfl):PT X (.Compare a [op] [b] pos) (tB t):=by
 intro pins s σ H Q I hw;refine wpAny_isTrue_Compare1 (thn (h pins s σ H _ I hw) λv s1 h1=>thn h1 λu s2 h2=>thn h2 λc s3 zz=>?_) h1;obtain ⟨x,H1,I1,r1,q1⟩:=zz;obtain ⟨d,rfl,q⟩:=q1;cases r1
 exact wpAny_truthy_bool ⟨H1,I1,q⟩
theorem gk {e:Expr} {t:TE} (h:PE X e t) (he:∀ whole,isTrue e X.env whole=(do let v <- whole;standAt e.pos;holding [v] (truthy v)):=by intro _;rfl):PT X e (tB t):=by
 intro pins s σ H Q I hw;refine isTrue_plain (thn (h pins s σ H _ I hw) λv s1 zz=>?_) (he _);obtain ⟨x,H1,I1,r1,q1⟩:=zz;obtain ⟨d,rfl,q⟩:=q1;cases r1
 exact wpAny_truthy_bool ⟨H1,I1,q⟩
variable {tA tB':TT} {rest:List Expr}
def tAnd (t u:TT):TT:=λσ H Q=>t σ H λc H1=>if c=true then u σ H1 Q else Q false H1
def tOr (t u:TT):TT:=λσ H Q=>t σ H λc H1=>if c=true then Q true H1 else u σ H1 Q
def tNot (t:TT):TT:=λσ H Q=>t σ H λc H1=>Q (!c) H1
theorem oT (ha:PT X a tA):PW X (.BoolOp .And [a] pos) tA:=by
 intro wh pins s σ H Q I h;refine isTrue_and (thn (ha pins s σ H Q I h) λc s1 e=>?_);cases c with
 | true=>exact isTrue_and_nil e
 | false=>exact e
theorem gW (ha:PT X a tA):PW X (.BoolOp .Or [a] pos) tA:=by
 intro wh pins s σ H Q I h;refine isTrue_or (thn (ha pins s σ H Q I h) λc s1 e=>?_);cases c with
 | false=>exact isTrue_or_nil e
 | true=>exact e
theorem tV (ha:PT X a tA) (hb:PW X (.BoolOp .And (b::rest) pos) tB'):PW X (.BoolOp .And (a::b::rest) pos) (tAnd tA tB'):=by
 intro wh pins s σ H Q I h;refine isTrue_and (thn (ha pins s σ H _ I h) λc s1 zz=>?_);obtain ⟨H1,I1,q1⟩:=zz;cases c with
 | true=>exact hb wh pins s1 σ H1 Q I1 q1
 | false=>exact ⟨H1,I1,q1⟩
theorem ig (ha:PT X a tA) (hb:PW X (.BoolOp .Or (b::rest) pos) tB'):PW X (.BoolOp .Or (a::b::rest) pos) (tOr tA tB'):=by
 intro wh pins s σ H Q I h;refine isTrue_or (thn (ha pins s σ H _ I h) λc s1 zz=>?_);obtain ⟨H1,I1,q1⟩:=zz;cases c with
 | true=>exact ⟨H1,I1,q1⟩
 | false=>exact hb wh pins s1 σ H1 Q I1 q1
theorem iy (ha:PT X a tA):PT X (.UnaryOp .Not a pos) (tNot tA):=by
 intro pins s σ H Q I h;exact isTrue_not (ha pins s σ H (λc H1=>Q (!c) H1) I h)
def tAndV (ta tb:TE):TE:=λσ H Q=>ta σ H λx H1=>XBl x λc=>if c=true then tb σ H1 Q else Q (.bl false) H1
def tNotV (ta:TE):TE:=λσ H Q=>ta σ H λx H1=>XBl x λc=>Q (.bl (!c)) H1
theorem qp {op} {t:TE} (h:PE X a t):PE X (.BoolOp op [a] pos) t:=λpins s σ H Q I hw=>BoolOp_one (h pins s σ H Q I hw)
theorem kZ (ha:PE X a ta) (hb:PE X (.BoolOp .And (b::rest) pos) tb):PE X (.BoolOp .And (a::b::rest) pos) (tAndV ta tb):=by
 intro pins s σ H Q I h;refine BoolOp_and (thn (ha pins s σ H _ I h) λv s1 zz=>?_);obtain ⟨x,H1,I1,r1,q1⟩:=zz;obtain ⟨c,rfl,q1⟩:=q1;cases r1
 refine wpAny_truthy_bool ?_;cases c with
 | true=>exact hb pins s1 σ H1 Q I1 q1
 | false=>exact ⟨.bl false,H1,I1,rfl,q1⟩
theorem DD (ha:PE X a ta):PE X (.UnaryOp .Not a pos) (tNotV ta):=by
 intro pins s σ H Q I h;refine UnaryOp_ (thn (ha pins s σ H _ I h) λv s1 zz=>?_);obtain ⟨x,H1,I1,r1,q1⟩:=zz;obtain ⟨c,rfl,q1⟩:=q1;cases r1
 exact not_of (wpAny_truthy_bool ⟨.bl (!c),H1,I1,rfl,q1⟩)
def tIf (t:TT) (ta tb:TE):TE:=λσ H Q=>t σ H λc H1=>if c=true then ta σ H1 Q else tb σ H1 Q
theorem mr {c:Expr} (hc:PT X c tA) (ha:PE X a ta) (hb:PE X b tb):PE X (.IfExp c a b pos) (tIf tA ta tb):=by
 intro pins s σ H Q I h;refine wpAny_IfExp (thn (hc pins s σ H _ I h) λd s1 zz=>?_);obtain ⟨H1,I1,q1⟩:=zz;cases d with
 | true=>exact ha pins s1 σ H1 Q I1 q1
 | false=>exact hb pins s1 σ H1 Q I1 q1
end
def SqL (K:W.Frag) (H:Hp) (a:Addr) (xs:List V):Prop:=
 Rd H a (.lst xs)\/
  ∃(o:Obj) (its:Array Value) (n:Nat),K.lookup a=some o/\o.cls=.type "list"/\o.dict=none/\o.data=.seq its n/\its.size<=sizeLine/\Vals xs its.toList
def SqT (K:W.Frag) (H:Hp) (a:Addr) (xs:List V):Prop:=
 Rd H a (.tup xs)\/
  ∃(o:Obj) (its:Array Value) (n:Nat),K.lookup a=some o/\o.cls=.type "tuple"/\o.data=.seq its n/\its.size<=sizeLine/\Vals xs its.toList
def absV:Value->Option V
 | .none=>some .non
 | .bool b=>some (.bl b)
 | .int i _=>some (.int i)
 | .str x _=>some (.str x)
 | .bytes b _=>some (.byt b)
 | .float b _=>some (.flt b)
 | .ref a=>some (.ref a)
 | .type n=>some (.ty n)
 | _=>none
theorem RelV.abs {x:V} {u:Value} (r:RelV x u):absV u=some x:=by
 cases x with
 | non=>cases r;rfl
 | bl _=>cases r;rfl
 | int _=>obtain ⟨t,rfl⟩:=r;rfl
 | str _=>obtain ⟨t,rfl⟩:=r;rfl
 | byt _=>obtain ⟨t,rfl⟩:=r;rfl
 | flt _=>obtain ⟨t,rfl⟩:=r;rfl
 | ref _=>cases r;rfl
 | ty _=>cases r;rfl
theorem RelV.inj {x y:V} {u:Value} (r:RelV x u) (q:RelV y u):x=y:=Option.some.inj (r.abs.symm.trans q.abs)
theorem Vals.inj:∀{xs ys:List V} {us:List Value},Vals xs us->Vals ys us->xs=ys
 | _,_,_,.nil,.nil=>rfl
 | _,_,_,.cons r t,.cons r' t'=>by rw [r.inj r',Vals.inj t t']
section
variable {X:Cx} {pins:List (Addr×Obj)} {σ:St} {H:Hp} {s:Shared} {a:Addr} {xs ys:List V}
theorem SqL.of {K:W.Frag} (h:H a=some (.lst xs)):SqL K H a xs:=.inl (.inl h)
theorem SqT.of {K:W.Frag} (h:H a=some (.tup xs)):SqT K H a xs:=.inl (.inl h)
theorem Inv.list (I:Inv X pins σ H s) (h:SqL X.K H a xs):∃ its:List Value,Vals xs its/\PlainL s.heap a its.toArray/\xs.length<=sizeLine:=by
 rcases h with h | ⟨o,its,n,hk,hc,hd,hs,hz,r⟩
 ·obtain ⟨z,its,n,r,e⟩:=h.ok I.hok;exact ⟨its,r,⟨_,n,e,rfl,rfl,rfl⟩,z⟩
 ·refine ⟨its.toList,r,⟨o,n,I.kIn a o hk,hc,hd,by simpa using hs⟩,?_⟩;have e:=r.length;simp only [Array.length_toList] at e;omega
theorem Inv.tuple (I:Inv X pins σ H s) (h:SqT X.K H a xs):∃ its:List Value,Vals xs its/\IsTup s.heap a its.toArray/\xs.length<=sizeLine:=by
 rcases h with h | ⟨o,its,n,hk,hc,hs,hz,r⟩
 ·obtain ⟨z,its,r,p⟩:=h.ok I.hok;exact ⟨its,r,p,z⟩
 ·refine ⟨its.toList,r,⟨o,I.kIn a o hk,hc,n,by simpa using hs⟩,?_⟩;have e:=r.length;simp only [Array.length_toList] at e;omega
theorem Inv.list_inj (I:Inv X pins σ H s) (h:SqL X.K H a xs) (h':SqL X.K H a ys):xs=ys:=by
 obtain ⟨its,r,⟨o,n,e,_,_,d⟩,_⟩:=I.list h;obtain ⟨its',r',⟨o',n',e',_,_,d'⟩,_⟩:=I.list h';rw [e] at e';cases e'
 rw [d] at d';injection d' with d1 _
 have:its=its':=by simpa using congrArg Array.toList d1
 subst this;exact r.inj r'
theorem Inv.tuple_inj (I:Inv X pins σ H s) (h:SqT X.K H a xs) (h':SqT X.K H a ys):xs=ys:=by
 obtain ⟨its,r,⟨o,e,_,n,d⟩,_⟩:=I.tuple h;obtain ⟨its',r',⟨o',e',_,n',d'⟩,_⟩:=I.tuple h';rw [e] at e';cases e'
 rw [d] at d';injection d' with d1 _
 have:its=its':=by simpa using congrArg Array.toList d1
 subst this;exact r.inj r'
end
abbrev Cx.wish (X:Cx) (E:Value->Shared->Prop):Cx:={X with xe:=E}
abbrev Cx.nox (X:Cx):Cx:=X.wish λ_ _=>False
theorem Cx.Ok.wish {X:Cx} (ok:X.Ok) (E:Value->Shared->Prop):(X.wish E).Ok:=
 ⟨ok.mod,ok.kind,ok.glob,ok.blt,ok.above,ok.inj,ok.has,ok.cab,ok.hd,ok.frames,ok.stk,ok.exf,ok.bs,ok.bsz,ok.noex,ok.exfs,ok.funs,ok.frf⟩
theorem Cx.Ok.unwish {X:Cx} {E:Value->Shared->Prop} (ok:(X.wish E).Ok):X.Ok:=
 ⟨ok.mod,ok.kind,ok.glob,ok.blt,ok.above,ok.inj,ok.has,ok.cab,ok.hd,ok.frames,ok.stk,ok.exf,ok.bs,ok.bsz,ok.noex,ok.exfs,ok.funs,ok.frf⟩
section
variable {X:Cx} {pins:List (Addr×Obj)} {σ:St} {H:Hp} {s:Shared} {E:Value->Shared->Prop}
theorem Inv.wish (I:Inv X pins σ H s) (E:Value->Shared->Prop):Inv (X.wish E) pins σ H s:=⟨I.ok.wish E,I.os,I.bare,I.base,I.loc,I.cell,I.free,I.freeC,I.pin,I.hok,I.len⟩
theorem Inv.unwish (I:Inv (X.wish E) pins σ H s):Inv X pins σ H s:=⟨I.ok.unwish,I.os,I.bare,I.base,I.loc,I.cell,I.free,I.freeC,I.pin,I.hok,I.len⟩
theorem SP.unwish {D:Ends} {f:Flow} {s':Shared} (h:SP (X.wish E) pins D f s'):SP X pins D f s':=by
 cases f with
 | next=>obtain ⟨σ',H',I,q⟩:=h;exact ⟨σ',H',I.unwish,q⟩
 | brk=>obtain ⟨σ',H',I,q⟩:=h;exact ⟨σ',H',I.unwish,q⟩
 | cont=>obtain ⟨σ',H',I,q⟩:=h;exact ⟨σ',H',I.unwish,q⟩
 | ret u=>obtain ⟨v,σ',H',I,r,q⟩:=h;exact ⟨v,σ',H',I.unwish,r,q⟩
theorem PSs.nox {st:List Stmt} {t:TS} (h:PSs X.nox st t):PSs X st t:=λpins s σ H D I hw =>
 wpAny_mono (h pins s σ H D (I.wish _) hw) (λ_ _ q=>q.unwish) λ_ _ z=>False.elim z
end
section
variable {X:Cx} {st:Stmt} {rest:List Stmt} {t u:TS} {e:Expr} {te:TE} {pos:Pos}
def tNext:TS:=λD σ H=>D.nx σ H
def tSeq (t u:TS):TS:=λD σ H=>t {D with nx:=u D} σ H
theorem aH:PSs X [] tNext:=λ_ _ σ H _ I h=>wpAny_execs_nil ⟨σ,H,I,h⟩
theorem ah (h1:PS X st t) (h2:PSs X rest u):PSs X (st::rest) (tSeq t u):=by
 intro pins s σ H D I h;refine wpAny_execs_cons (thn (h1 pins s σ H {D with nx:=u D} I h) λf s1 q=>?_)
 cases f with
 | next =>
  obtain ⟨σ',H',I',q⟩:=q;exact h2 pins s1 σ' H' D I' q
 | ret v=>exact q
 | brk=>exact q
 | cont=>exact q
theorem ao (h1:PS X st t):PSs X [st] t:=by
 intro pins s σ H D I h;refine wpAny_execs_cons (thn (h1 pins s σ H D I h) λf s1 q=>?_);cases f with
 | next=>exact wpAny_execs_nil q
 | ret v=>exact q
 | brk=>exact q
 | cont=>exact q
theorem Inv.quiet {pins:List (Addr×Obj)} {σ:St} {H:Hp} {s:Shared} (I:Inv X pins σ H s):interactive X.env=false:=by simp [interactive,I.ok.kind]
def tDrop (te:TE):TS:=λD σ H=>te σ H λ_ H1=>D.nx σ H1
theorem bf (he:PE X e te) (hs:swapsWith e none pos.line X.env=pure false:=by rfl):PS X (.Expr e pos) (tDrop te):=by
 intro pins s σ H D I h;refine wpAny_Expr_any (thn (he pins s σ H _ I h) λv s1 zz=>?_) I.quiet hs;obtain ⟨x,H1,I1,r1,q1⟩:=zz;exact ⟨σ,H1,I1,q1⟩
def Cn (te:TE):TS:=λD σ H=>te σ H D.rt
theorem av (he:PE X e te):PS X (.Return (some e) pos) (Cn te):=by
 intro pins s σ H D I h;refine wpAny_Return_some (thn (he pins s σ H _ I h) λv s1 zz=>?_);obtain ⟨x,H1,I1,r1,q1⟩:=zz;exact ⟨x,σ,H1,I1,r1,q1⟩
def tIfS (c:TT) (t u:TS):TS:=λD σ H=>c σ H λb H1=>if b=true then t D σ H1 else u D σ H1
theorem aP {c:Expr} {a b:List Stmt} {tc:TT} (hc:PT X c tc) (ha:PSs X a t) (hb:PSs X b u):PS X (.If c a b pos) (tIfS tc t u):=by
 intro pins s σ H D I h;refine wpAny_If (thn (hc pins s σ H _ I h) λd s1 zz=>?_);obtain ⟨H1,I1,q1⟩:=zz;cases d with
 | true=>exact ha pins s1 σ H1 D I1 q1
 | false=>exact hb pins s1 σ H1 D I1 q1
def tNever:TS:=λ_ _ _=>False
theorem vN:PS X st tNever:=λ_ _ _ _ _ _ h=>h.elim
end
abbrev TG:=V->St->Hp->(St->Hp->Prop)->Prop
abbrev TGs:=List V->St->Hp->(St->Hp->Prop)->Prop
def PG (X:Cx) (target:Expr) (t:TG):Prop:=
 ∀(
  pins:List (Addr×Obj)) (s:Shared) (σ:St) (H:Hp) (v:V) (u:Value) (Q:St->Hp->Prop),Inv X pins σ H s->RelV v u->t v σ H Q->
  wpAny (model X.prog X.w) X.A (assign target X.env u) (λ_ s'=>∃ σ' H',Inv X pins σ' H' s'/\Q σ' H') X.xe s
def PGs (X:Cx) (ts:List Expr) (t:TGs):Prop:=
 ∀(
  pins:List (Addr×Obj)) (s:Shared) (σ:St) (H:Hp) (vs:List V) (us:List Value) (Q:St->Hp->Prop),Inv X pins σ H s->Vals vs us->t vs σ H Q->
  wpAny (model X.prog X.w) X.A (assignInOrder ((assignEach ts X.env).map (·.2)) us) (λ_ s'=>∃ σ' H',Inv X pins σ' H' s'/\Q σ' H') X.xe s
section
variable {X:Cx} {pos:Pos}
def sM (i:Nat):TG:=λv σ H Q=>Q (σ.set i (some v)) H
theorem aY {i:Nat} {x:Str} (hN:X.N.Nodup) (hi:X.N[i]?=some x) (hx:Loc X.env.scope x) (hf:X.fn x=true\/X.env.scope.names.lookup x=some .local:=by first | exact .inl rfl | exact .inr rfl | assumption):PG X (.Name x pos) (sM i):=by
 intro pins s σ H v u Q I r h;exact wpAny_assign_Name (uZ I hN hi hx r (λs' I'=>⟨_,H,I',h⟩) hf)
def gNil:TGs:=λvs σ H Q=>vs=[]/\Q σ H
def gCons (t:TG) (u:TGs):TGs:=λvs σ H Q=>∃ v r,vs=v::r/\t v σ H λσ' H'=>u r σ' H' Q
theorem eV:PGs X [] gNil:=by
 intro pins s σ H vs us Q I r h;obtain ⟨e,h⟩:=h;subst e;cases r
 exact assignInOrder_nil ⟨σ,H,I,h⟩
theorem bw {e:Expr} {es:List Expr} {t:TG} {u:TGs} (h1:PG X e t) (h2:PGs X es u)
  (hs:(assignEach (e::es) X.env).map (·.2)=assign e X.env::(assignEach es X.env).map (·.2):=by rfl):PGs X (e::es) (gCons t u):=by
 intro pins s σ H vs us Q I r h;obtain ⟨v,vr,e1,h⟩:=h;subst e1;cases r with
 | cons r rr =>
  rw [hs];refine assignInOrder_cons (thn (h1 pins s σ H _ _ _ I r h) λ_ s1 zz=>?_);obtain ⟨σ1,H1,I1,q1⟩:=zz;exact h2 pins s1 σ1 H1 _ _ Q I1 rr q1
def gTup (K:W.Frag) (n:Nat) (t:TGs):TG:=λv σ H Q=>∃ a xs,v=.ref a/\SqT K H a xs/\xs.length=n/\t xs σ H Q
theorem kY {es:List Expr} {k:Nat} {t:TGs} {n:Nat} (hc:X.calm=true) (h:PGs X es t)
  (hn:(assignEach es X.env).length=n:=by rfl) (hst:(assignEach es X.env).findIdx? (·.1)=none:=by rfl):PG X (.Tuple es k pos) (gTup X.K n t):=by
 intro pins s σ H v u Q I r hw;obtain ⟨a,xs,e1,hq,hl,hw⟩:=hw;subst e1;cases r
 obtain ⟨its,rv,ht,hz⟩:=I.tuple hq;refine assign_Tuple_tuple (I.ok.hd hc) ht (by simp [hn,<- hl,rv.length]) hst λh' hx=>?_;have I1:Inv X pins σ H {s with heap:=h' }:=I.kept (t':=s.toks) λb o e=>hx b o (Nat.ne_of_lt (Heap.lt_size e)) e
 exact h pins _ σ H xs _ Q I1 (by simpa using rv) hw
def tAsg (te:TE) (g:TG):TS:=λD σ H=>te σ H λx H1=>g x σ H1 D.nx
theorem xP {tg e:Expr} {te:TE} {g:TG} (he:PE X e te) (hg:PG X tg g) (hs:swapsWithSole [tg] e pos.line X.env=pure false:=by rfl) (hw:swappedStores [tg] e X.env=pure none:=by rfl)
  (h1:(assignEach [tg] X.env).map (·.2)=[assign tg X.env]:=by rfl):PS X (.Assign [tg] e pos) (tAsg te g):=by
 intro pins s σ H D I h;refine wpAny_Assign_stores (thn (he pins s σ H _ I h) λv s1 zz=>?_) hs hw;obtain ⟨x,H1,I1,r1,q1⟩:=zz;rw [h1];exact thn (hg pins s1 σ H1 x v _ I1 r1 q1) λ_ s2 q=>q
theorem aJ {i:Nat} {x:Str} {e:Expr} {te:TE} {pos':Pos} (hN:X.N.Nodup) (hi:X.N[i]?=some x) (hx:Loc X.env.scope x) (he:PE X e te) (hs:swapsWith e (some (.Name x pos')) pos.line X.env=pure false:=by rfl) (hf:X.fn x=true\/X.env.scope.names.lookup x=some .local:=by first | exact .inl rfl | exact .inr rfl | assumption) :
  PS X (.Assign [.Name x pos'] e pos) (tAsg te (sM i)):=by
 intro pins s σ H D I h;refine wpAny_Assign_Name (thn (he pins s σ H _ I h) λv s1 zz=>?_) hs;obtain ⟨y,H1,I1,r1,q1⟩:=zz;exact uZ I1 hN hi hx r1 (λs2 I2=>⟨_,H1,I2,q1⟩) hf
end
section
variable {X:Cx} {pos:Pos}
def tWhile (c:TT) (tb:TS):TS:=λD σ H=>∃ W:Nat->St->Hp->Prop,(∃ m,W m σ H)/\∀ m σ H,W m σ H->
 c σ H λb H1=>if b=true then ∃ N:St->Hp->Prop,(∀ σ' H',N σ' H'->∃ m',m' < m/\W m' σ' H')/\tb {D with nx:=N,ct:=N,bk:=D.nx} σ H1 else D.nx σ H1
theorem jE {c:Expr} {body:List Stmt} {tc:TT} {tb:TS} (hp:PassesOwn (model X.prog X.w) X.A X.env X.xe) (hc:PT X c tc) (hb:PSs X body tb):PS X (.While c body [] pos) (tWhile tc tb):=by
 intro pins s σ H D I h;obtain ⟨W,⟨m0,w0⟩,turn⟩:=h;refine wpAny_While (codeAny_whileLoop (λn s'=>∃ σ' H',Inv X pins σ' H' s'/\W n σ' H') ?_ m0 ⟨σ,H,I,w0⟩);rintro n s1 ⟨σ1,H1,I1,w1⟩
 refine wpAny_passesOwn hp (thn (hc pins s1 σ1 H1 _ I1 (turn n σ1 H1 w1)) λb s2 zz=>?_);obtain ⟨H2,I2,q2⟩:=zz;cases b with
 | true =>
  obtain ⟨N,hN,q2⟩:=q2;rw [if_pos rfl];refine wpAny_passesOwn hp (thn (hb pins s2 σ1 H2 _ I2 q2) λf s3 q3=>?_);cases f with
  | next =>
   obtain ⟨σ3,H3,I3,n3⟩:=q3;obtain ⟨m',hm,w3⟩:=hN σ3 H3 n3;exact ⟨m',hm,σ3,H3,I3,w3⟩
  | cont =>
   obtain ⟨σ3,H3,I3,n3⟩:=q3;obtain ⟨m',hm,w3⟩:=hN σ3 H3 n3;exact ⟨m',hm,σ3,H3,I3,w3⟩
  | brk=>exact q3
  | ret v=>exact q3
 | false =>
  rw [if_neg Bool.false_ne_true];exact wpAny_execs_nil ⟨σ1,H2,I2,q2⟩
end
structure It where
 go:Nat->Hp->Prop
 yld:Nat->Hp->V->Hp->Prop
 stop:Nat->Hp->Prop
def iT (X:Cx) (pins:List (Addr×Obj)) (H:Hp) (b:Addr):Prop:=
 H b=none/\b≠X.env.locals/\b ∉ X.fs/\(b∈X.ex\/X.s₀.heap.objs.size<=b)/\(∀ x c,X.env.cells.lookup x=some c->c≠b)/\∀ p∈X.pn++pins,p.1≠b
theorem Inv.fpOk {X:Cx} {pins:List (Addr×Obj)} {σ:St} {H H':Hp} {s:Shared} {b:Addr} (I:Inv X pins σ H s) (hb:s.heap.objs.size<=b) (hn:H' b=none):iT X pins H' b:=by
 refine ⟨hn,Nat.ne_of_gt (Nat.lt_of_lt_of_le I.lt hb),I.nofs hb,.inr (Nat.le_trans I.sz hb),λx c e z=>?_,λp hp z=>?_⟩
 ·obtain ⟨v,q⟩:=I.cell x c e;exact absurd (Nat.lt_of_lt_of_le q.lt (by rw [z];exact hb)) (Nat.lt_irrefl _)
 ·exact absurd (Nat.lt_of_lt_of_le (Heap.lt_size (I.pin p hp).1) (by rw [z];exact hb)) (Nat.lt_irrefl _)
structure Turn (P:Program) (w:World) (K:W.Frag) (tg:Expr) (J:It) (fp:List Addr) (it:Addr) (tn:Nat->Heap->Prop):Prop where
 mem:it∈fp
 obj:∀ i h,tn i h->∀ b∈fp,∃ o,h.get? b=some o/\∀ v,o.data≠.cell v
 keep:∀ i h h',tn i h->(∀ b∈fp,∀ o,h.get? b=some o->h'.get? b=some o)->tn i h'
 item:∀(X:Cx),X.prog=P->X.w=w->X.K=K->X.calm=true->∀(i:Nat) (pins:List (Addr×Obj)) (s:Shared) (σ:St) (H:Hp) (E:Value->Shared->Prop),Inv X pins σ H s->(∀ b∈fp,iT X pins H b)->tn i s.heap->J.go i H->
  wpAny (model P w) X.A (pyNext (.ref it)) (λr s1=>∃ u,r=some u/\
   wpAny (model P w) X.A (letOwnedTupleGo tg (.ref it) u) (λ_ s2=>∃ x H',Inv X pins σ H' s2/\RelV x u/\J.yld i H x H'/\tn (i+1) s2.heap/\∀ b∈fp,H' b=none) E s1) E s
 done:∀(X:Cx),X.prog=P->X.w=w->X.K=K->X.calm=true->∀(i:Nat) (pins:List (Addr×Obj)) (s:Shared) (σ:St) (H:Hp) (E:Value->Shared->Prop),Inv X pins σ H s->(∀ b∈fp,iT X pins H b)->tn i s.heap->J.stop i H->
  wpAny (model P w) X.A (pyNext (.ref it)) (λr s1=>r=none/\Inv X pins σ H s1) E s
 self:∀(A:Around) (i:Nat) (s:Shared) (Q:Value->Shared->Prop) (E:Value->Shared->Prop),tn i s.heap->Q (.ref it) s->wpAny (model P w) A (pyIter (.ref it)) Q E s
abbrev TI:=St->Hp->(It->Hp->Prop)->Prop
def PIE (X:Cx) (pins:List (Addr×Obj)) (σ:St) (tg:Expr) (R:It->Hp->Prop) (itv:Value) (s2:Shared):Prop:=
 ∃(it:Addr) (fp:List Addr) (tn:Nat->Heap->Prop) (J:It) (H':Hp),itv=.ref it/\Inv X pins σ H' s2/\Turn X.prog X.w X.K tg J fp it tn/\tn 0 s2.heap/\(∀ b∈fp,iT X pins H' b)/\R J H'
def PI (X:Cx) (tg iter:Expr) (wi:TI):Prop:=
 ∀(
  pins:List (Addr×Obj)) (s:Shared) (σ:St) (H:Hp) (R:It->Hp->Prop),Inv X pins σ H s->wi σ H R->
  wpAny (model X.prog X.w) X.A (eval iter X.env) (λv s1=>wpAny (model X.prog X.w) X.A (pyIter v) (PIE X pins σ tg R) X.xe s1) X.xe s
theorem Ew {M:Model} {A:Around} {E:Value->Shared->Prop} {s:Shared} {tg:Expr} {it:Addr} {u:Value} {o:Obj} {n:String} {vs:Array Value} {Q:Unit->Shared->Prop} (ho:s.heap.get? it=some o) (hc:o.cls=.type n) (hd:o.data=.fields vs)
  (hn:["enumerate","zip","dict_itemiterator","dict_reverseitemiterator","odict_iterator","itertools.zip_longest","itertools.pairwise"].contains n=false) (hQ:Q () s):wpAny M A (letOwnedTupleGo tg (.ref it) u) Q E s:=by
 unfold letOwnedTupleGo
 cases tg <;> first
  | exact wpAny_pure hQ
  | (cases u <;> first
    | exact wpAny_pure hQ
    | (
     refine wpAny_bind (wpAny_load ho ?_);rw [hc,hd];show wpAny M A (if (["enumerate","zip","dict_itemiterator","dict_reverseitemiterator","odict_iterator","itertools.zip_longest","itertools.pairwise"].contains n && vs[0]? == some (rawInt _))=true then _ else _) Q E s;rw [if_neg (by intro h;rw [hn,Bool.false_and] at h;cases h)]
     exact wpAny_pure hQ))
def Itl (K:W.Frag) (a:Addr):It:=
 ⟨λi H=>∃ xs x,SqL K H a xs/\xs[i]?=some x,λi H x H'=>H'=H/\∀ xs,SqL K H a xs->xs[i]?=some x,λi H=>∃ xs,SqL K H a xs/\xs.length<=i⟩
def Itt (K:W.Frag) (a:Addr):It:=
 ⟨λi H=>∃ xs x,SqT K H a xs/\xs[i]?=some x,λi H x H'=>H'=H/\∀ xs,SqT K H a xs->xs[i]?=some x,λi H=>∃ xs,SqT K H a xs/\xs.length<=i⟩
def Itr (lo:Int) (n:Nat):It:=⟨λi _=>i < n,λi H x H'=>H'=H/\x=.int (lo+i),λi _=>n<=i⟩
theorem An {P:Program} {w:World} {K:W.Frag} {tg:Expr} (a it:Addr):Turn P w K tg (Itl K a) [it] it (λi h=>h.IsListIter it a i) where
 mem:=by simp
 obj:=λi h st b hb=>by
  have e:b=it:=by simpa using hb
  subst e;obtain ⟨o,e,c,d⟩:=st;exact ⟨o,e,λv z=>by rw [d] at z;cases z⟩
 keep:=λi h h' st k=>st.at λo e=>k it (by simp) o e
 item:=by
  intro X hP hw hK hc i pins s σ H E I hf st hg;subst hP hw hK;obtain ⟨xs,x,hq,hx⟩:=hg;obtain ⟨its,rv,p,hz⟩:=I.list hq;obtain ⟨u,hu,ru⟩:=rv.get hx;obtain ⟨f0,f1,f2,f3,f4,f5⟩:=hf it (by simp);refine wpAny_pyNext_list_item st p.isList (x:=u) (by simpa using hu) λh' st' sb=>?_;have I1:Inv X pins σ H {s with heap:=h' }:=I.turned (t':=s.toks) (λb o hb e=>(sb.2 b hb).trans e) f0 f1 f3 f4 f5
  obtain ⟨o,e,c,d⟩:=id st';exact ⟨u,rfl,Ew (s:={s with heap:=h' }) e c d (by decide) ⟨x,H,I1,ru,⟨rfl,λys hy=>by rw [I.list_inj hy hq];exact hx⟩,st',λb hb=>(hf b hb).1⟩⟩
 done:=by
  intro X hP hw hK hc i pins s σ H E I hf st hg;subst hP hw hK;obtain ⟨xs,hq,hx⟩:=hg;obtain ⟨its,rv,p,hz⟩:=I.list hq;obtain ⟨f0,f1,f2,f3,f4,f5⟩:=hf it (by simp);have hl:=rv.length;exact wpAny_pyNext_list_end (I.ok.hd hc) st p.isList (by simp;omega) λh' eb=>⟨rfl,I.turned (t':=s.toks) (λb o hb e=>eb b o hb e) f0 f1 f3 f4 f5⟩
 self:=λ_ _ _ _ _ st h=>wpAny_pyIter_listiter st h
theorem xq {P:Program} {w:World} {K:W.Frag} {tg:Expr} (a it:Addr):Turn P w K tg (Itt K a) [it] it (λi h=>h.IsTupleIter it a i) where
 mem:=by simp
 obj:=λi h st b hb=>by
  have e:b=it:=by simpa using hb
  subst e;obtain ⟨o,e,c,d⟩:=st;exact ⟨o,e,λv z=>by rw [d] at z;cases z⟩
 keep:=λi h h' st k=>st.at λo e=>k it (by simp) o e
 item:=by
  intro X hP hw hK hc i pins s σ H E I hf st hg;subst hP hw hK;obtain ⟨xs,x,hq,hx⟩:=hg;obtain ⟨its,rv,p,hz⟩:=I.tuple hq;obtain ⟨u,hu,ru⟩:=rv.get hx;obtain ⟨f0,f1,f2,f3,f4,f5⟩:=hf it (by simp);refine wpAny_pyNext_tuple_item st (show s.heap.IsTuple a its.toArray from p) (x:=u) (by simpa using hu) λh' st' sb=>?_;have I1:Inv X pins σ H {s with heap:=h' }:=I.turned (t':=s.toks) (λb o hb e=>(sb.2 b hb).trans e) f0 f1 f3 f4 f5
  obtain ⟨o,e,c,d⟩:=id st';exact ⟨u,rfl,Ew (s:={s with heap:=h' }) e c d (by decide) ⟨x,H,I1,ru,⟨rfl,λys hy=>by rw [I.tuple_inj hy hq];exact hx⟩,st',λb hb=>(hf b hb).1⟩⟩
 done:=by
  intro X hP hw hK hc i pins s σ H E I hf st hg;subst hP hw hK;obtain ⟨xs,hq,hx⟩:=hg;obtain ⟨its,rv,p,hz⟩:=I.tuple hq;obtain ⟨f0,f1,f2,f3,f4,f5⟩:=hf it (by simp);have hl:=rv.length;exact wpAny_pyNext_tuple_end (I.ok.hd hc) st (show s.heap.IsTuple a its.toArray from p) (by simp;omega) λh' eb=>⟨rfl,I.turned (t':=s.toks) (λb o hb e=>eb b o hb e) f0 f1 f3 f4 f5⟩
 self:=λ_ _ _ _ _ st h=>wpAny_pyIter_tupleiter st h
theorem xr {P:Program} {w:World} {K:W.Frag} {tg:Expr} (it:Addr) (lo:Int) (n:Nat):Turn P w K tg (Itr lo n) [it] it (λi h=>IsRangeIter h it (lo+(i:Nat)*1) ((n:Int) - (i:Nat)) 1) where
 mem:=by simp
 obj:=λi h st b hb=>by
  have e:b=it:=by simpa using hb
  subst e
  exact ⟨_,st,λv z=>by
   have z':Data.fields _=Data.cell v:=z;cases z'⟩
 keep:=λi h h' st k=>k it (by simp) _ st
 item:=by
  intro X hP hw hK hc i pins s σ H E I hf st hg;subst hP hw hK;obtain ⟨f0,f1,f2,f3,f4,f5⟩:=hf it (by simp);have W:=Walks.range (prog:=X.prog) (w:=X.w) (I.ok.hd hc) it lo 1 n;refine W.item i s _ _ hg st λv h' tk hv st' kk=>?_;obtain ⟨t,rfl⟩:=hv;have I1:Inv X pins σ H {s with heap:=h',toks:=tk}:=I.turned (λb o hb e=>kk b o (by simpa using hb) e) f0 f1 f3 f4 f5
  refine ⟨_,rfl,Ew (s:={s with heap:=h',toks:=tk}) (n:="range_iterator") st' rfl rfl (by decide) ⟨.int (lo+i),H,I1,⟨t,?_⟩,⟨rfl,rfl⟩,st',λb hb=>(hf b hb).1⟩⟩
  rw [Int.mul_one]
 done:=by
  intro X hP hw hK hc i pins s σ H E I hf st hg;subst hP hw hK;obtain ⟨f0,f1,f2,f3,f4,f5⟩:=hf it (by simp);exact wpAny_pyNext_range_end (I.ok.hd hc) st (by have:n<=i:=hg;omega) λh' eb=>⟨rfl,I.turned (t':=s.toks) (λb o hb e=>eb b o hb e) f0 f1 f3 f4 f5⟩
 self:=λ_ _ _ _ _ st h=>wpAny_pyIter_rangeiter st h
section
variable {X:Cx} {tg:Expr}
def iList (K:W.Frag) (tl:TE):TI:=λσ H R=>tl σ H λx H1=>∃ a,x=.ref a/\(∃ xs,SqL K H1 a xs)/\R (Itl K a) H1
def iTup (K:W.Frag) (tl:TE):TI:=λσ H R=>tl σ H λx H1=>∃ a,x=.ref a/\(∃ xs,SqT K H1 a xs)/\R (Itt K a) H1
theorem di {l:Expr} {tl:TE} (hl:PE X l tl):PI X tg l (iList X.K tl):=by
 intro pins s σ H R I h;refine thn (hl pins s σ H _ I h) λv s1 zz=>?_;obtain ⟨x,H1,I1,r1,q1⟩:=zz;obtain ⟨a,e,⟨xs,hq⟩,q⟩:=q1;subst e;cases r1
 obtain ⟨its,rv,p,hz⟩:=I1.list hq;refine wpAny_pyIter_list p.isList ?_;refine ⟨s1.heap.objs.size,[s1.heap.objs.size],_,_,H1,rfl,I1.kept (t':=s1.toks) λb o e=>Heap.get?_push_of_some _ e,An a _,⟨_,Heap.get?_push_size _ rfl,rfl,rfl⟩,λb hb=>?_,q⟩;have e:b=s1.heap.objs.size:=by simpa using hb
 subst e;exact I1.fpOk (Nat.le_refl _) (I1.hok.fresh (Nat.le_refl _))
theorem qo {l:Expr} {tl:TE} (hl:PE X l tl):PI X tg l (iTup X.K tl):=by
 intro pins s σ H R I h;refine thn (hl pins s σ H _ I h) λv s1 zz=>?_;obtain ⟨x,H1,I1,r1,q1⟩:=zz;obtain ⟨a,e,⟨xs,hq⟩,q⟩:=q1;subst e;cases r1
 obtain ⟨its,rv,p,hz⟩:=I1.tuple hq;refine wpAny_pyIter_tuple (show s1.heap.IsTuple a its.toArray from p) ?_;refine ⟨s1.heap.objs.size,[s1.heap.objs.size],_,_,H1,rfl,I1.kept (t':=s1.toks) λb o e=>Heap.get?_push_of_some _ e,xq a _,⟨_,Heap.get?_push_size _ rfl,rfl,rfl⟩,λb hb=>?_,q⟩;have e:b=s1.heap.objs.size:=by simpa using hb
 subst e;exact I1.fpOk (Nat.le_refl _) (I1.hok.fresh (Nat.le_refl _))
theorem Dp {pins:List (Addr×Obj)} {σ:St} {H:Hp} {s:Shared} {R:It->Hp->Prop} {E:Value->Shared->Prop} {lo hi:Int} {t u v:Tok} {tk:Nat} (I:Inv X pins σ H s) (h1:-(2 ^ 62)<=lo) (h2:lo < 2 ^ 62) (h3:-(2 ^ 62)<=hi) (h4:hi < 2 ^ 62)
  (q:R (Itr lo (hi - lo).toNat) H):wpAny (model X.prog X.w) X.A (pyIter (.ref s.heap.objs.size)) (PIE X pins σ tg R) E {s with heap:=s.heap.push {cls:=.type "range",data:=.fields #[.int lo t,.int hi u,.int 1 v] },toks:=tk}:=by
 refine wpAny_pyIter_range (IsRange.new ..) (small_one h1 h2 h3 h4) ?_;have I1:Inv X pins σ H {s with heap:=s.heap.push {cls:=.type "range",data:=.fields #[.int lo t,.int hi u,.int 1 v] },toks:=tk}:=I.kept λb o e=>Heap.get?_push_of_some _ e
 refine ⟨(s.heap.push {cls:=.type "range",data:=.fields #[.int lo t,.int hi u,.int 1 v] }).objs.size,[(s.heap.push {cls:=.type "range",data:=.fields #[.int lo t,.int hi u,.int 1 v] }).objs.size],_,_,H,rfl,
  I1.kept (t':=tk) λb o e=>Heap.get?_push_of_some _ e,xr _ lo (hi - lo).toNat,?_,λb hb=>?_,q⟩
 ·have e1:lo+((0:Nat):Int)*1=lo:=by simp
  have e2:(((hi - lo).toNat:Nat):Int) - ((0:Nat):Int)=Builtin.Range.rangeSize lo hi 1:=by rw [rangeSize_one];split <;> omega
  show IsRangeIter _ _ (lo+((0:Nat):Int)*1) ((((hi - lo).toNat:Nat):Int) - ((0:Nat):Int)) 1;rw [e1,e2];exact Heap.get?_push_size _ rfl
 ·have e:b=(s.heap.push {cls:=.type "range",data:=.fields #[.int lo t,.int hi u,.int 1 v] }).objs.size:=by simpa using hb
  subst e;exact I1.fpOk (Nat.le_refl _) (I1.hok.fresh (Nat.le_refl _))
def iRng1 (ta:TA):TI:=λσ H R=>ta σ H λvs H1=>∃ j:Int,vs=[.int j]/\-(2 ^ 62)<=j/\j < 2 ^ 62/\R (Itr 0 j.toNat) H1
theorem AJ {a:Expr} {ta:TA} {p pos:Pos} (hg:Gl X "range") (hm:X.mg "range"=none) (ha:PA X [a] ta) (hs:starEach [a] X.env=[(false,eval a X.env)]:=by rfl):PI X tg (.Call (.Name "range" p) [a] [] pos) (iRng1 ta):=by
 intro pins s σ H R I h;refine Call_ (nK I hg hm boot_range (PyProof.Rows.callWith_type1 (thn (ha pos pins s σ H _ I h) λus s1 zz=>?_) hs rfl));obtain ⟨vs,H1,I1,r1,q1⟩:=zz;obtain ⟨j,e,q1,q2,q⟩:=q1;subst e;cases r1 with
 | cons r rr =>
  cases rr
  obtain ⟨t,rfl⟩:=r;exact call_range_1 (Dp I1 (by omega) (by omega) q1 q2 (by simpa using q))
def tFor (wi:TI) (g:TG) (tb:TS):TS:=λD σ H=>wi σ H λJ H1=>∃ W:Nat->Nat->St->Hp->Prop,(∃ m,W 0 m σ H1)/\∀ i m σ H,W i m σ H->
 (J.stop i H/\D.nx σ H)\/(J.go i H/\∃ N:St->Hp->Prop,(∀ σ' H',N σ' H'->∃ m',m' < m/\W (i+1) m' σ' H')/\∀ x H',J.yld i H x H'->g x σ H' λσ2 H2=>tb {D with nx:=N,ct:=N,bk:=D.nx} σ2 H2)
def qm (fp:List Addr) (h:Heap):List (Addr×Obj):=fp.filterMap λb=>(h.get? b).map λo=>(b,o)
theorem fD {fp:List Addr} {h:Heap} {b:Addr} {o:Obj} (hb:b∈fp) (e:h.get? b=some o):(b,o)∈qm fp h:=List.mem_filterMap.mpr ⟨b,hb,by rw [e];rfl⟩
theorem Bc {fp:List Addr} {h:Heap} {p:Addr×Obj} (hp:p∈qm fp h):p.1∈fp/\h.get? p.1=some p.2:=by
 obtain ⟨b,hb,e⟩:=List.mem_filterMap.mp hp;cases q:h.get? b with
 | none=>rw [q] at e;cases e
 | some o =>
  rw [q] at e;have e':(b,o)=p:=Option.some.inj e;subst e';exact ⟨hb,q⟩
theorem Inv.pinned {pins:List (Addr×Obj)} {σ:St} {H:Hp} {s:Shared} {fp:List Addr} (I:Inv X pins σ H s) (hf:∀ b∈fp,iT X pins H b) (ho:∀ b∈fp,∃ o,s.heap.get? b=some o/\∀ v,o.data≠.cell v):Inv X (pins++qm fp s.heap) σ H s:=
 I.pins_of λp hp=>(List.mem_append.mp hp).elim (λz=>I.pin p (List.mem_append_right _ z)) λz=>by
  obtain ⟨hb,e⟩:=Bc z;obtain ⟨f0,f1,f2,_⟩:=hf p.1 hb;obtain ⟨o,e',d⟩:=ho p.1 hb;rw [e] at e';cases e'
  exact ⟨e,f0,f1,f2,d⟩
theorem Inv.unpinned {pins pl:List (Addr×Obj)} {σ:St} {H:Hp} {s:Shared} (I:Inv X (pins++pl) σ H s):Inv X pins σ H s:=I.pins_of λp hp=>I.pin p (List.mem_append_right _ (List.mem_append_left _ hp))
theorem gX {iter:Expr} {body:List Stmt} {wi:TI} {g:TG} {tb:TS} {pos:Pos} (hp:PassesOwn (model X.prog X.w) X.A X.env X.xe) (hc:X.calm=true) (hi:PI X tg iter wi) (hg:PG X tg g) (hb:PSs X body tb)
  (hs:∀ x,foldedSetIterable iter X.env x=pure x:=by intro _;rfl):PS X (.For tg iter body [] pos) (tFor wi g tb):=by
 intro pins s σ H D I h;refine wpAny_For (thn (hi pins s σ H _ I h) λv s1 h1=>thn h1 λitv s2 h2=>?_) hs;obtain ⟨it,fp,tn,J,H2,e,I2,T,st2,f2,W,⟨m0,w0⟩,turn⟩:=h2;subst e;have stat:∀{H':Hp},(∀ b∈fp,H' b=none)->∀ b∈fp,iT X pins H' b:=λhn b hb=>⟨hn b hb,(f2 b hb).2⟩;refine codeAny_forLoop_any (λn s'=>∃ i σ' H',Inv X pins σ' H' s'/\tn i s'.heap/\(∀ b∈fp,H' b=none)/\W i n σ' H') ?_ m0 ⟨0,σ,H2,I2,st2,λb hb=>(f2 b hb).1,w0⟩;rintro n s3 ⟨i,σ3,H3,I3,st3,fr3,w3⟩
 rcases turn i n σ3 H3 w3 with ⟨stop,qn⟩ | ⟨go,N,hN,step⟩
 ·refine wpAny_passesOwn hp (thn (T.done X rfl rfl rfl hc i pins s3 σ3 H3 X.xe I3 (stat fr3) st3 stop) λr s4 zz=>?_);obtain ⟨hr,I4⟩:=zz;subst hr;exact wpAny_execs_nil ⟨σ3,H3,I4,qn⟩
 ·refine wpAny_passesOwn hp (thn (T.item X rfl rfl rfl hc i pins s3 σ3 H3 X.xe I3 (stat fr3) st3 go) λr s4 zz=>?_);obtain ⟨u,hr,h4⟩:=zz;subst hr;refine wpAny_passesOwn hp (thn h4 λ_ s5 zz=>?_);obtain ⟨x,H5,I5,r5,y5,st5,fr5⟩:=zz;have I5':=I5.pinned (stat fr5) (T.obj _ _ st5);refine wpAny_passesOwn hp (thn (hg _ s5 σ3 H5 x u _ I5' r5 (step x H5 y5)) λ_ s6 zz=>?_);obtain ⟨σ6,H6,I6,q6⟩:=zz;refine wpAny_passesOwn hp (thn (hb _ s6 σ6 H6 _ I6 q6) λf s7 q7=>?_)
  have again:∀{σ7:St} {H7:Hp},Inv X (pins++qm fp s5.heap) σ7 H7 s7->N σ7 H7->∃ m,m < n/\∃ i σ' H',Inv X pins σ' H' s7/\tn i s7.heap/\(∀ b∈fp,H' b=none)/\W i m σ' H':=λ{σ7 H7} I7 n7=>by
   obtain ⟨m',hm,w7⟩:=hN σ7 H7 n7;refine ⟨m',hm,i+1,σ7,H7,I7.unpinned,T.keep _ _ _ st5 λb hb o e=>(I7.pin (b,o) (List.mem_append_right _ (List.mem_append_right _ (fD hb e)))).1,λb hb=>?_,w7⟩;obtain ⟨o,e,d⟩:=T.obj _ _ st5 b hb;exact (I7.pin (b,o) (List.mem_append_right _ (List.mem_append_right _ (fD hb e)))).2.1
  cases f with
  | next=>obtain ⟨σ7,H7,I7,n7⟩:=q7;exact again I7 n7
  | cont=>obtain ⟨σ7,H7,I7,n7⟩:=q7;exact again I7 n7
  | brk=>obtain ⟨σ7,H7,I7,q7⟩:=q7;exact ⟨σ7,H7,I7.unpinned,q7⟩
  | ret v=>obtain ⟨x7,σ7,H7,I7,r7,q7⟩:=q7;exact ⟨x7,σ7,H7,I7.unpinned,r7,q7⟩
end
theorem hI {K:W.Frag} {a:Addr} {xs:List V} {g:TG} {tb:TS} {D:Ends} {σ:St} {H:Hp} (Pv:Nat->St->Hp->Prop) (h0:Pv 0 σ H) (hl:∀ i σ H,i<=xs.length->Pv i σ H->SqL K H a xs)
  (hs:∀ i x σ H,xs[i]?=some x->Pv i σ H->g x σ H λσ2 H2=>tb {D with nx:=Pv (i+1),ct:=Pv (i+1),bk:=D.nx} σ2 H2) (hd:∀ σ H,Pv xs.length σ H->D.nx σ H) :
  ∃ W:Nat->Nat->St->Hp->Prop,(∃ m,W 0 m σ H)/\∀ i m σ H,W i m σ H->
   ((Itl K a).stop i H/\D.nx σ H)\/((Itl K a).go i H/\∃ N:St->Hp->Prop,(∀ σ' H',N σ' H'->∃ m',m' < m/\W (i+1) m' σ' H')/\∀ x H',(Itl K a).yld i H x H'->g x σ H' λσ2 H2=>tb {D with nx:=N,ct:=N,bk:=D.nx} σ2 H2):=by
 refine ⟨λi m σ H=>m=xs.length - i/\i<=xs.length/\Pv i σ H,⟨xs.length,by simp,Nat.zero_le _,h0⟩,?_⟩;rintro i m σ H ⟨rfl,hi,p⟩
 have q:=hl i σ H hi p
 by_cases hlt:i < xs.length
 ·refine .inr ⟨⟨xs,xs[i],q,by simp [hlt]⟩,Pv (i+1),λσ' H' p'=>⟨xs.length - (i+1),by omega,rfl,hlt,p'⟩,λx H' y=>?_⟩;obtain ⟨e,y⟩:=y;subst e;exact hs i x σ _ (y xs q) p
 ·have e:i=xs.length:=by omega
  subst e;exact .inl ⟨⟨xs,q,Nat.le_refl _⟩,hd σ H p⟩
theorem By {lo:Int} {n:Nat} {g:TG} {tb:TS} {D:Ends} {σ:St} {H:Hp} (Pv:Nat->St->Hp->Prop) (h0:Pv 0 σ H)
  (hs:∀ i σ H,i < n->Pv i σ H->g (.int (lo+i)) σ H λσ2 H2=>tb {D with nx:=Pv (i+1),ct:=Pv (i+1),bk:=D.nx} σ2 H2) (hd:∀ σ H,Pv n σ H->D.nx σ H) :
  ∃ W:Nat->Nat->St->Hp->Prop,(∃ m,W 0 m σ H)/\∀ i m σ H,W i m σ H->
   ((Itr lo n).stop i H/\D.nx σ H)\/((Itr lo n).go i H/\∃ N:St->Hp->Prop,(∀ σ' H',N σ' H'->∃ m',m' < m/\W (i+1) m' σ' H')/\∀ x H',(Itr lo n).yld i H x H'->g x σ H' λσ2 H2=>tb {D with nx:=N,ct:=N,bk:=D.nx} σ2 H2):=by
 refine ⟨λi m σ H=>m=n - i/\i<=n/\Pv i σ H,⟨n,by simp,Nat.zero_le _,h0⟩,?_⟩;rintro i m σ H ⟨rfl,hi,p⟩
 by_cases hlt:i < n
 ·refine .inr ⟨hlt,Pv (i+1),λσ' H' p'=>⟨n - (i+1),by omega,rfl,hlt,p'⟩,λx H' y=>?_⟩;obtain ⟨e,y⟩:=y;subst e y;exact hs i σ _ hlt p
 ·have e:i=n:=by omega
  subst e;exact .inl ⟨Nat.le_refl _,hd σ H p⟩
abbrev R2:=V->V->Hp->VK->Prop
def OpR (X:Cx) (f:Value->Value->Sem Value) (r:R2):Prop:=
 ∀(
  pins:List (Addr×Obj)) (s:Shared) (σ:St) (H:Hp) (x y:V) (v u:Value) (Q:VK),Inv X pins σ H s->RelV x v->RelV y u->r x y H Q->
  wpAny (model X.prog X.w) X.A (f v u) (EP X pins σ Q) X.xe s
def UnR (X:Cx) (f:Value->Sem Value) (r:V->Hp->VK->Prop):Prop:=
 ∀(
  pins:List (Addr×Obj)) (s:Shared) (σ:St) (H:Hp) (x:V) (v:Value) (Q:VK),Inv X pins σ H s->RelV x v->r x H Q->
  wpAny (model X.prog X.w) X.A (f v) (EP X pins σ Q) X.xe s
def fq (X:Cx) (f:Value) (r:List V->Hp->VK->Prop):Prop:=
 ∀(
  pins:List (Addr×Obj)) (s:Shared) (σ:St) (H:Hp) (xs:List V) (us:List Value) (Q:VK),Inv X pins σ H s->Vals xs us->r xs H Q->
  wpAny (model X.prog X.w) X.A (call f us) (EP X pins σ Q) X.xe s
def TruR (X:Cx) (r:V->Hp->(Bool->Hp->Prop)->Prop):Prop:=
 ∀(
  pins:List (Addr×Obj)) (s:Shared) (σ:St) (H:Hp) (x:V) (v:Value) (Q:Bool->Hp->Prop),Inv X pins σ H s->RelV x v->r x H Q->
  wpAny (model X.prog X.w) X.A (truthy v) (TP X pins σ Q) X.xe s
def tOp (r:R2) (ta tb:TE):TE:=λσ H Q=>ta σ H λx H1=>tb σ H1 λy H2=>r x y H2 Q
def tUn (r:V->Hp->VK->Prop) (ta:TE):TE:=λσ H Q=>ta σ H λx H1=>r x H1 Q
inductive XrI (C:Int->Int->Prop) (g:Int->Int->V) (x:V) (y:V) (H:Hp) (Q:VK):Prop where
 | mk (i:Int) (j:Int) (z_0:x=.int i) (z_1:y=.int j) (z_2:C i j) (z_3:Q (g i j) H):XrI C g x y H Q
def rI (C:Int->Int->Prop) (g:Int->Int->V):R2:=λx y H Q=>XrI C g x y H Q
inductive XrI0 (g:Int->Int->V) (x:V) (y:V) (H:Hp) (Q:VK):Prop where
 | mk (i:Int) (j:Int) (z_0:x=.int i) (z_1:y=.int j) (z_2:Q (g i j) H):XrI0 g x y H Q
def rI0 (g:Int->Int->V):R2:=λx y H Q=>XrI0 g x y H Q
def rU (g:Int->V):V->Hp->VK->Prop:=λx H Q=>∃ i,x=.int i/\Q (g i) H
section
variable {X:Cx} {a b c:Expr} {ta tb tc:TE} {pos:Pos}
theorem binT (ha:PE X a ta) (hb:PE X b tb) {pins:List (Addr×Obj)} {s:Shared} {σ:St} {H:Hp} {R:V->V->Hp->Prop} (I:Inv X pins σ H s)
  (h:ta σ H λx H1=>tb σ H1 λy H2=>R x y H2) {Q:Value->Shared->Prop} {f:Value->Value->Sem Value}
  (hf:∀ v u s2 x y H2,Inv X pins σ H2 s2->RelV x v->RelV y u->R x y H2->wpAny (model X.prog X.w) X.A (f v u) Q X.xe s2) :
  wpAny (model X.prog X.w) X.A (eval a X.env) (λv s₁=>wpAny (model X.prog X.w) X.A (eval b X.env) (λu s₂=>wpAny (model X.prog X.w) X.A (f v u) Q X.xe s₂) X.xe s₁) X.xe s:=by
 refine thn (ha pins s σ H _ I h) λv s1 zz=>?_;obtain ⟨x,H1,I1,r1,q1⟩:=zz;refine thn (hb pins s1 σ H1 _ I1 q1) λu s2 zz=>?_;obtain ⟨y,H2,I2,r2,q2⟩:=zz;exact hf v u s2 x y H2 I2 r1 r2 q2
theorem aL {op:Operator} {r:R2} (ho:OpR X (binaryOp op) r) (ha:PE X a ta) (hb:PE X b tb):PE X (.BinOp a op b pos) (tOp r ta tb):=by
 intro pins s σ H Q I h;exact wpAny_BinOp (binT ha hb I h λv u s2 x y H2 I2 rx ry q=>ho pins s2 σ H2 x y v u Q I2 rx ry q)
theorem pe_un {op:UnaryOp} {r:V->Hp->VK->Prop} (ho:UnR X (unaryOp op) r) (ha:PE X a ta):PE X (.UnaryOp op a pos) (tUn r ta):=by
 intro pins s σ H Q I h;refine UnaryOp_ (thn (ha pins s σ H _ I h) λv s1 zz=>?_);obtain ⟨x,H1,I1,r1,q1⟩:=zz;exact ho pins s1 σ H1 x v Q I1 r1 q1
theorem opI {f:Value->Value->Sem Value} {C:Int->Int->Prop} {g:Int->Int->Int}
  (rule:∀(i j:Int) (t u:Tok) (s:Shared) (Q:Value->Shared->Prop) (E:Value->Shared->Prop),C i j->Q (.int (g i j) s.toks) {s with toks:=s.toks+1}->wpAny (model X.prog X.w) X.A (f (.int i t) (.int j u)) Q E s) :
  OpR X f (rI C λi j=>.int (g i j)):=by
 intro pins s σ H x y v u Q I rx ry h;obtain ⟨i,j,rfl,rfl,hc,q⟩:=h;obtain ⟨t,rfl⟩:=rx;obtain ⟨t',rfl⟩:=ry;exact rule i j t t' s _ _ hc ⟨.int (g i j),H,I.tok _,⟨_,rfl⟩,q⟩
theorem opI0 {f:Value->Value->Sem Value} {g:Int->Int->Int}
  (rule:∀(i j:Int) (t u:Tok) (s:Shared) (Q:Value->Shared->Prop) (E:Value->Shared->Prop),Q (.int (g i j) s.toks) {s with toks:=s.toks+1}->wpAny (model X.prog X.w) X.A (f (.int i t) (.int j u)) Q E s) :
  OpR X f (rI0 λi j=>.int (g i j)):=by
 intro pins s σ H x y v u Q I rx ry h;obtain ⟨i,j,rfl,rfl,q⟩:=h;obtain ⟨t,rfl⟩:=rx;obtain ⟨t',rfl⟩:=ry;exact rule i j t t' s _ _ ⟨.int (g i j),H,I.tok _,⟨_,rfl⟩,q⟩
theorem opB0 {f:Value->Value->Sem Value} {g:Int->Int->Bool}
  (rule:∀(i j:Int) (t u:Tok) (s:Shared) (Q:Value->Shared->Prop) (E:Value->Shared->Prop),Q (.bool (g i j)) s->wpAny (model X.prog X.w) X.A (f (.int i t) (.int j u)) Q E s) :
  OpR X f (rI0 λi j=>.bl (g i j)):=by
 intro pins s σ H x y v u Q I rx ry h;obtain ⟨i,j,rfl,rfl,q⟩:=h;obtain ⟨t,rfl⟩:=rx;obtain ⟨t',rfl⟩:=ry;exact rule i j t t' s _ _ ⟨.bl (g i j),H,I,rfl,q⟩
def CDiv (i j:Int):Prop:=0 < j/\j < 1073741824
def CPow (i j:Int):Prop:=0<=j/\j<=1000000/\i.natAbs < 2 ^ 64
theorem bR:OpR X (binaryOp .Add) (rI0 λi j=>.int (i+j)):=opI0 λ_ _ _ _ _ _ _ q=>add_int q
theorem eW:OpR X (binaryOp .Sub) (rI0 λi j=>.int (i - j)):=opI0 λ_ _ _ _ _ _ _ q=>sub_int q
theorem oX:OpR X (binaryOp .FloorDiv) (rI CDiv λi j=>.int (i / j)):=opI λi j _ _ _ _ _ hc q=>by
 have h1:(0:Int) < j:=hc.1;have h2:j < 1073741824:=hc.2;exact floordiv_int (by omega) (by rw [Int.fdiv_eq_ediv_of_nonneg i (by omega)];exact q) (.inl (PyProof.noPylong_small (by omega)))
theorem fB:OpR X (binaryOp .Mod) (rI (λ_ j=>0 < j) λi j=>.int (i % j)):=opI λi j _ _ _ _ _ hc q=>by
 have h1:(0:Int) < j:=hc;exact mod_int' (by omega) (by rw [Int.fmod_eq_emod_of_nonneg i (by omega)];exact q)
theorem ik:OpR X (binaryOp .Mod) (rI (λ_ j=>j≠0) λi j=>.int (i.fmod j)):=opI λ_ _ _ _ _ _ _ hc q=>mod_int' hc q
theorem op_pow:OpR X (binaryOp .Pow) (rI CPow λi j=>.int (i ^ j.toNat)):=opI λ_ _ _ _ _ _ _ hc q=>pow_int_small hc.1 hc.2.1 hc.2.2 q
theorem unI {f:Value->Sem Value} {g:Int->Int}
  (rule:∀(i:Int) (t:Tok) (s:Shared) (Q:Value->Shared->Prop) (E:Value->Shared->Prop),Q (.int (g i) s.toks) {s with toks:=s.toks+1}->wpAny (model X.prog X.w) X.A (f (.int i t)) Q E s) :
  UnR X f (rU λi=>.int (g i)):=by
 intro pins s σ H x v Q I rx h;obtain ⟨i,rfl,q⟩:=h;obtain ⟨t,rfl⟩:=rx;exact rule i t s _ _ ⟨.int (g i),H,I.tok _,⟨_,rfl⟩,q⟩
theorem pC:UnR X (unaryOp .USub) (rU λi=>.int (-i)):=unI λ_ _ _ _ _ q=>neg_int q
end
def scal:V->V->Bool
 | .non,.non=>true | .non,.int _=>true | .int _,.non=>true | .non,.bl _=>true | .bl _,.non=>true | .non,.str _=>true | .str _,.non=>true
 | .int _,.int _=>true | .bl _,.bl _=>true | .str _,.str _=>true | .byt _,.byt _=>true
 | .int _,.str _=>true | .str _,.int _=>true | .bl _,.str _=>true | .str _,.bl _=>true
 | _,_=>false
def rEq:R2:=λx y H Q=>scal x y=true/\Q (.bl (decide (x=y))) H
def rNe:R2:=λx y H Q=>scal x y=true/\Q (.bl (!decide (x=y))) H
theorem zZ {i j:Int}:decide (V.int i=V.int j)=(i == j):=by
 rw [Bool.eq_iff_iff];simp
theorem EO {i j:Bool}:decide (V.bl i=V.bl j)=(i == j):=by
 rw [Bool.eq_iff_iff];simp
theorem zY {i j:Str}:decide (V.str i=V.str j)=(i == j):=by
 rw [Bool.eq_iff_iff];simp
theorem Aa {i j:Array UInt8}:decide (V.byt i=V.byt j)=(i.toList == j.toList):=by
 rw [Bool.eq_iff_iff];cases i
 cases j
 simp
section
variable {X:Cx} {a b c:Expr} {ta tb tc:TE} {pos:Pos}
theorem bE {pins:List (Addr×Obj)} {σ:St} {H:Hp} {s:Shared} {Q:VK} {k k':Bool} (I:Inv X pins σ H s) (q:Q (.bl k) H) (e:k=k'):EP X pins σ Q (.bool k') s:=by
 subst e;exact ⟨.bl k,H,I,rfl,q⟩
theorem bO:OpR X (compareOp .Eq) rEq:=by
 intro pins s σ H x y v u Q I rx ry h;obtain ⟨hs,q⟩:=h;cases x with
 | non =>
  cases rx
  cases y with
  | non=>cases ry;exact PySem.EqNone.eq_none_none (bE I q (by simp))
  | bl j=>cases ry;exact PySem.EqNone.eq_none_bool (bE I q (by simp))
  | int j=>obtain ⟨t',rfl⟩:=ry;exact PySem.EqNone.eq_none_int (bE I q (by simp))
  | str j=>obtain ⟨t',rfl⟩:=ry;exact PySem.EqNone.eq_none_str (bE I q (by simp))
  | _=>exact absurd (show false=true from hs) Bool.false_ne_true
 | bl i =>
  cases rx
  cases y with
  | non=>cases ry;exact PySem.EqNone.eq_bool_none (bE I q (by simp))
  | bl j=>cases ry;exact eq_bool (bE I q EO)
  | str j=>obtain ⟨t',rfl⟩:=ry;exact PySem.EqMixed.eq_bool_str (bE I q (by simp))
  | _=>exact absurd (show false=true from hs) Bool.false_ne_true
 | int i =>
  obtain ⟨t,rfl⟩:=rx;cases y with
  | non=>cases ry;exact PySem.EqNone.eq_int_none (bE I q (by simp))
  | int j=>obtain ⟨t',rfl⟩:=ry;exact eq_int (bE I q zZ)
  | str j=>obtain ⟨t',rfl⟩:=ry;exact PySem.EqMixed.eq_int_str (bE I q (by simp))
  | _=>exact absurd (show false=true from hs) Bool.false_ne_true
 | str i =>
  obtain ⟨t,rfl⟩:=rx;cases y with
  | non=>cases ry;exact PySem.EqNone.eq_str_none (bE I q (by simp))
  | bl j=>cases ry;exact PySem.EqMixed.eq_str_bool (bE I q (by simp))
  | int j=>obtain ⟨t',rfl⟩:=ry;exact PySem.EqMixed.eq_str_int (bE I q (by simp))
  | str j=>obtain ⟨t',rfl⟩:=ry;exact eq_str (bE I q zY)
  | _=>exact absurd (show false=true from hs) Bool.false_ne_true
 | byt i =>
  obtain ⟨t,rfl⟩:=rx;cases y with
  | byt j=>obtain ⟨t',rfl⟩:=ry;exact PySem.W.eq_bytes (bE I q Aa)
  | _=>exact absurd (show false=true from hs) Bool.false_ne_true
 | _=>cases y <;> exact absurd (show false=true from hs) Bool.false_ne_true
theorem jh:OpR X (compareOp .NotEq) rNe:=by
 intro pins s σ H x y v u Q I rx ry h;obtain ⟨hs,q⟩:=h;cases x with
 | non =>
  cases rx
  cases y with
  | non=>cases ry;exact PySem.EqNone.ne_none_none (bE I q (by simp))
  | bl j=>cases ry;exact PySem.EqNone.ne_none_bool (bE I q (by simp))
  | int j=>obtain ⟨t',rfl⟩:=ry;exact PySem.EqNone.ne_none_int (bE I q (by simp))
  | str j=>obtain ⟨t',rfl⟩:=ry;exact PySem.EqNone.ne_none_str (bE I q (by simp))
  | _=>exact absurd (show false=true from hs) Bool.false_ne_true
 | bl i =>
  cases rx
  cases y with
  | non=>cases ry;exact PySem.EqNone.ne_bool_none (bE I q (by simp))
  | bl j=>cases ry;exact ne_bool (bE I q (congrArg not EO))
  | str j=>obtain ⟨t',rfl⟩:=ry;exact PySem.EqMixed.ne_bool_str (bE I q (by simp))
  | _=>exact absurd (show false=true from hs) Bool.false_ne_true
 | int i =>
  obtain ⟨t,rfl⟩:=rx;cases y with
  | non=>cases ry;exact PySem.EqNone.ne_int_none (bE I q (by simp))
  | int j=>obtain ⟨t',rfl⟩:=ry;exact ne_int (bE I q (congrArg not zZ))
  | str j=>obtain ⟨t',rfl⟩:=ry;exact PySem.EqMixed.ne_int_str (bE I q (by simp))
  | _=>exact absurd (show false=true from hs) Bool.false_ne_true
 | str i =>
  obtain ⟨t,rfl⟩:=rx;cases y with
  | non=>cases ry;exact PySem.EqNone.ne_str_none (bE I q (by simp))
  | bl j=>cases ry;exact PySem.EqMixed.ne_str_bool (bE I q (by simp))
  | int j=>obtain ⟨t',rfl⟩:=ry;exact PySem.EqMixed.ne_str_int (bE I q (by simp))
  | str j=>obtain ⟨t',rfl⟩:=ry;exact ne_str (bE I q (congrArg not zY))
  | _=>exact absurd (show false=true from hs) Bool.false_ne_true
 | byt i =>
  obtain ⟨t,rfl⟩:=rx;cases y with
  | byt j=>obtain ⟨t',rfl⟩:=ry;exact PySem.W.ne_bytes (bE I q (congrArg not Aa))
  | _=>exact absurd (show false=true from hs) Bool.false_ne_true
 | _=>cases y <;> exact absurd (show false=true from hs) Bool.false_ne_true
theorem rX:OpR X (compareOp .Lt) (rI0 λi j=>.bl (decide (i < j))):=opB0 λ_ _ _ _ _ _ _ q=>lt_int q
theorem ji:OpR X (compareOp .LtE) (rI0 λi j=>.bl (decide (i<=j))):=opB0 λ_ _ _ _ _ _ _ q=>le_int q
theorem kM:OpR X (compareOp .Gt) (rI0 λi j=>.bl (decide (j < i))):=opB0 λ_ _ _ _ _ _ _ q=>gt_int q
theorem qr:OpR X (compareOp .GtE) (rI0 λi j=>.bl (decide (j<=i))):=opB0 λ_ _ _ _ _ _ _ q=>ge_int q
theorem lg:OpR X (compareOp .Is) (λx y H Q=>y=.non/\Q (.bl (decide (x=.non))) H):=by
 intro pins s σ H x y v u Q I rx ry h;obtain ⟨rfl,q⟩:=h;cases ry
 refine is_none_gen (bE I q ?_)
 cases x <;> first
  | (cases rx;rfl)
  | (obtain ⟨t,rfl⟩:=rx;rfl)
theorem aF (b:Expr) {op:CmpOp} (h:op≠.In:=by decide) (h2:op≠.NotIn:=by decide):behindInMarks op b=false:=by
 have e1:(op == CmpOp.In)=false:=by cases op <;> first | rfl | exact absurd rfl h
 have e2:(op == CmpOp.NotIn)=false:=by cases op <;> first | rfl | exact absurd rfl h2
 cases b <;> simp [behindInMarks,e1,e2]
theorem fS {op:CmpOp} {r:R2} (ho:OpR X (compareOp op) r) (ha:PE X a ta) (hb:PE X b tb) (hm:behindInMarks op b=false):PE X (.Compare a [op] [b] pos) (tOp r ta tb):=by
 intro pins s σ H Q I h;exact wpAny_Compare1 (binT ha hb I h λv u s2 x y H2 I2 rx ry q=>ho pins s2 σ H2 x y v u Q I2 rx ry q) hm
def Cm (t:TE):TT:=λσ H Q=>t σ H λx H'=>XBl x λk=>Q k H'
theorem aA {op:CmpOp} {r:R2} (ho:OpR X (compareOp op) r) (ha:PE X a ta) (hb:PE X b tb) (hm:behindInMarks op b=false):PT X (.Compare a [op] [b] pos) (Cm (tOp r ta tb)):=by
 intro pins s σ H Q I h
 refine wpAny_isTrue_Compare1 (thn (ha pins s σ H _ I h) λv s1 ⟨x,H1,I1,r1,q1⟩=>thn (hb pins s1 σ H1 _ I1 q1) λu s2 ⟨y,H2,I2,r2,q2⟩ =>
  thn (ho pins s2 σ H2 x y v u _ I2 r1 r2 q2) λc s3 ⟨z,H3,I3,r3,k,e,q3⟩=>?_) hm
 subst e;cases r3
 exact wpAny_truthy_bool ⟨H3,I3,q3⟩
def Ct (r r':R2) (ta tb tc:TE):TE:=λσ H Q=>ta σ H λx H1=>tb σ H1 λy H2=>r x y H2 λz H3=>∃ k,z=.bl k/\
 (if k=true then tc σ H3 λw' H4=>r' y w' H4 Q else Q (.bl false) H3)
theorem vP {op op':CmpOp} {r r':R2} (ho:OpR X (compareOp op) r) (ho':OpR X (compareOp op') r') (ha:PE X a ta) (hb:PE X b tb) (hc:PE X c tc)
  (hm:lastMarks [op,op'] [b,c]=false:=by with_unfolding_all rfl):PE X (.Compare a [op,op'] [b,c] pos) (Ct r r' ta tb tc):=by
 intro pins s σ H Q I h
 refine Compare_chain (thn (ha pins s σ H _ I h) λv s1 ⟨x,H1,I1,r1,q1⟩=>chain_link (thn (hb pins s1 σ H1 _ I1 q1) λu s2 ⟨y,H2,I2,r2,q2⟩ =>
  thn (ho pins s2 σ H2 x y v u _ I2 r1 r2 q2) λd s3 ⟨z,H3,I3,r3,k,e,q3⟩=>?_)) hm
 subst e;cases r3
 refine wpAny_truthy_bool ?_;cases k with
 | false=>exact ite_ff ⟨.bl false,H3,I3,rfl,q3⟩
 | true=>exact ite_tt (chain_last (thn (hc pins s3 σ H3 _ I3 q3) λw' s4 ⟨z',H4,I4,r4,q4⟩=>ho' pins s4 σ H4 y z' u w' Q I4 r2 r4 q4))
theorem Dv {op op':CmpOp} {r r':R2} (ho:OpR X (compareOp op) r) (ho':OpR X (compareOp op') r') (ha:PE X a ta) (hb:PE X b tb) (hc:PE X c tc)
  (hm:lastMarks [op,op'] [b,c]=false:=by with_unfolding_all rfl):PT X (.Compare a [op,op'] [b,c] pos) (Cm (Ct r r' ta tb tc)):=by
 intro pins s σ H Q I h
 refine isTrue_chain (thn (ha pins s σ H _ I h) λv s1 ⟨x,H1,I1,r1,q1⟩=>test_link (thn (hb pins s1 σ H1 _ I1 q1) λu s2 ⟨y,H2,I2,r2,q2⟩ =>
  thn (ho pins s2 σ H2 x y v u _ I2 r1 r2 q2) λd s3 ⟨z,H3,I3,r3,k,e,q3⟩=>?_)) hm
 subst e;cases r3
 refine wpAny_truthy_bool ?_;cases k with
 | false =>
  obtain ⟨k',e',q'⟩:=q3;cases e'
  exact ite_ff ⟨H3,I3,q'⟩
 | true =>
  refine ite_tt (test_last (thn (hc pins s3 σ H3 _ I3 q3) λw' s4 zz=>?_));obtain ⟨z',H4,I4,r4,q4⟩:=zz;refine thn (ho' pins s4 σ H4 y z' u w' _ I4 r2 r4 q4) λd' s5 zz=>?_;obtain ⟨z2,H5,I5,r5,k2,e2,q5⟩:=zz;subst e2;cases r5
  exact wpAny_truthy_bool ⟨H5,I5,q5⟩
def TruV (K:W.Frag) (x:V) (H:Hp) (k:Bool):Prop:=
 match x with
 | .non=>k=false
 | .bl b=>k=b
 | .int i=>k=(i != 0)
 | .str y=>y.length<=sizeLine/\k=((y.length:Int) != 0)
 | .byt y=>y.size<=sizeLine/\k=((y.size:Int) != 0)
 | .ref p=>(∃ xs,SqL K H p xs/\k = !xs.isEmpty)\/(∃ xs,SqT K H p xs/\k = !xs.isEmpty)\/∃ kvs,H p=some (.dK kvs)/\k = !kvs.isEmpty
 | _=>False
theorem yl {κ:Type} {kvs:List (κ×V)} {vs:List (κ×Value)} (r:KV kvs vs):(!vs.isEmpty) = !kvs.isEmpty:=by
 cases r <;> rfl
theorem qC {xs:List V} {its:List Value} (r:Vals xs its):(!its.toArray.isEmpty) = !xs.isEmpty:=by
 cases r <;> simp
theorem uk:(sizeLine:Nat) < 2 ^ 63:=by rw [sizeLine_eq];decide
theorem tru_ok:TruR X (λx H Q=>∃ k,TruV X.K x H k/\Q k H):=by
 intro pins s σ H x v Q I rx h;obtain ⟨k,e,q⟩:=h;have hl:=uk;have hs:sizeLine=16777216:=sizeLine_eq;cases x with
 | non =>
  cases rx
  have e':k=false:=e;subst e';exact truthy_none ⟨H,I,q⟩
 | bl b =>
  cases rx
  have e':k=b:=e;subst e';exact wpAny_truthy_bool ⟨H,I,q⟩
 | int i =>
  obtain ⟨t,rfl⟩:=rx;have e':k=(i != 0):=e;subst e';exact PySem.P.truthy_int ⟨H,I,q⟩
 | str y =>
  obtain ⟨t,rfl⟩:=rx;obtain ⟨hy,e'⟩:y.length<=sizeLine/\k=((y.length:Int) != 0):=e;subst e';exact PySem.P.truthy_str (by omega) ⟨H,I.tok _,q⟩
 | byt y =>
  obtain ⟨t,rfl⟩:=rx;obtain ⟨hy,e'⟩:y.size<=sizeLine/\k=((y.size:Int) != 0):=e;subst e';exact PySem.W.truthy_bytes (by omega) ⟨H,I.tok _,q⟩
 | ref p =>
  cases rx
  have e':(∃ xs,SqL X.K H p xs/\k = !xs.isEmpty)\/(∃ xs,SqT X.K H p xs/\k = !xs.isEmpty)\/∃ kvs,H p=some (.dK kvs)/\k = !kvs.isEmpty:=e;rcases e' with ⟨xs,hx,e'⟩ | ⟨xs,hx,e'⟩ | ⟨kvs,hx,e'⟩
  ·subst e';obtain ⟨its,r,pl,hz⟩:=I.list hx;have hlen:=r.length;exact wpAny_truthy_list pl.isList (by simp only [List.size_toArray];omega) ⟨H,I.tok _,by rw [qC r];exact q⟩
  ·subst e';obtain ⟨its,r,pl,hz⟩:=I.tuple hx;have hlen:=r.length;exact truthy_tuple pl (by simp only [List.size_toArray];omega) ⟨H,I.tok _,by rw [qC r];exact q⟩
  ·subst e';obtain ⟨hz,hS,vs,r,m⟩:kvs.length<=sizeLine/\(p == sysModules)=false/\∃ vs,KV kvs vs/\s.heap.DictOf (cM X.prog X.w) p vs:=I.hok p _ hx;have hlen:kvs.length=vs.length:=Paired.length r;exact wpAny_truthy_dict hS m (by omega) ⟨H,I.tok _,by rw [yl r];exact q⟩
 | _=>exact (show False from e).elim
theorem ql (ha:PE X a ta) (he:∀ whole,isTrue a X.env whole=(do let v <- whole;standAt a.pos;holding [v] (truthy v))) :
  PT X a (λσ H Q=>ta σ H λx H'=>∃ k,TruV X.K x H' k/\Q k H'):=by
 intro pins s σ H Q I h;refine isTrue_plain (thn (ha pins s σ H _ I h) λv s1 zz=>?_) (he _);obtain ⟨x,H1,I1,r1,q1⟩:=zz;exact tru_ok pins s1 σ H1 x v Q I1 r1 q1
theorem vals1 {x:V} {us:List Value} (r:Vals [x] us):∃ u,us=[u]/\RelV x u:=by
 cases r with
 | cons r1 r2=>cases r2;exact ⟨_,rfl,r1⟩
theorem vals2 {x y:V} {us:List Value} (r:Vals [x,y] us):∃ u w',us=[u,w']/\RelV x u/\RelV y w':=by
 cases r with
 | cons r1 r2 =>
  cases r2 with
  | cons r3 r4=>cases r4;exact ⟨_,_,rfl,r1,r3⟩
theorem hJ:fq X (.builtin "abs") (λxs H Q=>∃ i,xs=[.int i]/\Q (.int (if i < 0 then -i else i)) H):=by
 intro pins s σ H xs us Q I r h;obtain ⟨i,rfl,q⟩:=h;obtain ⟨u,rfl,t,rfl⟩:=vals1 r;exact call_abs_int λu tk=>⟨.int (if i < 0 then -i else i),H,I.tok _,⟨_,rfl⟩,q⟩
theorem iP (hc:X.calm=true):fq X (.builtin "max") (λxs H Q=>∃ i j,xs=[.int i,.int j]/\Q (.int (if j > i then j else i)) H):=by
 intro pins s σ H xs us Q I r h;obtain ⟨i,j,rfl,q⟩:=h;obtain ⟨u,w',rfl,⟨t,rfl⟩,⟨t',rfl⟩⟩:=vals2 r;refine max_two_ints (I.ok.hd hc) λh' tk k=>⟨_,H,I.kept k,?_,q⟩
 by_cases hj:j > i
 ·rw [if_pos hj,if_pos hj];exact ⟨_,rfl⟩
 ·rw [if_neg hj,if_neg hj];exact ⟨_,rfl⟩
theorem fJ (hc:X.calm=true):fq X (.builtin "min") (λxs H Q=>∃ i j,xs=[.int i,.int j]/\Q (.int (if j < i then j else i)) H):=by
 intro pins s σ H xs us Q I r h;obtain ⟨i,j,rfl,q⟩:=h;obtain ⟨u,w',rfl,⟨t,rfl⟩,⟨t',rfl⟩⟩:=vals2 r;refine min_two_ints (I.ok.hd hc) λh' tk k=>⟨_,H,I.kept k,?_,q⟩
 by_cases hj:j < i
 ·rw [if_pos hj,if_pos hj];exact ⟨_,rfl⟩
 ·rw [if_neg hj,if_neg hj];exact ⟨_,rfl⟩
theorem iR:fq X (.type "int") (λxs H Q=>(∃ i,xs=[.int i]/\Q (.int i) H)\/∃ k,xs=[.bl k]/\Q (.int (if k then 1 else 0)) H):=by
 intro pins s σ H xs us Q I r h;rcases h with ⟨i,rfl,q⟩ | ⟨k,rfl,q⟩
 ·obtain ⟨u,rfl,t,rfl⟩:=vals1 r;exact call_int_int ⟨.int i,H,I,⟨_,rfl⟩,q⟩
 ·obtain ⟨u,rfl,r1⟩:=vals1 r;cases r1
  exact call_int_bool ⟨.int (if k then 1 else 0),H,I.tok _,⟨_,rfl⟩,q⟩
def LenV (K:W.Frag) (x:V) (H:Hp) (n:Nat):Prop:=
 match x with
 | .str y=>y.length<=sizeLine/\n=y.length
 | .byt y=>y.size<=sizeLine/\n=y.size
 | .ref p=>(∃ xs,SqL K H p xs/\n=xs.length)\/∃ xs,SqT K H p xs/\n=xs.length
 | _=>False
theorem bC:fq X (.builtin "len") (λxs H Q=>∃ x n,xs=[x]/\LenV X.K x H n/\Q (.int n) H):=by
 intro pins s σ H xs us Q I r h;obtain ⟨x,n,rfl,e,q⟩:=h;obtain ⟨u,rfl,rx⟩:=vals1 r;have hl:=uk;have hs:sizeLine=16777216:=sizeLine_eq;cases x with
 | str y =>
  obtain ⟨t,rfl⟩:=rx;obtain ⟨hy,e'⟩:y.length<=sizeLine/\n=y.length:=e;subst e';exact len_str (by omega) ⟨.int _,H,I.tok _,⟨_,rfl⟩,q⟩
 | byt y =>
  obtain ⟨t,rfl⟩:=rx;obtain ⟨hy,e'⟩:y.size<=sizeLine/\n=y.size:=e;subst e';exact PySem.W.len_bytes (by omega) ⟨.int _,H,I.tok _,⟨_,rfl⟩,q⟩
 | ref p =>
  cases rx
  have e':(∃ xs,SqL X.K H p xs/\n=xs.length)\/∃ xs,SqT X.K H p xs/\n=xs.length:=e;rcases e' with ⟨xs,hx,e'⟩ | ⟨xs,hx,e'⟩
  ·subst e';obtain ⟨its,r',pl,hz⟩:=I.list hx;have hlen:=r'.length;exact Calls.call_len_list pl.isList (by simp only [List.size_toArray];omega) ⟨.int xs.length,H,I.tok _,⟨_,by simp only [List.size_toArray];rw [hlen]⟩,q⟩
  ·subst e';obtain ⟨its,r',pl,hz⟩:=I.tuple hx;have hlen:=r'.length;exact len_tuple pl (by simp only [List.size_toArray];omega) ⟨.int xs.length,H,I.tok _,⟨_,by simp only [List.size_toArray];rw [hlen]⟩,q⟩
 | _=>exact (show False from e).elim
end
structure yF (h:Heap) (x dx C:Addr) (mA:Str->Option Value):Prop where
 obj:h.get? x=some (PySem.W.instObj C dx)
 ns:h.Ns1 dx mA
 ne:dx≠x
theorem Bp {h:Heap} {dx:Addr} {mA:Str->Option Value} (n:h.Ns1 dx mA):∃ od,h.get? dx=some od/\∀ name,PySem.W.lookIn name od=some (mA name):=by
 obtain ⟨o,es,ep,ho,hd,hk,_,hm⟩:=n;refine ⟨o,ho,λname=>?_⟩;have e:=hm name;unfold nsFind findBy at e;rw [<- Array.find?_toList] at e;unfold PySem.W.lookIn;rw [hd];dsimp only;split
 ·rename_i y q;rw [q] at e;exact congrArg some e
 ·rename_i q;rw [q] at e
  have a:es.toList.any (·.refKey)=false:=by
   rw [List.any_eq_false];intro y hy;obtain ⟨z,t,hkey⟩:=hk y (Array.mem_toList_iff.mp hy);simp [DictEntry.refKey,hkey]
  have a':¬es.toList.any (·.refKey)=true:=by rw [a];exact Bool.false_ne_true
  rw [if_neg a'];exact congrArg some e
theorem yF.look {h:Heap} {x dx C:Addr} {mA:Str->Option Value} (I:yF h x dx C mA):∃ od,PySem.W.InstAt h x (PySem.W.instObj C dx) C (some od)/\∀ name,PySem.W.lookIn name od=some (mA name):=
 let ⟨od,ho,hl⟩:=Bp I.ns
 ⟨od,⟨I.obj,rfl,rfl,ho⟩,hl⟩
section
variable {prog:Program} {w:World} {A:Around} {E:Value->Shared->Prop} {s:Shared} {K:W.Frag} {x dx C f:Addr} {mA:Str->Option Value} {name:Str} {v:Value}
theorem get_map {expr:Bool} {Q:Value->Shared->Prop} (X:K.In s.heap) (I:yF s.heap x dx C mA) (hg:PySem.W.plainGet K C name=true) (hh:PySem.W.hasDictIn K C=true)
  (ha:PySem.W.findIn K (.ref C) name=some none) (hv:mA name=some v) (hv':PySem.W.handedIn v=true) (h:Q v {s with toks:=s.toks+1}) :
  wpAny (model prog w) A (getAttr (.ref x) name expr) Q E s:=by
 obtain ⟨od,J,hl⟩:=I.look;exact PySem.W.get_value X J (PySem.W.plainGet_of hg).1 (PySem.W.findObj_own hh ha rfl (by rw [hl,hv])) hv' h
theorem EA {pl:Sem Bool} {Q:Value×List Value->Shared->Prop} (X:K.In s.heap) (I:yF s.heap x dx C mA) (hg:PySem.W.plainGet K C name=true)
  (hf:PySem.W.findIn K (.ref C) name=some (some (.ref f))) (ht:PySem.W.isFn K (.ref f)=true) (hv:mA name=none) (h:Q (.ref f,[.ref x]) s) :
  wpAny (model prog w) A (getMethod (.ref x) name pl) Q E s:=by
 obtain ⟨od,J,hl⟩:=I.look;exact PySem.W.method_fn X J (PySem.W.plainGet_of hg).1 (PySem.W.plainGet_of hg).2 hf (beq_iff_eq.mp ht) (by show (PySem.W.lookIn name od).map (·.isSome)=some false;rw [hl,hv];rfl) h
theorem set_map {ns:List Str} {Q:Unit->Shared->Prop} (X:K.In s.heap) (I:yF s.heap x dx C mA)
  (hs:PySem.W.findIn K (.ref C) "__setattr__"=some (some (.builtin "object.__setattr__"))) (hp:PySem.W.plainOver K C=true) (ht:PySem.W.takerIn K C name=some none) (hh:PySem.W.hasDictIn K C=true)
  (hw:PySem.Within mA ns) (hsz:ns.length<=sizeLine)
  (h:∀ h',yF h' x dx C (λy=>if y=name then some v else mA y)->Heap.SameBut dx s.heap h'->Q () {s with heap:=h',toks:=s.toks+2}) :
  wpAny (model prog w) A (setAttr (.ref x) name v) Q E s:=by
 obtain ⟨od,J,hl⟩:=I.look;refine PySem.W.set_plain X J hs (PySem.W.osa_open (s:={s with toks:=s.toks+1}) (r:=none) X J hp ht λb=>?_)
 obtain ⟨cd,hc,hd'⟩:=PySem.W.any_some hh;have hx:s.heap.get? x=some ⟨.ref C,some dx,.plain,#[]⟩:=I.obj;refine wpAny_bind (wpAny_pure (wpAny_bind (wpAny_bind (wpAny_loadPart hx (wpAny_bind (PySem.W.Looks.here (s:={s with toks:=s.toks+1}) (PySem.W.looks_clsIn X hc) ?_))))))
 rw [hd'];refine wpAny_pure (a:=some dx) (wpAny_bind (wpAny_pure (wpAny_bind ?_)));refine wpAny_nsSet1 (s:={s with toks:=s.toks+1}) I.ns λh' hn2 hs2=>?_
 obtain ⟨oD,esD,epD,hoD,hdD,hcD⟩:=hn2.count (PySem.Within.cons name v hw);refine wpAny_bind (wpAny_lookBehind hoD (by rw [hdD];exact pastItsLine_dict (Nat.le_trans hcD (by rw [List.length_cons];omega))) ?_);exact wpAny_pure (h _ ⟨(hs2.2 _ (Ne.symm I.ne)).trans I.obj,hn2,I.ne⟩ hs2)
theorem Ej {R:Result->Shared->Prop} {vs:List Value} {kw:List (Str×Value)} (X:K.In s.heap) (hm:PySem.W.makesIn K C=true)
  (hi:PySem.W.findIn K (.ref C) "__init__"=some (some (.ref f))) (hf:PySem.W.typeIn K (.ref f)=some (.type "function"))
  (h:codeAny (model prog w) (A.under (.builtin "type.__call__" ⟨.ref C::vs,kw⟩)) (.call (.ref f) ⟨.ref (s.heap.objs.size+1)::vs,kw⟩) (PySem.W.InitBack (s.heap.objs.size+1) R)
   {s with heap:=(s.heap.push PySem.W.emptyDict).push (PySem.W.instObj C s.heap.objs.size) }) :
  codeAny (model prog w) A (.call (.ref C) ⟨vs,kw⟩) R s:=by
 obtain ⟨hh,g,d,t,os⟩:=s;exact PySem.W.make_core (PySem.W.makes_of X hm) (PySem.W.looks_findIn X hi) (λself=>PySem.W.bind_fn X self hf) (.inl rfl) h
theorem Bn {R:Result->Shared->Prop} (X:K.In s.heap) (hm:PySem.W.makesIn K C=true)
  (hi:PySem.W.findIn K (.ref C) "__init__"=some (some (.builtin "object.__init__")))
  (hb:∀ self,PySem.W.Looks (model prog w) s.heap (bindSpecial (.builtin "object.__init__") self) (.builtin "object.__init__",[self]))
  (h:codeAny (model prog w) (A.under (.builtin "type.__call__" ⟨[.ref C],[]⟩)) (.call (.builtin "object.__init__") ⟨[.ref (s.heap.objs.size+1)],[]⟩) (PySem.W.InitBack (s.heap.objs.size+1) R)
   {s with heap:=(s.heap.push PySem.W.emptyDict).push (PySem.W.instObj C s.heap.objs.size) }) :
  codeAny (model prog w) A (.call (.ref C) ⟨[],[]⟩) R s:=by
 obtain ⟨hh,g,d,t,os⟩:=s;exact PySem.W.make_core (PySem.W.makes_of X hm) (PySem.W.looks_findIn X hi) hb (.inr ⟨rfl,rfl⟩) h
end
def iZ (f:Str) (v:V):List (Str×V)->List (Str×V)
 | []=>[(f,v)]
 | (g,x)::r=>if g=f then (g,v)::r else (g,x)::iZ f v r
theorem oj (f g:Str) (v:V):∀ fs:List (Str×V),(iZ f v fs).lookup g=if g=f then some v else fs.lookup g
 | []=>by
  show List.lookup g [(f,v)]=_
  by_cases h:g=f
  ·have hb:(g == f)=true:=beq_iff_eq.mpr h;simp only [List.lookup,hb,if_pos h]
  ·have hb:(g == f)=false:=beq_eq_false_iff_ne.mpr h;simp only [List.lookup,hb,if_neg h]
 | (k,x)::r=>by
  have ih:=oj f g v r;rw [show iZ f v ((k,x)::r)=(if k=f then (k,v)::r else (k,x)::iZ f v r) from rfl]
  by_cases hk:k=f
  ·rw [if_pos hk]
   by_cases h:g=k
   ·have hb:(g == k)=true:=beq_iff_eq.mpr h;simp only [List.lookup,hb,if_pos (h.trans hk)]
   ·have hb:(g == k)=false:=beq_eq_false_iff_ne.mpr h;simp only [List.lookup,hb,if_neg (λe:g=f=>h (e.trans hk.symm))]
  ·rw [if_neg hk]
   by_cases h:g=k
   ·have hb:(g == k)=true:=beq_iff_eq.mpr h;simp only [List.lookup,hb,if_neg (λe:g=f=>hk (h.symm.trans e))]
   ·have hb:(g == k)=false:=beq_eq_false_iff_ne.mpr h;simp only [List.lookup,hb];exact ih
theorem nL (f:Str) (v:V):∀ fs:List (Str×V),f∈(iZ f v fs).map (·.1)/\∀ g,g∈fs.map (·.1)->g∈(iZ f v fs).map (·.1)
 | []=>⟨by simp [iZ],λg h=>by simp at h⟩
 | (k,x)::r=>by
  obtain ⟨i1,i2⟩:=nL f v r;rw [show iZ f v ((k,x)::r)=(if k=f then (k,v)::r else (k,x)::iZ f v r) from rfl]
  by_cases hk:k=f
  ·rw [if_pos hk];subst hk;exact ⟨by simp,λg h=>by simpa using h⟩
  ·rw [if_neg hk];refine ⟨?_,λg h=>?_⟩
   ·rw [List.map_cons];exact List.mem_cons_of_mem _ i1
   ·rw [List.map_cons] at h ⊢;rcases List.mem_cons.mp h with e | e
    ·exact List.mem_cons.mpr (.inl e)
    ·exact List.mem_cons_of_mem _ (i2 g e)
theorem oo (f:Str) (v:V):∀ fs:List (Str×V),(iZ f v fs).length<=fs.length+1
 | []=>by simp [iZ]
 | (k,x)::r=>by
  have ih:=oo f v r;rw [show iZ f v ((k,x)::r)=(if k=f then (k,v)::r else (k,x)::iZ f v r) from rfl]
  by_cases hk:k=f
  ·rw [if_pos hk,List.length_cons,List.length_cons];omega
  ·rw [if_neg hk,List.length_cons,List.length_cons];omega
theorem kF.some_of {v:V} {o:Option Value} (r:kF (some v) o):∃ u,o=some u/\RelV v u:=by
 cases o with
 | none=>exact (show False from r).elim
 | some u=>exact ⟨u,rfl,r⟩
theorem kF.none_of {o:Option Value} (r:kF none o):o=none:=by
 cases o with
 | none=>rfl
 | some u=>exact (show False from r).elim
theorem Bv {v:V} {u:Value} (r:RelV v u):PySem.W.handedIn u=true:=by
 cases v with
 | non=>cases (show u=Value.none from r);rfl
 | bl b=>cases (show u=Value.bool b from r);rfl
 | int i=>obtain ⟨t,e⟩:=(show ∃ t,u=Value.int i t from r);cases e;rfl
 | str x=>obtain ⟨t,e⟩:=(show ∃ t,u=Value.str x t from r);cases e;rfl
 | byt b=>obtain ⟨t,e⟩:=(show ∃ t,u=Value.bytes b t from r);cases e;rfl
 | flt b=>obtain ⟨t,e⟩:=(show ∃ t,u=Value.float b t from r);cases e;rfl
 | ref a=>cases (show u=Value.ref a from r);rfl
 | ty n=>cases (show u=Value.type n from r);rfl
section
variable {P:Program} {w:World} {H H':Hp} {h h':Heap} {a C dx:Addr} {fs fs':List (Str×V)}
theorem pd (hok:HOk P w H h) (e:H a=some (.ins C dx fs)):∃ mA,yF h a dx C mA/\(∀ f,kF (fs.lookup f) (mA f))/\PySem.Within mA (fs.map (·.1))/\fs.length<=1000/\H dx=some (.own a):=by
 obtain ⟨d,z,ne,ob,mA,n,r,q⟩:=(show cq P w H h a (.ins C dx fs) from hok a _ e);exact ⟨mA,⟨ob,n,ne⟩,r,q,z,d⟩
end
structure Cls (K:W.Frag) (C:Addr):Prop where
 pg:PySem.W.plainGet K C Str.empty=true
 hd:PySem.W.hasDictIn K C=true
 po:PySem.W.plainOver K C=true
 sa:PySem.W.findIn K (.ref C) "__setattr__"=some (some (.builtin "object.__setattr__"))
theorem Cls.get {K:W.Frag} {C:Addr} (c:Cls K C) (f:Str):PySem.W.plainGet K C f=true:=c.pg
def fg (K:W.Frag) (C:Addr) (f:Str):Prop:=PySem.W.findIn K (.ref C) f=some none
theorem fg.taker {K:W.Frag} {C:Addr} {f:Str} (n:fg K C f):PySem.W.takerIn K C f=some none:=by
 unfold PySem.W.takerIn;rw [show PySem.W.findIn K (.ref C) f=some none from n];rfl
structure Meth (K:W.Frag) (C:Addr) (m:Str) (f:Addr):Prop where
 at_:PySem.W.findIn K (.ref C) m=some (some (.ref f))
 fn:PySem.W.isFn K (.ref f)=true
 kp:PySem.W.keepIn K (.ref f)=true
section
variable {X:Cx} {pins:List (Addr×Obj)} {σ:St} {H:Hp} {s:Shared} {a C dx:Addr} {fs:List (Str×V)} {f:Str} {v:V} {A:Around} {E:Value->Shared->Prop}
theorem yn {b:Bool} {Q:Value->Shared->Prop} (I:Inv X pins σ H s) (e:H a=some (.ins C dx fs)) (c:Cls X.K C) (n:fg X.K C f) (l:fs.lookup f=some v)
  (h:∀ u s',Inv X pins σ H s'->RelV v u->Q u s'):wpAny (model X.prog X.w) A (getAttr (.ref a) f b) Q E s:=by
 obtain ⟨mA,O,r,_,_,_⟩:=pd I.hok e;obtain ⟨u,hu,ru⟩:=kF.some_of (v:=v) (o:=mA f) (by rw [<- l];exact r f);exact get_map I.kIn O (c.get f) c.hd n hu (Bv ru) (h u _ (I.tok _) ru)
theorem qE {m:Str} {g:Addr} {pl:Sem Bool} {Q:Value×List Value->Shared->Prop} (I:Inv X pins σ H s) (e:H a=some (.ins C dx fs)) (c:Cls X.K C) (k:Meth X.K C m g) (l:fs.lookup m=none)
  (h:Q (.ref g,[.ref a]) s):wpAny (model X.prog X.w) A (getMethod (.ref a) m pl) Q E s:=by
 obtain ⟨mA,O,r,_,_,_⟩:=pd I.hok e;have hn:mA m=none:=kF.none_of (by rw [<- l];exact r m);exact EA I.kIn O (c.get m) k.at_ k.fn hn h
theorem xI {y:V} {u:Value} {Q:Unit->Shared->Prop} (I:Inv X pins σ H s) (e:H a=some (.ins C dx fs)) (c:Cls X.K C) (n:fg X.K C f) (hl:fs.length < 1000) (ry:RelV y u)
  (h:∀ s',Inv X pins σ (upd H a (.ins C dx (iZ f y fs))) s'->Q () s'):wpAny (model X.prog X.w) A (setAttr (.ref a) f u) Q E s:=by
 obtain ⟨mA,O,r,wi,_,ho⟩:=pd I.hok e;have hz:(fs.map (·.1)).length<=sizeLine:=by rw [List.length_map,sizeLine_eq];omega
 refine set_map I.kIn O c.sa c.po n.taker c.hd wi hz λh' O' sb=>h _ ?_;have hd:∃ o,h'.get? dx=some o:=let ⟨o,_,_,e',_⟩:=O'.ns;⟨o,e'⟩;refine I.write (x:=a) (e:=dx) (by rw [e];exact True.intro) (.inr ho) (λb q hb z=>(sb.2 b hb).trans z) hd ?_;refine ⟨by rw [au O.ne];exact ho,?_,O.ne,O'.obj,_,O'.ns,λg=>?_,λg hg=>?_⟩
 ·have:=oo f y fs;omega
 ·show kF ((iZ f y fs).lookup g) (if g=f then some u else mA g);rw [oj]
  by_cases q:g=f
  ·rw [if_pos q,if_pos q];exact ry
  ·rw [if_neg q,if_neg q];exact r g
 ·by_cases q:g=f
  ·rw [q];exact (nL f y fs).1
  ·refine (nL f y fs).2 g (wi g λz=>hg ?_);show (if g=f then some u else mA g)=none;rw [if_neg q];exact z
theorem Inv.made (I:Inv X pins σ H s):Inv X pins σ (upd (upd H s.heap.objs.size (.own (s.heap.objs.size+1))) (s.heap.objs.size+1) (.ins C s.heap.objs.size []))
  {s with heap:=(s.heap.push PySem.W.emptyDict).push (PySem.W.instObj C s.heap.objs.size) }:=by
 have e1:(s.heap.push PySem.W.emptyDict).get? s.heap.objs.size=some PySem.W.emptyDict:=Heap.get?_push_size s.heap rfl
 have e2:((s.heap.push PySem.W.emptyDict).push (PySem.W.instObj C s.heap.objs.size)).get? (s.heap.objs.size+1)=some (PySem.W.instObj C s.heap.objs.size):=by
  have:=Heap.get?_push_size (s.heap.push PySem.W.emptyDict) (o:=PySem.W.instObj C s.heap.objs.size) rfl
  rwa [Heap.size_push] at this
 have e3:(s.heap.push PySem.W.emptyDict).Ns s.heap.objs.size (λ_=>none):=⟨PySem.W.emptyDict,#[],_,e1,rfl,(λe he=>absurd he (by simp)),λ_=>rfl⟩;have I1:=I.laid (a:=s.heap.objs.size) (o:=.own (s.heap.objs.size+1)) (h':=s.heap.push PySem.W.emptyDict) (t':=s.toks) (λb u q=>Heap.get?_push_of_some _ q) (Nat.le_refl _) ⟨_,e1⟩;refine I1.laid (a:=s.heap.objs.size+1) (o:=.ins C s.heap.objs.size []) (t':=s.toks) (λb u q=>Heap.get?_push_of_some _ q) (Nat.le_of_eq (Heap.size_push _ _)) ?_;have ne:s.heap.objs.size≠s.heap.objs.size+1:=Nat.ne_of_lt (Nat.lt_succ_self _);refine ⟨by rw [au ne,ae],Nat.zero_le _,ne,e2,λ_=>none,(Heap.Ns1.of_empty e3).at λo q=>Heap.get?_push_of_some _ q,λ_=>True.intro,λy hy=>absurd rfl hy⟩
theorem attr_of {prog:Program} {w:World} {env:Env} {e:Expr} {f:Str} {pos:Pos} {s:Shared} {Q:Value->Shared->Prop} (hb:attributeBase e f env (eval e env)=eval e env)
  (h:wpAny (model prog w) A (eval e env) (λo s₁=>wpAny (model prog w) A (getAttr o f true) Q E s₁) E s):wpAny (model prog w) A (eval (.Attribute e f pos) env) Q E s:=
 Attribute_any_ h (by rw [arm_eval_Attribute,hb])
end
def tFld (K:W.Frag) (ta:TE) (f:Str):TE:=λσ H Q=>ta σ H λx H1=>∃ a C dx fs v,x=.ref a/\H1 a=some (.ins C dx fs)/\Cls K C/\fg K C f/\fs.lookup f=some v/\Q v H1
def sFld (K:W.Frag) (ta tv:TE) (f:Str):TS:=λD σ H=>tv σ H λy H1=>ta σ H1 λx H2=>∃ a C dx fs,x=.ref a/\H2 a=some (.ins C dx fs)/\Cls K C/\fg K C f/\fs.length < 1000/\
 D.nx σ (upd H2 a (.ins C dx (iZ f y fs)))
section
variable {X:Cx} {o e value:Expr} {f:Str} {pos pos' tpos:Pos} {ta tv:TE}
theorem iz (he:PE X e ta) (hb:attributeBase e f X.env (eval e X.env)=eval e X.env):PE X (.Attribute e f pos) (tFld X.K ta f):=by
 intro pins s σ H Q I h;refine attr_of hb (thn (he pins s σ H _ I h) λu s1 zz=>?_);obtain ⟨x,H1,I1,rx,a,C,dx,fs,v,ex,ea,c,n,l,q⟩:=zz;subst ex;obtain rfl:u=Value.ref a:=rx;exact yn I1 ea c n l λu' s2 I2 ru=>⟨v,H1,I2,ru,q⟩
theorem tW (ha:PE X o ta) (hv:PE X value tv) (hs:swapsWith value (some (.Attribute o f pos')) pos.line X.env=pure false):PS X (.Assign [.Attribute o f pos'] value pos) (sFld X.K ta tv f):=by
 intro pins s σ H D I h;refine plainObj_wpAny_Assign_Attribute (thn (hv pins s σ H _ I h) λu s1 zz=>?_) hs;obtain ⟨y,H1,I1,ry,q⟩:=zz;refine thn (ha pins s1 σ H1 _ I1 q) λov s2 zz=>?_;obtain ⟨x,H2,I2,rx,a,C,dx,fs,ex,ea,c,n,l,q2⟩:=zz;subst ex;obtain rfl:ov=Value.ref a:=rx;exact xI I2 ea c n l ry λs3 I3=>⟨σ,_,I3,q2⟩
end
section
variable {X:Cx} {pins:List (Addr×Obj)} {σ:St} {H:Hp} {s:Shared} {A:Around} {E:Value->Shared->Prop} {Q:Value->Shared->Prop} {c:Value} {b:Bool}
inductive jd (K:W.Frag) (H:Hp):V->Value->Prop where
 | non:jd K H .non (.type "NoneType")
 | bl (x:Bool):jd K H (.bl x) (.type "bool")
 | int (i:Int):jd K H (.int i) (.type "int")
 | str (x:Str):jd K H (.str x) (.type "str")
 | flt (x:UInt64):jd K H (.flt x) (.type "float")
 | lst {a:Addr} {xs:List V} (e:H a=some (.lst xs)):jd K H (.ref a) (.type "list")
 | frz {a:Addr} {o:Obj} {xs:List V} (e:H a=some (.frz o (.lst xs))):jd K H (.ref a) (.type "list")
 | tup {a:Addr} {xs:List V} (e:H a=some (.tup xs)):jd K H (.ref a) (.type "tuple")
 | dK {a:Addr} {kvs:List (Key×V)} (e:H a=some (.dK kvs)):jd K H (.ref a) (.type "dict")
 | dT {a:Addr} {kvs:List (List Key×V)} (e:H a=some (.dT kvs)):jd K H (.ref a) (.type "dict")
 | ins {a C dx:Addr} {fs:List (Str×V)} (e:H a=some (.ins C dx fs)) (cl:Cls K C) (ha:PySem.W.findIn K (.ref C) "__class__"=some (some (.builtin "object.__class__")))
   (hn:PySem.W.specialIn K (.builtin "object.__class__") "__get__"=some (some (.builtin "getset_descriptor.__get__"))) (htk:PySem.W.takesIn K (.builtin "object.__class__")=some true)
   (hm:PySem.W.mroIn K C (.type "object")=some true):jd K H (.ref a) (.ref C)
theorem Bs {x:V} {u t:Value} (I:Inv X pins σ H s) (rx:RelV x u) (ty:jd X.K H x t) (e:PySem.W.kitOne X.K t c=some b) (h:∀ tk,Q (.bool b) {s with toks:=tk}) :
  wpAny (model X.prog X.w) A (call (.builtin "isinstance") [u,c]) Q E s:=by
 cases ty with
 | non=>cases (show u=Value.none from rx);exact PySem.W.kia_one PySem.W.kitx_none I.kIn True.intro e (λz=>nomatch z) h
 | bl y=>cases (show u=Value.bool y from rx);exact PySem.W.kia_one PySem.W.kitx_bool I.kIn True.intro e (λz=>nomatch z) h
 | int i=>obtain ⟨t,q⟩:=(show ∃ t,u=Value.int i t from rx);cases q;exact PySem.W.kia_one PySem.W.kitx_int I.kIn True.intro e (λz=>nomatch z) h
 | str y=>obtain ⟨t,q⟩:=(show ∃ t,u=Value.str y t from rx);cases q;exact PySem.W.kia_one PySem.W.kitx_str I.kIn True.intro e (λz=>nomatch z) h
 | flt y=>obtain ⟨t,q⟩:=(show ∃ t,u=Value.float y t from rx);cases q;exact PySem.W.kia_one PySem.W.kitx_float I.kIn True.intro e (λz=>nomatch z) h
 | @lst a xs ea =>
  cases (show u=Value.ref a from rx)
  obtain ⟨_,_,n,_,h1⟩:=(show cq X.prog X.w H s.heap a (.lst xs) from I.hok a _ ea);exact PySem.W.kia_one PySem.W.kitx_list I.kIn ⟨_,h1,rfl⟩ e (λz=>nomatch z) h
 | @frz a ob xs ea =>
  cases (show u=Value.ref a from rx)
  obtain ⟨_,_,_,n,_,h1⟩:=(show cq X.prog X.w H s.heap a (.frz ob (.lst xs)) from I.hok a _ ea);exact PySem.W.kia_one PySem.W.kitx_list I.kIn ⟨_,h1,rfl⟩ e (λz=>nomatch z) h
 | @tup a xs ea =>
  cases (show u=Value.ref a from rx)
  obtain ⟨_,_,_,p⟩:=(show cq X.prog X.w H s.heap a (.tup xs) from I.hok a _ ea);obtain ⟨o,h1,h2,_⟩:=p;exact PySem.W.kia_one PySem.W.kitx_tuple I.kIn ⟨o,h1,h2⟩ e (λz=>nomatch z) h
 | @dK a kvs ea =>
  cases (show u=Value.ref a from rx)
  obtain ⟨_,_,vs,_,p⟩:=(show cq X.prog X.w H s.heap a (.dK kvs) from I.hok a _ ea);obtain ⟨o,es,ep,h1,h2,_⟩:=p;exact PySem.W.kia_one PySem.W.kitx_dict I.kIn ⟨o,h1,h2.1⟩ e (λz=>nomatch z) h
 | @dT a kvs ea =>
  cases (show u=Value.ref a from rx)
  obtain ⟨_,_,xs,_,o,es,ep,h1,h2,_⟩:=(show cq X.prog X.w H s.heap a (.dT kvs) from I.hok a _ ea);exact PySem.W.kia_one PySem.W.kitx_dict I.kIn ⟨o,h1,h2.1⟩ e (λz=>nomatch z) h
 | @ins a C dx fs ea cl ha hn htk hm =>
  cases (show u=Value.ref a from rx)
  obtain ⟨mA,O,_⟩:=pd I.hok ea;obtain ⟨od,J,_⟩:=O.look;exact PySem.W.kia_one (PySem.W.kitx_own (cl.get _) cl.hd ha hn htk hm) I.kIn J e (λz=>nomatch z) h
end
structure dq (k:Nat) (A:Around):Prop where
 hd:A.handled=none
 dp:A.depth+3*k+5 < recursionLimit
 un:A.units+16*k+200 < cLine
theorem dq.mono {j k:Nat} {A:Around} (r:dq k A) (h:j<=k):dq j A:=⟨r.hd,by have:=r.dp;omega,by have:=r.un;omega⟩
theorem dq.deeper {k:Nat} {A:Around} (r:dq (k+1) A) (env:Env):dq k (A.deeper env):=
 ⟨r.hd,by have:=r.dp;show A.depth+1+3*k+5 < _;omega,by have:=r.un;show A.units+3+16*k+200 < _;omega⟩
theorem yh {A:Around} {C:Addr} {us:List Value} {kw:List (Str×Value)}:(A.under (.builtin "type.__call__" ⟨.ref C::us,kw⟩)).depth=A.depth+1:=by
 first | rfl | simp [Around.under,Code.weight,Code.isCreation,Code.isGuard,Code.isCaller,Code.frames,Code.isFrame,guardIds]
theorem yg {A:Around} {C:Addr} {us:List Value} {kw:List (Str×Value)}:(A.under (.builtin "type.__call__" ⟨.ref C::us,kw⟩)).units=A.units+1:=by
 first | rfl | simp [Around.under,Code.cUnits,Code.frames,Code.isFrame]
theorem dq.make {k:Nat} {A:Around} (r:dq (k+1) A) (C:Addr) (us:List Value) (kw:List (Str×Value)):dq k (A.under (.builtin "type.__call__" ⟨.ref C::us,kw⟩)):=
 ⟨r.hd,by have:=r.dp;rw [yh];omega,by have:=r.un;rw [yg];omega⟩
theorem dq.depth {k:Nat} {A:Around} (r:dq k A):A.depth < recursionLimit:=by have:=r.dp;omega
theorem dq.units {k:Nat} {A:Around} (r:dq k A):A.units+64 < cLine:=by have:=r.un;omega
def pG:TA:=λ_ H Q=>Q [] H
def fo (ta:TE) (tr:TA):TA:=λσ H Q=>ta σ H λx H1=>tr σ H1 λxs H2=>Q (x::xs) H2
section
variable {X:Cx} {e:Expr} {es:List Expr} {te:TE} {t:TA} {pos:Pos}
theorem af:PA X [] pG:=λ_ _ _ _ H Q I h=>Calls.spliced_nil ⟨[],H,I,.nil,h⟩
theorem aa (ha:PE X e te) (hr:PA X es t) (hs:starEach (e::es) X.env=(false,eval e X.env)::starEach es X.env:=by rfl):PA X (e::es) (fo te t):=by
 intro pos pins s σ H Q I h;rw [hs];show wpAny _ _ (spliced ((false,eval e X.env)::backTo pos (starEach es X.env))) _ _ s;refine Calls.spliced_cons (thn (ha pins s σ H _ I h) λu s1 zz=>?_);obtain ⟨x,H1,I1,r1,q1⟩:=zz;refine thn (hr pos pins s1 σ H1 _ I1 q1) λus s2 zz=>?_;obtain ⟨xs,H2,I2,r2,q2⟩:=zz;exact ⟨x::xs,H2,I2,.cons r1 r2,q2⟩
def tTup (t:TA):TE:=λσ H Q=>t σ H λxs H1=>xs.length<=sizeLine/\∀ p,H1 p=none->Q (.ref p) (upd H1 p (.tup xs))
def tLst (t:TA):TE:=λσ H Q=>t σ H λxs H1=>xs.length<=sizeLine/\∀ p,H1 p=none->Q (.ref p) (upd H1 p (.lst xs))
theorem ba {x1} (h:PA X es t):PE X (.Tuple es x1 pos) (tTup t):=by
 intro pins s σ H Q I hq;refine wpAny_Tuple_spliced (thn (h pos pins s σ H _ I hq) λus s1 zz=>?_);obtain ⟨xs,H1,I1,r,z,q⟩:=zz;refine ⟨by rw [<- r.length];exact z,?_⟩;have hf:H1 s1.heap.objs.size=none:=I1.hok.fresh (Nat.le_refl _);refine ⟨.ref s1.heap.objs.size,upd H1 s1.heap.objs.size (.tup xs),I1.laid (t':=s1.toks) (λb u e=>Heap.get?_push_of_some _ e) (Nat.le_refl _) ?_,rfl,q _ hf⟩;exact ⟨z,us,r,⟨_,Heap.get?_push_size _ rfl,rfl,_,rfl⟩⟩
theorem bI (h:PA X es t):PE X (.List es pos) (tLst t):=by
 intro pins s σ H Q I hq;refine wpAny_List_spliced (thn (h pos pins s σ H _ I hq) λus s1 zz=>?_);obtain ⟨xs,H1,I1,r,z,q⟩:=zz;refine ⟨by rw [<- r.length];exact z,?_⟩;have hf:H1 s1.heap.objs.size=none:=I1.hok.fresh (Nat.le_refl _);refine ⟨.ref s1.heap.objs.size,upd H1 s1.heap.objs.size (.lst xs),I1.laid (t':=s1.toks) (λb u e=>Heap.get?_push_of_some _ e) (Nat.le_refl _) ?_,rfl,q _ hf⟩;exact ⟨z,us,0,r,Heap.get?_push_size _ rfl⟩
end
abbrev Sp:=List V->Hp->VK->XK->Prop
abbrev CXT:=List Env->Hp->Shared->XK->Value->Shared->Prop
structure yI (P:Program) (w:World) (K:W.Frag) (mg:Str->Option Value) (base:Heap) (A:Around) (outer:List Env) (s:Shared) (H:Hp):Prop where
 frames:A.frames=some outer
 mod:Mod K mg base
 bs:∀ b o,base.get? b=some o->s.heap.get? b=some o/\H b=none
 bsz:base.objs.size<=s.heap.objs.size
 funs:s.heap.FunFrames base outer
 frf:∀ b∈frs outer,H b=none
 hok:HOk P w H s.heap
 bare:AllBare s.gens
def CE (outer:List Env) (P:Program) (w:World) (H:Hp) (s:Shared) (Q:VK) (u:Value) (s':Shared):Prop:=
 ∃ v H',s'.os=s.os/\AllBare s'.gens/\Un (frs outer) [] H H' s.heap s'.heap/\HOk P w H' s'.heap/\RelV v u/\Q v H'
def CR (CX:CXT) (outer:List Env) (P:Program) (w:World) (H:Hp) (s:Shared) (Q:VK) (E:XK) (r:Result) (s':Shared):Prop:=
 match r with
 | .ok (.ret u)=>CE outer P w H s Q u s'
 | .ok _=>False
 | .error e=>CX outer H s E e s'
structure mR (P:Program) (w:World) (K:W.Frag) (mg:Str->Option Value) (base:Heap) (CX:CXT) (k:Nat) (f:Addr) (fd:FuncData) (ps:List Str) (sp:Sp):Prop where
 len:∀ vs H Q E,sp vs H Q E->vs.length=ps.length
 run:∀(A:Around) (outer:List Env) (s:Shared) (H:Hp) (args:Args) (us:List Value) (vs:List V) (Q:VK) (E:XK),dq k A->yI P w K mg base A outer s H->BindsTo s fd args (ps.zip us)->Vals vs us->sp vs H Q E->
  codeAny (model P w) A (.call (.ref f) args) (CR CX outer P w H s Q E) s
theorem yI.make {P:Program} {w:World} {K:W.Frag} {mg:Str->Option Value} {base:Heap} {A:Around} {outer:List Env} {s:Shared} {H:Hp} (e:yI P w K mg base A outer s H) (C:Addr) (us:List Value) (kw:List (Str×Value)) :
  yI P w K mg base (A.under (.builtin "type.__call__" ⟨.ref C::us,kw⟩)) outer s H:=⟨by first | exact e.frames | (simpa [Around.under,Code.envs,Code.isFrame,pushEnvs] using e.frames),e.mod,e.bs,e.bsz,e.funs,e.frf,e.hok,e.bare⟩
section
variable {X:Cx} {pins:List (Addr×Obj)} {σ:St} {H:Hp} {s s':Shared}
theorem Inv.env0 (I:Inv X pins σ H s):yI X.prog X.w X.K X.mg X.base X.A X.stack s H:=
 ⟨I.ok.frames,I.ok.mod,I.bs,Nat.le_trans I.ok.bsz I.sz,I.stack,I.stkFree,I.hok,I.bare⟩
theorem Inv.after {Q:VK} {u:Value} (I:Inv X pins σ H s) (h:CE X.stack X.prog X.w H s Q u s'):EP X pins σ Q u s':=by
 obtain ⟨v,H',os,bare,un,hok,r,q⟩:=h;obtain ⟨hh,g,d,t,os'⟩:=s';obtain rfl:os'=s.os:=os;exact ⟨v,H',I.call (h':=hh) (g':=g) (d':=d) (t':=t) (ch:=[]) un hok bare (λb z=>absurd z (by simp)),r,q⟩
end
def pH (sp:Sp) (dvs:List V) (E:XK) (t:TA):TE:=λσ H Q=>t σ H λvs H1=>sp (vs++dvs) H1 Q E
def tMake (C:Addr) (sp:Sp) (dvs:List V) (E:XK) (t:TA):TE:=λσ H Q=>t σ H λvs H1=>∀ x dx,H1 x=none->H1 dx=none->dx≠x->
 sp (.ref x::(vs++dvs)) (upd (upd H1 dx (.own x)) x (.ins C dx [])) (λv H2=>v=.non/\Q (.ref x) H2) E
def Binds (K:W.Frag) (fd:FuncData) (ps:List Str) (ds:List Value):Prop:=
 ∀(s:Shared) (us:List Value),K.In s.heap->(us++ds).length=ps.length->BindsTo s fd ⟨us,[]⟩ (ps.zip (us++ds))
theorem Binds.all {K:W.Frag} {fd:FuncData} {ps:List Str} (h:∀ us:List Value,us.length=ps.length->bindArgs fd ⟨us,[]⟩=pure (ps.zip us)):Binds K fd ps []:=λs us _ hl=>by
 rw [List.append_nil] at hl ⊢;exact .of_eq (h us hl)
def Passes (CX:CXT) (X:Cx) (E:XK):Prop:=∀(pins:List (Addr×Obj)) (σ:St) (H:Hp) (s:Shared) (e:Value) (s':Shared),Inv X pins σ H s->CX X.stack H s E e s'->X.xe e s'
section
variable {X:Cx} {CX:CXT} {k:Nat} {f C:Addr} {fd:FuncData} {ps:List Str} {sp:Sp} {dvs:List V} {ds:List Value} {E:XK} {x m:Str} {p pos apos:Pos} {e o:Expr} {es:List Expr} {ta:TE} {t:TA}
theorem tP {pins:List (Addr×Obj)} {σ:St} {H:Hp} {s:Shared} {Q:VK} {us:List Value} {vs:List V} (F:mR X.prog X.w X.K X.mg X.base CX k f fd ps sp) (hr:dq k X.A) (hb:Binds X.K fd ps ds) (hd:Vals dvs ds) (hx:Passes CX X E)
  (I:Inv X pins σ H s) (r:Vals vs us) (h:sp (vs++dvs) H Q E):wpAny (model X.prog X.w) X.A (call (.ref f) us) (EP X pins σ Q) X.xe s:=by
 have r2:Vals (vs++dvs) (us++ds):=r.append hd;have hl:(us++ds).length=ps.length:=by rw [<- r2.length];exact F.len _ _ _ _ h
 refine wpAny_call (codeAny_mono (F.run X.A X.stack s H ⟨us,[]⟩ (us++ds) (vs++dvs) Q E hr I.env0 (hb s us I.kIn hl) r2 h) λr s' hq=>?_);cases r with
 | error e=>exact hx pins σ H s e s' I hq
 | ok fl =>
  cases fl with
  | ret u=>exact I.after hq
  | next=>exact False.elim hq
  | brk=>exact False.elim hq
  | cont=>exact False.elim hq
theorem tZ (F:mR X.prog X.w X.K X.mg X.base CX k f fd ps sp) (hr:dq k X.A) (hg:Gl X x) (hm:X.mg x=some (.ref f)) (hk:PySem.W.keepIn X.K (.ref f)=true) (hb:Binds X.K fd ps ds) (hd:Vals dvs ds) (hx:Passes CX X E)
  (ha:PA X (e::es) t) (hdb:(x == ("__debug__":Str))=false:=by decide) (he:starEach (e::es) X.env=(false,eval e X.env)::starEach es X.env:=by rfl) (hpl:(backTo pos (starEach es X.env)).any (·.1)=false:=by rfl) :
  PE X (.Call (.Name x p) (e::es) [] pos) (pH sp dvs E t):=by
 intro pins s σ H Q I h;refine wpAny_Call_Name_kw (ky I hg hm ?_ hdb);refine PySem.W.callWith_K (h₀:=X.base) I.ok.mod.kin hk (thn (ha pos pins s σ H _ I h) λus s1 zz=>?_) he hpl;obtain ⟨vs,H1,I1,r,q⟩:=zz;refine ⟨I1.kIn,?_⟩;exact tP F hr hb hd hx I1 r q
theorem DH (F:mR X.prog X.w X.K X.mg X.base CX k f fd ps sp) (hr:dq k X.A) (hg:Gl X x) (hm:X.mg x=some (.ref f)) (hk:PySem.W.keepIn X.K (.ref f)=true) (hb:Binds X.K fd ps ds) (hd:Vals dvs ds) (hx:Passes CX X E)
  (hdb:(x == ("__debug__":Str))=false:=by decide):PE X (.Call (.Name x p) [] [] pos) (pH sp dvs E pG):=by
 intro pins s σ H Q I h;refine wpAny_Call_Name_kw (ky I hg hm ?_ hdb);exact PySem.W.callWith_K0 I.kIn hk (tP (us:=[]) F hr hb hd hx I .nil h)
structure Mk (K:W.Frag) (C f:Addr):Prop where
 makes:PySem.W.makesIn K C=true
 init:PySem.W.findIn K (.ref C) "__init__"=some (some (.ref f))
 fn:PySem.W.isFn K (.ref f)=true
 kp:PySem.W.keepIn K (.ref C)=true
theorem Dd {pins:List (Addr×Obj)} {σ:St} {H:Hp} {s:Shared} {Q:VK} {us:List Value} {vs:List V} (M:Mk X.K C f) (F:mR X.prog X.w X.K X.mg X.base CX k f fd ps sp) (hr:dq (k+1) X.A) (hb:Binds X.K fd ps ds) (hd:Vals dvs ds)
  (hx:Passes CX X E) (I:Inv X pins σ H s) (r:Vals vs us)
  (h:∀ x dx,H x=none->H dx=none->dx≠x->sp (.ref x::(vs++dvs)) (upd (upd H dx (.own x)) x (.ins C dx [])) (λv H2=>v=.non/\Q (.ref x) H2) E) :
  wpAny (model X.prog X.w) X.A (call (.ref C) us) (EP X pins σ Q) X.xe s:=by
 have hq:=h (s.heap.objs.size+1) s.heap.objs.size (I.hok.fresh (Nat.le_succ _)) (I.hok.fresh (Nat.le_refl _)) (Nat.ne_of_lt (Nat.lt_succ_self _));have I2:=Inv.made (C:=C) I;have r2:Vals (V.ref (s.heap.objs.size+1)::(vs++dvs)) (Value.ref (s.heap.objs.size+1)::(us++ds)):=.cons rfl (r.append hd)
 have hl:(Value.ref (s.heap.objs.size+1)::us++ds).length=ps.length:=by
  have e:=r2.length;rw [F.len _ _ _ _ hq] at e;exact e.symm
 refine wpAny_call (Ej (f:=f) I.kIn M.makes M.init (beq_iff_eq.mp M.fn) (codeAny_mono (F.run _ X.stack _ _ ⟨Value.ref (s.heap.objs.size+1)::us,[]⟩ (Value.ref (s.heap.objs.size+1)::(us++ds)) _ _ E (hr.make C us [])
  (I2.env0.make C us []) (hb _ (Value.ref (s.heap.objs.size+1)::us) I2.kIn hl) r2 hq) λr s' hq'=>?_))
 cases r with
 | error e=>exact hx pins σ _ _ e s' I2 hq'
 | ok fl =>
  cases fl with
  | ret u =>
   obtain ⟨v,H',I3,rv,ev,q3⟩:=I2.after hq';subst ev;exact ⟨rv,⟨V.ref (s.heap.objs.size+1),H',I3,rfl,q3⟩⟩
  | next=>exact False.elim hq'
  | brk=>exact False.elim hq'
  | cont=>exact False.elim hq'
theorem pe_make (M:Mk X.K C f) (F:mR X.prog X.w X.K X.mg X.base CX k f fd ps sp) (hr:dq (k+1) X.A) (hg:Gl X x) (hm:X.mg x=some (.ref C)) (hb:Binds X.K fd ps ds) (hd:Vals dvs ds) (hx:Passes CX X E)
  (ha:PA X (e::es) t) (hdb:(x == ("__debug__":Str))=false:=by decide) (he:starEach (e::es) X.env=(false,eval e X.env)::starEach es X.env:=by rfl) (hpl:(backTo pos (starEach es X.env)).any (·.1)=false:=by rfl) :
  PE X (.Call (.Name x p) (e::es) [] pos) (tMake C sp dvs E t):=by
 intro pins s σ H Q I h;refine wpAny_Call_Name_kw (ky I hg hm ?_ hdb);refine PySem.W.callWith_K (h₀:=X.base) I.ok.mod.kin M.kp (thn (ha pos pins s σ H _ I h) λus s1 zz=>?_) he hpl;obtain ⟨vs,H1,I1,r,q⟩:=zz;refine ⟨I1.kIn,?_⟩;exact Dd M F hr hb hd hx I1 r q
end
section
variable {X:Cx} {CX:CXT} {k:Nat} {f C:Addr} {fd:FuncData} {ps ks:List Str} {sp:Sp} {E:XK} {x m:Str} {p pos apos kpos:Pos} {e o:Expr} {es:List Expr} {kws:List Keyword} {te ta:TE} {t tk:TA} {nm:Option Str}
variable {g:List Value->List Value->List Value} {gV:List V->List V->List V}
end
structure az (N P:List Str) (sc:Scope):Prop where
 kind:sc.kind=.function
 co:sc.isCoroutine=false
 gen:sc.isGenerator=false
 nd:N.Nodup
 pre:N.take P.length=P
 par:∀ x∈P,sc.names.lookup x=some .local\/sc.names.lookup x=some .cell
 nofree:∀ y∈sc.names,y.2≠.free
theorem ar0 {p:List Value->Prop} (h:p []) (us:List Value) (e:us.length=0):p us:=by
 rw [List.eq_nil_of_length_eq_zero e];exact h
theorem arS {p:List Value->Prop} {n:Nat} (h:∀ a us,us.length=n->p (a::us)) (us:List Value) (e:us.length=n+1):p us:=by
 cases us with
 | nil=>exact absurd e.symm (Nat.succ_ne_zero n)
 | cons a t=>exact h a t (Nat.succ.inj e)
theorem ar1 {p:List Value->Prop} (h:∀ a,p [a]):∀ us:List Value,us.length=1->p us:=arS λa=>ar0 (h a)
theorem ar2 {p:List Value->Prop} (h:∀ a b,p [a,b]):∀ us:List Value,us.length=2->p us:=arS λa=>ar1 (h a)
theorem ar3 {p:List Value->Prop} (h:∀ a b c,p [a,b,c]):∀ us:List Value,us.length=3->p us:=arS λa=>ar2 (h a)
theorem ar4 {p:List Value->Prop} (h:∀ a b c d,p [a,b,c,d]):∀ us:List Value,us.length=4->p us:=arS λa=>ar3 (h a)
theorem ar5 {p:List Value->Prop} (h:∀ a b c d e,p [a,b,c,d,e]):∀ us:List Value,us.length=5->p us:=arS λa=>ar4 (h a)
theorem fsc {N P:List Str} {sc:Scope} (k:sc.kind=.function) (h:(sc.isCoroutine=false)/\(sc.isGenerator=false)/\(N.Nodup)/\(N.take P.length=P)/\(∀ x∈P,sc.names.lookup x=some .local\/sc.names.lookup x=some .cell)/\(∀ y∈sc.names,y.2≠.free)):az N P sc:=⟨k,h.1,h.2.1,h.2.2.1,h.2.2.2.1,h.2.2.2.2.1,h.2.2.2.2.2⟩
theorem sP {kindOf:Str->Option NameKind} {x:Str}:∀{binds:List (Str×Value)} {m:Str->Option Value},(∀ v,(x,v) ∉ binds)->bindL kindOf binds m x=m x
 | [],_,_=>rfl
 | (n,v)::r,m,h=>by
  unfold bindL;rw [sP λw hw=>h w (List.mem_cons_of_mem _ hw)];split
  ·have:x≠n:=by rintro rfl;exact h v List.mem_cons_self
   simp [this]
  ·rfl
theorem sR {kindOf:Str->Option NameKind} {x:Str}:∀{binds:List (Str×Value)} {m:Str->Option Value},(∀ v,(x,v) ∉ binds)->bindC kindOf binds m x=m x
 | [],_,_=>rfl
 | (n,v)::r,m,h=>by
  unfold bindC;rw [sR λw hw=>h w (List.mem_cons_of_mem _ hw)];split
  ·rfl
  ·have:x≠n:=by rintro rfl;exact h v List.mem_cons_self
   simp [this]
theorem sQ {kindOf:Str->Option NameKind} {x:Str} {v:Value}:∀{P:List Str} {vs:List Value} {i:Nat} {m:Str->Option Value},P.Nodup->P[i]?=some x->vs[i]?=some v->kindOf x=some .local->
  bindL kindOf (P.zip vs) m x=some v
 | [],_,_,_,_,h,_,_=>by simp at h
 | _::_,[],_,_,_,_,h,_=>by simp at h
 | p::P,w::vs,0,m,nd,h1,h2,hk=>by
  simp at h1 h2;subst h1;subst h2;show bindL kindOf ((p,w)::P.zip vs) m p=_;unfold bindL;rw [sP λv hv=>(List.nodup_cons.mp nd).1 (List.of_mem_zip hv).1,if_pos hk];simp
 | p::P,w::vs,i+1,m,nd,h1,h2,hk=>by
  show bindL kindOf ((p,w)::P.zip vs) m x=_;unfold bindL;exact sQ (i:=i) (List.nodup_cons.mp nd).2 (by simpa using h1) (by simpa using h2) hk
theorem sS {kindOf:Str->Option NameKind} {x:Str} {v:Value}:∀{P:List Str} {vs:List Value} {i:Nat} {m:Str->Option Value},P.Nodup->P[i]?=some x->vs[i]?=some v->kindOf x≠some .local->
  bindC kindOf (P.zip vs) m x=some v
 | [],_,_,_,_,h,_,_=>by simp at h
 | _::_,[],_,_,_,_,h,_=>by simp at h
 | p::P,w::vs,0,m,nd,h1,h2,hk=>by
  simp at h1 h2;subst h1;subst h2;show bindC kindOf ((p,w)::P.zip vs) m p=_;unfold bindC;rw [sR λv hv=>(List.nodup_cons.mp nd).1 (List.of_mem_zip hv).1,if_neg hk];simp
 | p::P,w::vs,i+1,m,nd,h1,h2,hk=>by
  show bindC kindOf ((p,w)::P.zip vs) m x=_;unfold bindC;exact sS (i:=i) (List.nodup_cons.mp nd).2 (by simpa using h1) (by simpa using h2) hk
def start (N:List Str) (vs:List V):St:=vs.map some++List.replicate (N.length - vs.length) none
noncomputable def cS (CX:CXT) (P:Program) (w:World) (K:W.Frag) (mg:Str->Option Value) (base:Heap) (N:List Str) (qual:Str) (scope:Scope) (f:Addr) (cd:Value) (A:Around) (outer:List Env) (s:Shared) (H:Hp) (E:XK):Cx where
 prog:=P
 w:=w
 K:=K
 mg:=mg
 base:=base
 A:=A.deeper (envOfC qual scope s.heap.objs.size f cd)
 N:=N
 s₀:=s
 H₀:=H
 env:=envOfC qual scope s.heap.objs.size f cd
 outer:=outer
 stack:=envOfC qual scope s.heap.objs.size f cd::outer
 ex:=[]
 calm:=true
 fn:=λ_=>true
 pn:=[]
 xe:=λe s'=>wpAny (model P w) (A.deeper (envOfC qual scope s.heap.objs.size f cd)) (leaving (envOfC qual scope s.heap.objs.size f cd) e) (λ_ s''=>CX outer H s E e s'') (λe' s''=>CX outer H s E e' s'') s'
theorem wN {sc:Scope} {n:Nat} {x:Str} (h:sc.names.lookup x=some .cell):∃ c,(cellsFrom n sc.names []).lookup x=some c:=by
 have q:=PySem.W.cellsFrom_some sc.names n [] (.inl h);exact Option.isSome_iff_exists.mp q
theorem Bt {CX:CXT} {P:Program} {w:World} {K:W.Frag} {mg:Str->Option Value} {base:Heap} {N ps:List Str} {qual:Str} {scope:Scope} {f:Addr} {cd:Value} {A:Around} {outer:List Env} {s s1:Shared} {H:Hp} {E:XK} {us:List Value} {vs:List V}
  (S:az N ps scope) (hd:A.handled=none) (e0:yI P w K mg base A outer s H) (hl:vs.length=ps.length) (r:Vals vs us)
  (x:InCallC s s.heap.objs.size (bindL (envOfC qual scope s.heap.objs.size f cd).kindOf (ps.zip us) λ_=>none) (cellsFrom (s.heap.objs.size+1) scope.names []) (bindC (envOfC qual scope s.heap.objs.size f cd).kindOf (ps.zip us) λ_=>none) s1) :
  Inv (cS CX P w K mg base N qual scope f cd A outer s H E) [] (start N vs) H s1:=by
 have hpl:ps.length<=N.length:=by have:=congrArg List.length S.pre;rw [List.length_take] at this;omega
 obtain ⟨h1,tk,rfl,hk⟩:=x.done;have noA:∀ b:Addr,b ∉ (cS CX P w K mg base N qual scope f cd A outer s H E).ex:=λb z=>absurd (show b∈([]:List Addr) from z) (by simp)
 refine ⟨⟨e0.mod,S.kind,rfl,rfl,Nat.le_refl _,λy z c h1 h2=>?_,λy hy=>?_,λy c _ h=>?_,λ_=>hd,Around.frames_deeper e0.frames,.inr ⟨rfl,rfl⟩,λb z=>absurd z (noA b),e0.bs,e0.bsz,λb _ _=>noA b,λb z=>absurd z (noA b),e0.funs,e0.frf⟩,
  rfl,e0.bare,Un.kept hk,⟨_,x.toInCall.ns,λi y v h1 h2 h3=>?_⟩,λy c h=>⟨_,x.cell y c h⟩,e0.hok.fresh (Nat.le_refl _),λy c h=>?_,λp hp=>absurd (show p∈([]:List (Addr×Obj)) from hp) (by simp),e0.hok.kept hk,?_⟩
 ·exact name_of_addr x.apart (PySem.mem_of_lookup h1) (PySem.mem_of_lookup h2)
 ·have hy:scope.names.lookup y=some .cell\/scope.names.lookup y=some .free:=hy;rcases hy with hy | hy
  ·exact wN hy
  ·exact absurd rfl (S.nofree _ (PySem.mem_of_lookup hy))
 ·exact Nat.le_of_lt (x.above y c (PySem.mem_of_lookup h))
 ·have hi:i < vs.length:=by
   unfold start at h2
   by_cases hi:i < vs.length
   ·exact hi
   ·rw [List.getElem?_append_right (by simpa using hi)] at h2;rw [List.getElem?_replicate] at h2;split at h2 <;> cases h2
  have ha:vs[i]?=some v:=by
   unfold start at h2;rw [List.getElem?_append_left (by simpa using hi),List.getElem?_map] at h2;cases e:vs[i]? with
   | none=>rw [e] at h2;cases h2
   | some a=>rw [e] at h2;cases h2;rfl
  obtain ⟨u,hu,rv⟩:=r.get ha
  have hp:ps[i]?=some y:=by
   rw [<- S.pre,List.getElem?_take_of_lt (by omega)];exact h1
  have ndP:ps.Nodup:=by rw [<- S.pre];exact S.nd.sublist (List.take_sublist _ _)
  refine ⟨u,rv,?_⟩;rcases S.par y (List.mem_of_getElem? hp) with k | k
  ·exact .inl ⟨k,sQ ndP hp hu k⟩
  ·obtain ⟨c,e⟩:=wN (n:=s.heap.objs.size+1) k;refine .inr ⟨.inl k,c,e,?_⟩;have q:=x.cell y c e;rw [sS ndP hp hu (by show scope.names.lookup y≠_;rw [k];decide)] at q;exact q
 ·exact e0.hok.fresh (Nat.le_of_lt (x.above y c (PySem.mem_of_lookup h)))
 ·unfold start;show _=N.length;rw [List.length_append,List.length_map,List.length_replicate];omega
theorem fn_of {CX:CXT} {P:Program} {w:World} {K:W.Frag} {mg:Str->Option Value} {base:Heap} {k:Nat} {f:Addr} {name qual:Str} {params:Arguments} {body:List Stmt} {scope:Scope} {dV kV doc pm cdv ct oc:Value} {an od:Option Addr}
  {osl:Array (Option Value)} {N ps:List Str} {sp:Sp} (lk:K.lookup f=some ⟨oc,od,.func (PySem.W.fnOf name qual params body scope dV kV doc pm an cdv ct),osl⟩) (hcd:PySem.W.codeIn K cdv qual=true) (S:az N ps scope)
  (len:∀ vs H Q E,sp vs H Q E->vs.length=ps.length)
  (hbody:∀(A:Around) (outer:List Env) (s:Shared) (H:Hp) (vs:List V) (Q:VK) (E:XK),dq k (A.deeper (envOfC qual scope s.heap.objs.size f cdv))->sp vs H Q E->
   ∃ t,PSs (cS CX P w K mg base N qual scope f cdv A outer s H E) body t/\t {nx:=λ_ H'=>Q .non H',rt:=Q} (start N vs) H) :
  mR P w K mg base CX (k+1) f (PySem.W.fnOf name qual params body scope dV kV doc pm an cdv ct) ps sp:=by
 refine ⟨len,λA outer s H args us vs Q E hr e0 hb r hsp=>?_⟩;have hl:=len _ _ _ _ hsp;have KX:K.In s.heap:=e0.mod.kin.keeps λb o e=>(e0.bs b o e).1;have lim:s.heap.NoLimit:=e0.mod.nolimit.keeps λb o e=>(e0.bs b o e).1
 have hkind:∀ y∈ps.zip us,scope.names.lookup y.1=some .local\/(scope.names.lookup y.1=some .cell/\((cellsFrom (s.heap.objs.size+1) scope.names []).lookup y.1).isSome=true):=λ⟨n,v⟩ hy=>by
  rcases S.par n (List.of_mem_zip hy).1 with q | q
  ·exact .inl q
  ·exact .inr ⟨q,PySem.W.cellsFrom_some _ _ _ (.inl q)⟩
 refine codeAny_call_function hr.depth (KX _ _ lk) rfl S.co S.gen rfl (PySem.W.codeRec_of KX hcd) (hb _ _ _ _ ?_);refine wpAny_newFunctionEnv_cells S.kind hkind λenv he s1 x=>?_;subst he;refine ⟨lim.keeps x.toInCall.keep,codeAny_func ?_⟩;obtain ⟨t,ht,hq⟩:=hbody A outer s H vs Q E (hr.deeper _) hsp;have I:Inv (cS CX P w K mg base N qual scope f cdv A outer s H E) [] (start N vs) H s1:=Bt S hr.hd e0 hl r x;refine wpAny_mono (ht [] s1 (start N vs) H _ I hq) (λfl s' hs=>?_) λe s' hs=>hs
 have fin:∀{σ':St} {H':Hp} {v:V} {u:Value},Inv (cS CX P w K mg base N qual scope f cdv A outer s H E) [] σ' H' s'->RelV v u->Q v H'->CE outer P w H s Q u s':=
  λ{σ' H' v u} J rv q=>⟨v,H',J.os,J.bare,J.base,J.hok,rv,q⟩
 cases fl with
 | ret u =>
  obtain ⟨v,σ',H',J,rv,q⟩:=hs;exact fin J rv q
 | next =>
  obtain ⟨σ',H',J,q⟩:=hs;exact fin (v:=V.non) (u:=Value.none) J rfl q
 | brk =>
  obtain ⟨_,_,_,q⟩:=hs;exact False.elim q
 | cont =>
  obtain ⟨_,_,_,q⟩:=hs;exact False.elim q
section
variable {X:Cx} {x:Str} {p pos:Pos} {e:Expr} {es:List Expr} {t:TA} {id T:String} {r:List V->Hp->VK->Prop}
def tCB (r:List V->Hp->VK->Prop) (t:TA):TE:=λσ H Q=>t σ H λvs H1=>r vs H1 Q
theorem aC (hc:fq X (.builtin id) r) (hg:Gl X x) (hm:X.mg x=none) (hv:bootBuiltins x=some (.builtin id)) (ha:PA X (e::es) t) (hn:x≠"__name__":=by decide) (hdb:(x == ("__debug__":Str))=false:=by decide)
  (he:starEach (e::es) X.env=(false,eval e X.env)::starEach es X.env:=by rfl) (hpl:(backTo pos (starEach es X.env)).any (·.1)=false:=by rfl):PE X (.Call (.Name x p) (e::es) [] pos) (tCB r t):=by
 intro pins s σ H Q I h;refine wpAny_Call_Name_kw (nK I hg hm hv ?_ hn hdb);refine PyProof.Rows.callWith_builtin1 (thn (ha pos pins s σ H _ I h) λus s1 zz=>?_) he hpl;obtain ⟨vs,H1,I1,r1,q1⟩:=zz;exact hc pins s1 σ H1 vs us Q I1 r1 q1
theorem cB (hc:fq X (.type T) r) (hg:Gl X x) (hm:X.mg x=none) (hv:bootBuiltins x=some (.type T)) (ha:PA X (e::es) t) (hn:x≠"__name__":=by decide) (hdb:(x == ("__debug__":Str))=false:=by decide)
  (he:starEach (e::es) X.env=(false,eval e X.env)::starEach es X.env:=by rfl) (hpl:(backTo pos (starEach es X.env)).any (·.1)=false:=by rfl):PE X (.Call (.Name x p) (e::es) [] pos) (tCB r t):=by
 intro pins s σ H Q I h;refine wpAny_Call_Name_kw (nK I hg hm hv ?_ hn hdb);refine PyProof.Rows.callWith_type1 (thn (ha pos pins s σ H _ I h) λus s1 zz=>?_) he hpl;obtain ⟨vs,H1,I1,r1,q1⟩:=zz;exact hc pins s1 σ H1 vs us Q I1 r1 q1
end
end L2
namespace HT
open PySem PyProof.Rows
section
open PySem.SeqAt
open PySem.AutoSeq1 (wpAny_loadPart')
open PySem.MeetsSeq PySem.MeetsSeq2 PySem.MeetsSeq3
end
section
variable {prog:Program} {w:World} {A:Around} {E:Value->Shared->Prop} {s:Shared}
theorem cat_tup {t b:Addr} {vs ws:List Value} {Q:Value->Shared->Prop} (ht:IsTup s.heap t vs.toArray) (hb:IsTup s.heap b ws.toArray) (hv:vs≠[])
  (h1:ws=[]->Q (.ref t) s) (h2:ws≠[]->Q (.ref s.heap.objs.size) {s with heap:=s.heap.push {cls:=.type "tuple",data:=.seq (vs++ws).toArray} })
  (hsz:vs.length+ws.length<=sizeLine):wpAny (model prog w) A (binaryOp .Add (.ref t) (.ref b)) Q E s:=by
 obtain ⟨⟨cls,dd,data,sl⟩,ho,hc,n,hd⟩:=id ht;obtain ⟨⟨cls2,dd2,data2,sl2⟩,ho2,hc2,n2,hd2⟩:=id hb;simp only at hc hd hc2 hd2;subst hc hd hc2 hd2;have e:vs.toArray++ws.toArray=(vs++ws).toArray:=by simp
 by_cases hw:ws=[]
 ·exact concat_meets ⟨_,ho,rfl⟩ ⟨_,ho2,rfl⟩ noFill_tuple_add seq_tuple_add PySem.F.slot_tuple_add PySem.F.entry_tuple_add (PySem.F.args_tuple_add_2 _ _)
   (tuple_addW1 t b vs.toArray ws.toArray n n2 dd dd2 sl sl2 (by simpa using hv) (by simp [hw])) ⟨ho,ho2,h1 hw⟩
 ·refine concat_meets ⟨_,ho,rfl⟩ ⟨_,ho2,rfl⟩ noFill_tuple_add seq_tuple_add PySem.F.slot_tuple_add PySem.F.entry_tuple_add (PySem.F.args_tuple_add_2 _ _)
   (tuple_addW2 t b vs.toArray ws.toArray n n2 dd dd2 sl sl2 (by simpa using hv) (by simpa using hw) (by rw [List.size_toArray,List.size_toArray];exact hsz)) ⟨ho,ho2,?_⟩
  rw [e];exact h2 hw
def sIx (n d:Nat):Option Int->Nat
 | none=>d
 | some v=>if v < 0 then (v+(n:Int)).toNat else min v.toNat n
theorem CW (n d:Nat):sIx n d none=d:=rfl
theorem tM (n d k:Nat):sIx n d (some (k:Int))=min k n:=by
 show (if (k:Int) < 0 then ((k:Int)+(n:Int)).toNat else min (k:Int).toNat n)=min k n;rw [if_neg (by omega),Int.toNat_natCast]
theorem sIx_le (n d:Nat) (hd:d<=n) (o:Option Int):sIx n d o<=n:=by
 cases o with
 | none=>exact hd
 | some v =>
  show (if v < 0 then (v+(n:Int)).toNat else min v.toNat n)<=n
  by_cases hv:v < 0
  ·rw [if_pos hv];omega
  ·rw [if_neg hv];exact Nat.min_le_right _ _
theorem Ad (v:Int) (n d:Nat):(if v < 0 then max (v+(n:Int)) 0 else min v (n:Int))=((sIx n d (some v):Nat):Int):=by
 show (if v < 0 then max (v+(n:Int)) 0 else min v (n:Int))=(((if v < 0 then (v+(n:Int)).toNat else min v.toNat n):Nat):Int)
 by_cases hv:v < 0
 ·simp only [if_pos hv];omega
 ·simp only [if_neg hv];omega
theorem yx (lo hi:Option Int) (n:Nat):Builtin.Slice.sliceAdjust lo hi 1 (n:Int)=(((sIx n 0 lo:Nat):Int),((sIx n n hi:Nat):Int)):=by
 have h1:¬ ((1:Int) < 0):=by omega
 unfold Builtin.Slice.sliceAdjust;simp only [h1,if_false];refine Prod.ext ?_ ?_
 ·cases lo with
  | none=>rfl
  | some v=>exact Ad v n 0
 ·cases hi with
  | none=>rfl
  | some v=>exact Ad v n n
theorem xQ (i j:Nat):Builtin.Slice.slicePlaces (i:Int) (j:Int) 1=j - i:=by
 unfold Builtin.Slice.slicePlaces;have h1:(1:Int) > 0:=by omega
 simp only [h1,if_true,Int.ediv_one];split <;> omega
theorem pL {v:Value} {o:Option Int} {Q:Option Int->Shared->Prop} (p:IsPart v o) (h:Q o s):wpAny (model prog w) A (Builtin.Slice.slicePartIndex v) Q E s:=by
 cases p with
 | none=>exact slicePart_none h
 | int i t=>exact slicePart_int h
theorem iF {sl:Addr} {vl vu:Value} {lo hi:Option Int} {n:Nat} {Q:Int×Int×Nat->Shared->Prop} (hs:s.heap.IsSliceOf sl vl vu .none) (pl:IsPart vl lo) (pu:IsPart vu hi)
  (h:Q (((sIx n 0 lo:Nat):Int),1,sIx n n hi - sIx n 0 lo) s):wpAny (model prog w) A (Builtin.Slice.sliceApplied (.ref sl) (pure (n:Int))) Q E s:=by
 obtain ⟨os,hos,hcs,hds⟩:=id hs;unfold Builtin.Slice.sliceApplied Builtin.Slice.sliceFields;refine wpAny_bind (wpAny_bind (wpAny_field hos hds (x:=vl) rfl (wpAny_bind (wpAny_field hos hds (x:=vu) rfl (wpAny_bind (wpAny_field hos hds (x:=.none) rfl (wpAny_pure ?_)))))));refine wpAny_bind (slicePart_none ?_);show wpAny _ _ (if ((1:Int) == 0)=true then _ else _) _ _ s;rw [if_neg (by decide)];refine wpAny_bind (pL pl (wpAny_bind (pL pu (wpAny_bind (wpAny_pure ?_)))));show wpAny _ _ (match Builtin.Slice.sliceAdjust lo hi 1 (n:Int) with | (lo,hi)=>pure (lo,(1:Int),Builtin.Slice.slicePlaces lo hi 1)) _ _ s
 rw [yx lo hi n];show wpAny _ _ (pure (((sIx n 0 lo:Nat):Int),(1:Int),Builtin.Slice.slicePlaces ((sIx n 0 lo:Nat):Int) ((sIx n n hi:Nat):Int) 1)) _ _ s;rw [xQ];exact wpAny_pure h
theorem DB (xs:Array Value) (i k:Nat):((List.range k).filterMap λ(m:Nat)=>xs[((i:Int)+(m:Int)*1).toNat]?).toArray=((xs.toList.drop i).take k).toArray:=by
 have e:(λ(m:Nat)=>xs[((i:Int)+(m:Int)*1).toNat]?)=λm=>xs[i+m]?:=by
  funext m;have:((i:Int)+(m:Int)*1).toNat=i+m:=by omega
  rw [this]
 rw [e];have:=pick_run xs i k;rw [List.filterMap_map] at this;have e2:((λx=>xs[x]?) ∘ λx=>i+x)=λm=>xs[i+m]?:=rfl;rw [e2] at this;rw [this]
theorem mE {t sl:Addr} {items:Array Value} {vl vu:Value} {lo hi:Option Int} {Q:Value->Shared->Prop} (ht:IsTup s.heap t items) (hs:s.heap.IsSliceOf sl vl vu .none) (pl:IsPart vl lo) (pu:IsPart vu hi)
  (hw:¬ (sIx items.size 0 lo=0/\sIx items.size items.size hi=items.size))
  (h:Q (.ref s.heap.objs.size) {s with heap:=s.heap.push {cls:=.type "tuple",data:=.seq ((items.toList.drop (sIx items.size 0 lo)).take (sIx items.size items.size hi - sIx items.size 0 lo)).toArray} })
  (hsz:items.size<=sizeLine):wpAny (model prog w) A (getItem (.ref t) (.ref sl)) Q E s:=by
 have htake:sizeOk (.seq ((items.toList.drop (sIx items.size 0 lo)).take (sIx items.size items.size hi - sIx items.size 0 lo)).toArray):=by
  show ((items.toList.drop (sIx items.size 0 lo)).take (sIx items.size items.size hi - sIx items.size 0 lo)).toArray.size<=sizeLine;rw [List.size_toArray,List.length_take,List.length_drop,Array.length_toList];omega
 have hj:sIx items.size items.size hi<=items.size:=sIx_le _ _ (Nat.le_refl _) hi;obtain ⟨os,hos,hcs,hds⟩:=id hs;have hTs:s.TypeIs (.ref sl) "slice":=⟨os,hos,hcs⟩;unfold getItem
 try with_reducible refine wpAny_holding ?_
 first | refine wpAny_bind (wpAny_pure ?_) | skip
 refine wpAny_bind (wpAny_sequenceKey ht.typeIs (by decide) ?_)
 refine wpAny_bind (wpAny_callSpecial?_slot (name:=Str.ofString "__getitem__") ht.typeIs PyProof.Rows.slot_tuple_getitem
  (wpAny_call_entry PyProof.Rows.slot_tuple_getitem ht.typeIs entry_tuple_getitem ?_ (args_tuple_getitem _ _)))
 show wpAny _ _ (Builtin.Tuple.tupleItemsOf (.ref t) >>= _) _ _ s;refine wpAny_bind (tupleItemsOf_ ht ?_);refine wpAny_bind (wpAny_typeOf hTs ?_);rw [if_pos (by decide)];refine wpAny_bind (iF hs pl pu ?_)
 have hno:¬ ((((sIx items.size 0 lo:Nat):Int) == 0 && (1:Int) == 1 && (sIx items.size items.size hi - sIx items.size 0 lo) == items.size)=true):=by
  intro q;rw [Bool.and_eq_true,Bool.and_eq_true] at q;have q1:((sIx items.size 0 lo:Nat):Int)=0:=eq_of_beq q.1.1;have q2:sIx items.size items.size hi - sIx items.size 0 lo=items.size:=eq_of_beq q.2;exact hw ⟨by omega,by omega⟩
 show wpAny _ _ (if (((sIx items.size 0 lo:Nat):Int) == 0 && (1:Int) == 1 && (sIx items.size items.size hi - sIx items.size 0 lo) == items.size)=true then _ else _) _ _ s;rw [if_neg hno,DB]
 first
  | exact wpAny_bind (m:=Builtin.Tuple.tupleExact _) (wpAny_newObj_type (wpAny_pure ⟨_,rfl,wpAny_pure h⟩) htake)
  | exact wpAny_bind (m:=Builtin.Tuple.tupleExact _) (wpAny_newObj_type (wpAny_bind (wpAny_pure (wpAny_pure ⟨_,rfl,wpAny_pure h⟩))) htake)
  | exact wpAny_bind (wpAny_bind (m:=Builtin.Tuple.tupleExact _) (wpAny_newObj_type (wpAny_pure (wpAny_pure ⟨_,rfl,wpAny_pure h⟩)) htake))
  | exact wpAny_bind (wpAny_bind (m:=Builtin.Tuple.tupleExact _) (wpAny_newObj_type (wpAny_pure ⟨_,rfl,wpAny_pure h⟩) htake))
end
end HT
namespace L2
open PySem PySem.Spec PyProof.Rows
abbrev TO:=St->Hp->(Option Int->Hp->Prop)->Prop
def PO (X:Cx) (e:Option Expr) (t:TO):Prop:=
 ∀(
  pins:List (Addr×Obj)) (s:Shared) (σ:St) (H:Hp) (Q:Option Int->Hp->Prop),Inv X pins σ H s->t σ H Q->
  wpAny (model X.prog X.w) X.A (evalPart e X.env) (λu s'=>∃ o H',Inv X pins σ H' s'/\IsPart u o/\Q o H') X.xe s
def lM:TO:=λ_ H Q=>Q none H
def tPart (t:TE):TO:=λσ H Q=>t σ H λx H1=>∃ i,x=.int i/\Q (some i) H1
theorem intsAre_of {ns:List Int}:∀{us:List Value},Vals (ns.map V.int) us->IntsAre us ns:=by
 induction ns with
 | nil=>intro us r;rw [List.map_nil] at r;cases r;exact .nil
 | cons n ns ih =>
  intro us r;rw [List.map_cons] at r;cases r with
  | cons r1 r2 =>
   obtain ⟨t,e⟩:=r1;subst e;exact .cons n t (ih r2)
section
variable {X:Cx} {e:Expr} {te:TE} {lo hi:Option Expr} {tl th:TO} {pos p2:Pos}
theorem mj:PO X none lM:=by
 intro pins s σ H Q I h;rw [evalPart_none];exact wpAny_pure ⟨none,H,I,.none,h⟩
theorem mh (h:PE X e te):PO X (some e) (tPart te):=by
 intro pins s σ H Q I hw;rw [evalPart_some];refine thn (h pins s σ H _ I hw) λu s1 zz=>?_;obtain ⟨x,H1,I1,r1,q1⟩:=zz;obtain ⟨i,rfl,q⟩:=q1;obtain ⟨t,rfl⟩:=r1;exact ⟨some i,H1,I1,.int i t,q⟩
def SlR (X:Cx) (r:V->Option Int->Option Int->Hp->VK->Prop):Prop:=
 ∀(
  pins:List (Addr×Obj)) (s:Shared) (σ:St) (H:Hp) (x:V) (v vl vu:Value) (lo hi:Option Int) (sl:Addr) (Q:VK),Inv X pins σ H s->RelV x v->s.heap.IsSliceOf sl vl vu .none->IsPart vl lo->IsPart vu hi->r x lo hi H Q->
  ∃ T id,typeLookup (.type T) "__getitem__"=pure (some (.builtin id))/\s.TypeIs v T/\wpAny (model X.prog X.w) X.A (getItem v (.ref sl)) (EP X pins σ Q) X.xe s
def tSl (r:V->Option Int->Option Int->Hp->VK->Prop) (te:TE) (tl th:TO):TE:=λσ H Q=>te σ H λx H1=>tl σ H1 λl H2=>th σ H2 λu H3=>r x l u H3 Q
theorem jF {r:V->Option Int->Option Int->Hp->VK->Prop} (hr:SlR X r) (he:PE X e te) (hl:PO X lo tl) (hu:PO X hi th):PE X (.Subscript e (.Slice lo hi none p2) pos) (tSl r te tl th):=by
 intro pins s σ H Q I h;refine Subscript_ (thn (he pins s σ H _ I h) λv s1 zz=>?_);obtain ⟨x,H1,I1,r1,q1⟩:=zz;refine wpAny_Slice (thn (hl pins s1 σ H1 _ I1 q1) λvl s2 zz=>?_);obtain ⟨l,H2,I2,pl,q2⟩:=zz;refine thn (hu pins s2 σ H2 _ I2 q2) λvu s3 zz=>?_;obtain ⟨u,H3,I3,pu,q3⟩:=zz;rw [evalPart_none];refine wpAny_pure ?_;have I4:Inv X pins σ H3 {s3 with heap:=s3.heap.push {cls:=.type "slice",data:=.fields #[vl,vu,.none] } }:=I3.kept (t':=s3.toks) λb ob q=>Heap.get?_push_of_some _ q
 obtain ⟨T,id,hT,ht,hg⟩:=hr pins {s3 with heap:=s3.heap.push {cls:=.type "slice",data:=.fields #[vl,vu,.none] } } σ H3 x v vl vu l u s3.heap.objs.size Q I4 r1 (Heap.IsSliceOf.new ..) pl pu q3
 show wpAny (model X.prog X.w) X.A (subscriptTail e (.Slice lo hi none p2) v (.ref s3.heap.objs.size)) (EP X pins σ Q) X.xe {s3 with heap:=s3.heap.push {cls:=.type "slice",data:=.fields #[vl,vu,.none] } }
 exact tail_any (ops:=[.ref s3.heap.objs.size,v]) ht hT hg (by with_unfolding_all rfl)
def qP (xs:List V) (lo hi:Option Int):List V:=(xs.drop (HT.sIx xs.length 0 lo)).take (HT.sIx xs.length xs.length hi - HT.sIx xs.length 0 lo)
theorem oA (xs:List V) (lo hi:Option Int):(qP xs lo hi).length<=xs.length:=by
 unfold qP;rw [List.length_take,List.length_drop];omega
def rSlT (K:W.Frag):V->Option Int->Option Int->Hp->VK->Prop:=λx lo hi H Q=>∃ a xs,x=.ref a/\SqT K H a xs/\
 ¬ (HT.sIx xs.length 0 lo=0/\HT.sIx xs.length xs.length hi=xs.length)/\∀ p,H p=none->Q (.ref p) (upd H p (.tup (qP xs lo hi)))
theorem sl_tup:SlR X (rSlT X.K):=by
 intro pins s σ H x v vl vu lo hi sl Q I rx hs pl pu h;obtain ⟨a,xs,rfl,hx,hw,q⟩:=h;cases rx
 obtain ⟨its,r,ht,hz⟩:=I.tuple hx;have hlen:its.toArray.size=xs.length:=by rw [List.size_toArray];exact r.length.symm
 refine ⟨"tuple",_,PyProof.Rows.slot_tuple_getitem.lookup,ht.typeIs,?_⟩;refine HT.mE ht hs pl pu (by rw [hlen];exact hw) ?_ (by rw [hlen];exact hz);rw [hlen];refine ⟨.ref s.heap.objs.size,_,I.laid (t':=s.toks) (o:=.tup (qP xs lo hi)) (λb ob q=>Heap.get?_push_of_some _ q) (Nat.le_refl _) ?_,rfl,q _ (I.hok.fresh (Nat.le_refl _))⟩;exact ⟨Nat.le_trans (oA xs lo hi) hz,_,(r.drop (HT.sIx xs.length 0 lo)).take (HT.sIx xs.length xs.length hi - HT.sIx xs.length 0 lo),IsTup.new _ _⟩
def rCatT (K:W.Frag):R2:=λx y H Q=>∃ a b xs ys,x=.ref a/\y=.ref b/\SqT K H a xs/\SqT K H b ys/\xs≠[]/\xs.length+ys.length<=sizeLine/\
 (ys=[]->Q (.ref a) H)/\(ys≠[]->∀ p,H p=none->Q (.ref p) (upd H p (.tup (xs++ys))))
theorem Vals.nil_iff {xs:List V} {us:List Value} (r:Vals xs us):us=[]↔xs=[]:=by
 cases r with
 | nil=>simp
 | cons _ _=>simp
theorem zE:OpR X (binaryOp .Add) (rCatT X.K):=by
 intro pins s σ H x y v u Q I rx ry h;obtain ⟨a,b,xs,ys,rfl,rfl,ha,hb,hx,hz,q1,q2⟩:=h;cases rx
 cases ry
 obtain ⟨its,r1,p1,_⟩:=I.tuple ha;obtain ⟨its2,r2,p2,_⟩:=I.tuple hb;refine HT.cat_tup p1 p2 (λz=>hx (r1.nil_iff.mp z)) (λz=>⟨.ref a,H,I,rfl,q1 (r2.nil_iff.mp z)⟩) (λz=>?_) (by rw [<- r1.length,<- r2.length];exact hz);refine ⟨.ref s.heap.objs.size,_,I.laid (t':=s.toks) (o:=.tup (xs++ys)) (λb ob q=>Heap.get?_push_of_some _ q) (Nat.le_refl _) ?_,rfl,q2 (λw=>z (r2.nil_iff.mpr w)) _ (I.hok.fresh (Nat.le_refl _))⟩;exact ⟨by rw [List.length_append];exact hz,_,r1.append r2,IsTup.new _ _⟩
end
def ixN (n:Nat) (i:Int):Option Nat:=if 0<=i then (if i < n then some i.toNat else none) else if -(n:Int)<=i then some (i+n).toNat else none
def atI {α:Type} (xs:List α) (i:Int):Option α:=(ixN xs.length i).bind λj=>xs[j]?
theorem ixN_seq {n:Nat} {i:Int} {j:Nat} (h:ixN n i=some j):seqIndex? i n=some j/\j < n/\-(n:Int)<=i/\i < n:=by
 unfold ixN at h
 by_cases h0:0<=i
 ·rw [if_pos h0] at h
  by_cases h1:i < n
  ·rw [if_pos h1] at h;have e:i.toNat=j:=Option.some.inj h;exact ⟨by rw [seqIndex_of h0 h1,e],by omega,by omega,h1⟩
  ·rw [if_neg h1] at h;cases h
 ·rw [if_neg h0] at h
  by_cases h1:-(n:Int)<=i
  ·rw [if_pos h1] at h;have e:(i+n).toNat=j:=Option.some.inj h;exact ⟨by rw [seqIndex_neg (by omega) h1,e],by omega,h1,by omega⟩
  ·rw [if_neg h1] at h;cases h
theorem Ag {α:Type} {xs:List α} {i:Int} {v:α} (h:atI xs i=some v):∃ j,seqIndex? i xs.length=some j/\xs[j]?=some v/\j < xs.length/\-(xs.length:Int)<=i/\i < xs.length:=by
 unfold atI at h;cases e:ixN xs.length i with
 | none=>rw [e] at h;cases h
 | some j =>
  rw [e] at h;obtain ⟨h1,h2,h3,h4⟩:=ixN_seq e;exact ⟨j,h1,h,h2,h3,h4⟩
theorem cg {α:Type} {xs:List α} {j:Nat} {v:α} (h:xs[j]?=some v):atI xs (j:Int)=some v:=by
 have hj:j < xs.length:=(List.getElem?_eq_some_iff.mp h).1
 have e:ixN xs.length (j:Int)=some j:=by
  unfold ixN;rw [if_pos (by omega),if_pos (by omega)];simp
 unfold atI;rw [e];exact h
def Ah (b:Expr):Prop:=∀ o i,subscripted b false o i=operate [o,i] (getItem o i)
def IxR (X:Cx) (r:R2):Prop:=
 ∀(
  value slice:Expr) (pins:List (Addr×Obj)) (s:Shared) (σ:St) (H:Hp) (x y:V) (v u:Value) (Q:VK),Inv X pins σ H s->RelV x v->RelV y u->r x y H Q->
  subscripted slice false v u=operate [v,u] (getItem v u)->wpAny (model X.prog X.w) X.A (subscriptTail value slice v u) (EP X pins σ Q) X.xe s
def MtR (X:Cx) (id:String) (r:V->List V->Hp->VK->Prop):Prop:=
 ∀(
  pins:List (Addr×Obj)) (s:Shared) (σ:St) (H:Hp) (x:V) (xs:List V) (v:Value) (us:List Value) (Q:VK),Inv X pins σ H s->RelV x v->Vals xs us->r x xs H Q->
  wpAny (model X.prog X.w) X.A (call (.builtin id) (v::us)) (EP X pins σ Q) X.xe s
section
variable {X:Cx} {a b:Expr} {ta tb:TE} {pos:Pos}
theorem aG {r:R2} (hr:IxR X r) (ha:PE X a ta) (hb:PE X b tb) (hs:Ah b):PE X (.Subscript a b pos) (tOp r ta tb):=by
 intro pins s σ H Q I h;exact Subscript_ (binT ha hb I h λv u s2 x y H2 I2 rx ry q=>hr a b pins s2 σ H2 x y v u Q I2 rx ry q (hs _ _))
inductive XrIxL (K:W.Frag) (x:V) (y:V) (H:Hp) (Q:VK):Prop where
 | mk (p:Addr) (xs:List V) (i:Int) (v:V) (z_0:x=.ref p) (z_1:y=.int i) (z_2:SqL K H p xs) (z_3:atI xs i=some v) (z_4:Q v H):XrIxL K x y H Q
def rIxL (K:W.Frag):R2:=λx y H Q=>XrIxL K x y H Q
inductive XrIxT (K:W.Frag) (x:V) (y:V) (H:Hp) (Q:VK):Prop where
 | mk (p:Addr) (xs:List V) (i:Int) (v:V) (z_0:x=.ref p) (z_1:y=.int i) (z_2:SqT K H p xs) (z_3:atI xs i=some v) (z_4:Q v H):XrIxT K x y H Q
def rIxT (K:W.Frag):R2:=λx y H Q=>XrIxT K x y H Q
theorem bG:IxR X (rIxL X.K):=by
 intro value slice pins s σ H x y v u Q I rx ry h hs;obtain ⟨p,xs,i,z,rfl,rfl,hq,he,q⟩:=h;cases rx
 obtain ⟨t,rfl⟩:=ry;obtain ⟨its,r,pl,hz⟩:=I.list hq;obtain ⟨j,h1,h2,h3,h4,h5⟩:=Ag he;obtain ⟨w,ew,rw'⟩:=r.get h2;have hl:=r.length;have hn:=uk;have fin:EP X pins σ Q w s:=⟨z,H,I,rw',q⟩
 by_cases h0:0<=i
 ·have hj:i.toNat=j:=by
   rw [seqIndex_of h0 h5] at h1;exact Option.some.inj h1
  exact item_listR pl.isList h0 (by omega) (by rw [hj];simpa using ew) fin hs
 ·have hj:(i+(its.toArray.size:Int)).toNat=j:=by
   rw [seqIndex_neg (by omega) h4] at h1;rw [List.size_toArray,<- hl];exact Option.some.inj h1
  exact subscriptTail_builtinR (x:=w) pl.isList.typeIs slot_list_getitem.lookup
   (wpAny_getItem_list_neg (Q:=λr s'=>r=w/\EP X pins σ Q r s') pl.isList (by omega) (by rw [List.size_toArray] <;> omega) (by omega) (by rw [hj];simpa using ew) ⟨rfl,fin⟩) hs
theorem aB:IxR X (rIxT X.K):=by
 intro value slice pins s σ H x y v u Q I rx ry h hs;obtain ⟨p,xs,i,z,rfl,rfl,hq,he,q⟩:=h;cases rx
 obtain ⟨t,rfl⟩:=ry;obtain ⟨its,r,pl,hz⟩:=I.tuple hq;obtain ⟨j,h1,h2,h3,h4,h5⟩:=Ag he;obtain ⟨w,ew,rw'⟩:=r.get h2;have hl:=r.length;have hn:=uk;have fin:EP X pins σ Q w s:=⟨z,H,I,rw',q⟩
 exact subscriptTail_builtinR (x:=w) pl.typeIs slot_tuple_getitem.lookup
  (getItem_tuple (j:=j) (Q:=λr s'=>r=w/\EP X pins σ Q r s') pl (by omega) (by omega) (by rw [List.size_toArray,<- hl];exact h1) (by simpa using ew) ⟨rfl,fin⟩) hs
theorem tD (lo hi:Option Int) (n:Nat):(sliceBounds lo hi none n).1=((HT.sIx n 0 lo:Nat):Int)/\(sliceBounds lo hi none n).2.1=((HT.sIx n n hi:Nat):Int)/\(sliceBounds lo hi none n).2.2=1:=by
 refine ⟨?_,?_,rfl⟩
 ·cases lo with
  | none=>simp [sliceBounds,HT.sIx]
  | some i =>
   simp only [sliceBounds,HT.sIx,Option.getD_none,show (1:Int) > 0 by decide,if_true]
   by_cases h:i < 0
   ·simp only [h,if_true] <;> omega
   ·simp only [h,if_false] <;> omega
 ·cases hi with
  | none=>simp [sliceBounds,HT.sIx]
  | some i =>
   simp only [sliceBounds,HT.sIx,Option.getD_none,show (1:Int) > 0 by decide,if_true]
   by_cases h:i < 0
   ·simp only [h,if_true] <;> omega
   ·simp only [h,if_false] <;> omega
theorem rf (its:List Value) (lo hi:Option Int):slicePick its.toArray lo hi none=((its.drop (HT.sIx its.length 0 lo)).take (HT.sIx its.length its.length hi - HT.sIx its.length 0 lo)).toArray:=by
 obtain ⟨h1,h2,h3⟩:=tD lo hi its.toArray.size;unfold slicePick;rw [h1,h2,h3];simp only [sliceRange_one,pick_run,List.size_toArray] <;> rfl
def rSlL (K:W.Frag):V->Option Int->Option Int->Hp->VK->Prop:=λx lo hi H Q=>∃ a xs,x=.ref a/\SqL K H a xs/\∀ p,H p=none->Q (.ref p) (upd H p (.lst (qP xs lo hi)))
theorem sl_list:SlR X (rSlL X.K):=by
 intro pins s σ H x v vl vu lo hi sl Q I rx hs pl pu h;obtain ⟨a,xs,rfl,hx,q⟩:=h;cases rx
 obtain ⟨its,r,ht,hz⟩:=I.list hx;have hlen:=r.length;refine ⟨"list",_,slot_list_getitem.lookup,ht.isList.typeIs,?_⟩;refine wpAny_getItem_list_slice ht.isList hs pl pu .none (by simp) ?_ (by rw [List.size_toArray] <;> omega);rw [rf,<- hlen];refine ⟨.ref s.heap.objs.size,_,I.laid (t':=s.toks) (o:=.lst (qP xs lo hi)) (λb ob q=>Heap.get?_push_of_some _ q) (Nat.le_refl _) ?_,rfl,q _ (I.hok.fresh (Nat.le_refl _))⟩;exact ⟨Nat.le_trans (oA xs lo hi) hz,_,0,(r.drop (HT.sIx xs.length 0 lo)).take (HT.sIx xs.length xs.length hi - HT.sIx xs.length 0 lo),Heap.get?_push_size _ rfl⟩
def oz:V->Bool
 | .non=>true
 | .bl _=>true
 | .int _=>true
 | .str _=>true
 | _=>false
def eqV:V->V->Bool
 | .non,.non=>true
 | .bl a,.bl b=>a == b
 | .bl a,.int b=>(if a then 1 else 0) == b
 | .int a,.bl b=>a == (if b then 1 else 0)
 | .int a,.int b=>a == b
 | .str a,.str b=>a == b
 | _,_=>false
theorem eqAt_V {A:Around} {s:Shared} {y x:V} {u v:Value} (ry:RelV y u) (rx:RelV x v) (fy:oz y=true) (fx:oz x=true):SeqAt.EqAt A s u v (eqV y x):=by
 cases y with
 | non =>
  cases ry
  cases x with
  | non=>cases rx;exact SeqAt.EqAt.same _
  | bl b=>cases rx;exact SeqAt.EqAt.none_bool b
  | int b=>obtain ⟨t,rfl⟩:=rx;exact SeqAt.EqAt.none_int b t
  | str b=>obtain ⟨t,rfl⟩:=rx;exact SeqAt.EqAt.none_str b t
  | _=>exact absurd (show false=true from fx) Bool.false_ne_true
 | bl a =>
  cases ry
  cases x with
  | non=>cases rx;exact SeqAt.EqAt.bool_none a
  | bl b=>cases rx;exact SeqAt.EqAt.bool_bool a b
  | int b=>obtain ⟨t,rfl⟩:=rx;exact SeqAt.EqAt.bool_int a b t
  | str b=>obtain ⟨t,rfl⟩:=rx;exact SeqAt.EqAt.bool_str a b t
  | _=>exact absurd (show false=true from fx) Bool.false_ne_true
 | int a =>
  obtain ⟨t',rfl⟩:=ry;cases x with
  | non=>cases rx;exact SeqAt.EqAt.int_none a t'
  | bl b=>cases rx;exact SeqAt.EqAt.int_bool a t' b
  | int b=>obtain ⟨t,rfl⟩:=rx;exact SeqAt.EqAt.int_int a t' b t
  | str b=>obtain ⟨t,rfl⟩:=rx;exact SeqAt.EqAt.int_str a t' b t
  | _=>exact absurd (show false=true from fx) Bool.false_ne_true
 | str a =>
  obtain ⟨t',rfl⟩:=ry;cases x with
  | non=>cases rx;exact SeqAt.EqAt.str_none a t'
  | bl b=>cases rx;exact SeqAt.EqAt.str_bool a t' b
  | int b=>obtain ⟨t,rfl⟩:=rx;exact SeqAt.EqAt.str_int a t' b t
  | str b=>obtain ⟨t,rfl⟩:=rx;exact SeqAt.EqAt.str_str a t' b t
  | _=>exact absurd (show false=true from fx) Bool.false_ne_true
 | _=>exact absurd (show false=true from fy) Bool.false_ne_true
def eqU (x:V) (u:Value):Bool:=match u with
 | .none=>eqV .non x
 | .bool b=>eqV (.bl b) x
 | .int i _=>eqV (.int i) x
 | .str z _=>eqV (.str z) x
 | _=>false
theorem EJ {x y:V} {u:Value} (r:RelV y u) (f:oz y=true):eqU x u=eqV y x:=by
 cases y with
 | non=>cases r;rfl
 | bl b=>cases r;rfl
 | int i=>obtain ⟨t,rfl⟩:=r;rfl
 | str z=>obtain ⟨t,rfl⟩:=r;rfl
 | _=>exact absurd (show false=true from f) Bool.false_ne_true
theorem uI {x:V}:∀{xs:List V} {us:List Value},Vals xs us->xs.all oz=true->us.any (eqU x)=xs.any λy=>eqV y x
 | _,_,.nil,_=>rfl
 | y::xs,u::us,.cons r t,f=>by
  rw [List.all_cons,Bool.and_eq_true] at f;rw [List.any_cons,List.any_cons,EJ r f.1,uI t f.2]
theorem qz {A:Around} {s:Shared} {x:V} {v:Value} (rx:RelV x v) (fx:oz x=true):∀{xs:List V} {us:List Value},Vals xs us->xs.all oz=true->∀ u∈us,SeqAt.EqAt A s u v (eqU x u)
 | _,_,.nil,_=>λu hu=>by cases hu
 | y::xs,u::us,.cons r t,f=>λu' hu=>by
  rw [List.all_cons,Bool.and_eq_true] at f;rcases List.mem_cons.mp hu with rfl | hu
  ·rw [EJ r f.1];exact eqAt_V r rx f.1 fx
  ·exact qz rx fx t f.2 u' hu
def inV (x:V) (xs:List V):Bool:=xs.any λy=>eqV y x
def rIn (K:W.Frag) (neg:Bool):R2:=λx y H Q=>∃ p xs,y=.ref p/\(SqL K H p xs\/SqT K H p xs)/\oz x=true/\xs.all oz=true/\Q (.bl (if neg then !inV x xs else inV x xs)) H
theorem kr:OpR X (compareOp .In) (rIn X.K false):=by
 intro pins s σ H x y v u Q I rx ry h;obtain ⟨p,xs,rfl,hq,fx,fs,q⟩:=h;cases ry
 rcases hq with hq | hq
 ·obtain ⟨its,r,pl,hz⟩:=I.list hq;refine SeqAt.in_listAt (eqU x) pl.isList (λw hw=>qz rx fx r fs w (by simpa using hw)) ⟨.bl _,H,I,rfl,?_⟩;rw [show its.toArray.any (eqU x)=its.any (eqU x) by simp,uI r fs];exact q
 ·obtain ⟨its,r,pl,hz⟩:=I.tuple hq;refine SeqAt.in_tupleAt (eqU x) pl (λw hw=>qz rx fx r fs w (by simpa using hw)) ⟨.bl _,H,I,rfl,?_⟩;rw [show its.toArray.any (eqU x)=its.any (eqU x) by simp,uI r fs];exact q
theorem cH:fq X (.type "tuple") (λxs H Q=>∃ p ys,xs=[.ref p]/\((SqL X.K H p ys/\∀ l,H l=none->Q (.ref l) (upd H l (.tup ys)))\/(SqT X.K H p ys/\Q (.ref p) H))):=by
 intro pins s σ H xs us Q I r h;obtain ⟨p,ys,rfl,h⟩:=h;obtain ⟨u,rfl,rx⟩:=vals1 r;cases rx
 rcases h with ⟨hq,q⟩ | ⟨hq,q⟩
 ·obtain ⟨its,r',pl,hz⟩:=I.list hq;have hlen:=r'.length;refine call_tuple_list pl.isList (λh' kp=>?_) (by simp only [List.size_toArray] <;> omega);have I1:Inv X pins σ H {s with heap:=h' }:=I.kept (t':=s.toks) kp
  have I2:Inv X pins σ (upd H h'.objs.size (.tup ys)) {s with heap:=h'.push {cls:=.type "tuple",data:=.seq its.toArray} }:=
   I1.laid (t':=s.toks) (λb o e=>Heap.get?_push_of_some _ e) (Nat.le_refl _) (show cq X.prog X.w _ _ _ (.tup ys) from ⟨hz,its,r',IsTup.new _ _⟩)
  exact ⟨.ref h'.objs.size,_,I2,rfl,q _ (I1.hok.fresh (Nat.le_refl _))⟩
 ·obtain ⟨its,r',pl,hz⟩:=I.tuple hq;exact call_tuple_same pl ⟨.ref p,H,I,rfl,q⟩
def tyV (K:W.Frag) (T:String) (x:V) (H:Hp):Prop:=match x with
 | .str _=>T="str"
 | .int _=>T="int"
 | .ref p=>(T="list"/\∃ xs,SqL K H p xs)\/(T="tuple"/\∃ o,K.lookup p=some o/\o.cls=.type "tuple"/\o.dict=none)\/
   (T="dict"/\((∃ kvs,H p=some (.dK kvs))\/∃ kvs,H p=some (.dT kvs)))\/(T="set"/\∃ S n,H p=some (.set S n))
 | _=>False
theorem Cd {pins:List (Addr×Obj)} {σ:St} {H:Hp} {s:Shared} {T:String} {x:V} {v:Value} (I:Inv X pins σ H s) (r:RelV x v) (ty:tyV X.K T x H) :
  s.TypeIs v T/\∀ a,v=.ref a->∃ ob,s.heap.get? a=some ob/\ob.dict=none:=by
 cases x with
 | str z =>
  obtain ⟨t,rfl⟩:=r;cases (show T="str" from ty)
  exact ⟨typeIs_str s z t,λ_ e=>nomatch e⟩
 | int i =>
  obtain ⟨t,rfl⟩:=r;cases (show T="int" from ty)
  exact ⟨typeIs_int s i t,λ_ e=>nomatch e⟩
 | ref p =>
  cases r
  rcases ty with ⟨rfl,xs,hq⟩ | ⟨rfl,o,hk,hc,hd⟩ | ⟨rfl,hk⟩ | ⟨rfl,S,n,hk⟩
  ·obtain ⟨its,_,pl,_⟩:=I.list hq;refine ⟨pl.isList.typeIs,λa e=>?_⟩;cases e
   obtain ⟨o,n,e,c,hd,_⟩:=pl;exact ⟨o,e,hd⟩
  ·refine ⟨⟨o,I.kIn p o hk,hc⟩,λa e=>?_⟩;cases e
   exact ⟨o,I.kIn _ o hk,hd⟩
  ·have z:∃ o,s.heap.get? p=some o/\o.ExactDict:=by
    rcases hk with ⟨kvs,hk⟩ | ⟨kvs,hk⟩
    ·obtain ⟨_,_,_,_,o,_,_,e,ex,_⟩:=I.hok p _ hk;exact ⟨o,e,ex⟩
    ·obtain ⟨_,_,_,_,o,_,_,e,ex,_⟩:=I.hok p _ hk;exact ⟨o,e,ex⟩
   obtain ⟨o,e,ex⟩:=z;refine ⟨⟨o,e,ex.1⟩,λa e2=>?_⟩;cases e2
   exact ⟨o,e,ex.2.1⟩
  ·obtain ⟨o,_,_,_,e,ex,_⟩:=I.hok p _ hk;refine ⟨⟨o,e,ex.1⟩,λa e2=>?_⟩;cases e2
   exact ⟨o,e,ex.2.1⟩
 | _=>exact False.elim ty
def tBM0 (K:W.Frag) (T:String) (r:V->List V->Hp->VK->Prop) (to:TE):TE:=λσ H Q=>to σ H λx H1=>tyV K T x H1/\r x [] H1 Q
def tBM (K:W.Frag) (T:String) (r:V->List V->Hp->VK->Prop) (to:TE) (t:TA):TE:=λσ H Q=>to σ H λx H1=>tyV K T x H1/\t σ H1 λxs H2=>r x xs H2 Q
variable {o e:Expr} {es:List Expr} {to:TE} {t:TA} {name:Str} {apos cpos:Pos} {T id:String} {r:V->List V->Hp->VK->Prop}
theorem gY (pa:PlainAttrs T) (slot:Slot T name id) (hty:typeOf (.builtin id)=pure (.type "method_descriptor")) (hm:MtR X id r) (ho:PE X o to)
  (hbase:attributeBase o name X.env (eval o X.env)=eval o X.env:=by rfl) (hline:(apos.endLine == cpos.line)=true:=by rfl):PE X (.Call (.Attribute o name apos) [] [] cpos) (tBM0 X.K T r to):=by
 intro pins s σ H Q I h;refine wpAny_Call_method0_late hbase hline (thn (ho pins s σ H _ I h) λv s1 zz=>?_);obtain ⟨x,H1,I1,r1,ty,q1⟩:=zz;obtain ⟨h1,h2⟩:=Cd I1 r1 ty;exact ⟨T,id,pa,slot,hty,h1,h2,Calls.callWith_builtin rfl (PySem.evalArgs_none (hm pins s1 σ H1 x [] v [] Q I1 r1 .nil q1))⟩
theorem cI (pa:PlainAttrs T) (slot:Slot T name id) (hty:typeOf (.builtin id)=pure (.type "method_descriptor")) (hm:MtR X id r) (ho:PE X o to) (ha:PA X (e::es) t)
  (hbase:attributeBase o name X.env (eval o X.env)=eval o X.env:=by rfl)
  (hfew:((backTo cpos (starEach (e::es) X.env)).all (λx=>!x.1) && (backToKw cpos (keywordEach [] X.env)).all (λx=>x.1.isSome)
   && decide ((e::es).length+([]:List Keyword).length+(if ([]:List Keyword).isEmpty then 0 else 1) < 30))=true:=by rfl)
  (hline:(apos.endLine == cpos.line)=true:=by rfl) (hs:starEach (e::es) X.env=(false,eval e X.env)::starEach es X.env:=by rfl) (hplain:(backTo cpos (starEach es X.env)).any (·.1)=false:=by rfl) :
  PE X (.Call (.Attribute o name apos) (e::es) [] cpos) (tBM X.K T r to t):=by
 intro pins s σ H Q I h;refine wpAny_Call_method_late hbase hfew hline rfl (thn (ho pins s σ H _ I h) λv s1 zz=>?_);obtain ⟨x,H1,I1,r1,ty,q1⟩:=zz;obtain ⟨h1,h2⟩:=Cd I1 r1 ty;refine ⟨T,id,pa,slot,hty,h1,h2,?_⟩;have hA:=ha cpos pins s1 σ H1 _ I1 q1;rw [hs] at hA ⊢;refine Calls.callWith_builtin (by show (false || (backTo cpos (starEach es X.env)).any (·.1))=false;rw [hplain] <;> rfl) (Calls.evalArgs_plain ?_);refine thn hA λus s2 zz=>?_;obtain ⟨vs,H2,I2,r2,q2⟩:=zz;exact hm pins s2 σ H2 x vs v us Q I2 r1 r2 q2
end
def MtM (X:Cx) (id:String) (r:V->List V->Hp->VK->Prop):Prop:=
 ∀(
  pins:List (Addr×Obj)) (s:Shared) (σ:St) (H:Hp) (x:V) (xs:List V) (v:Value) (us:List Value) (Q:VK),Inv X pins σ H s->RelV x v->Vals xs us->r x xs H Q->
  wpAny (model X.prog X.w) X.A (call (.builtin id) (v::us)) (EP X pins σ Q) X.xe s
theorem Vals.one:∀{x:V} {us:List Value},Vals [x] us->∃ u,us=[u]/\RelV x u
 | _,_,.cons r .nil=>⟨_,rfl,r⟩
theorem Vals.zero:∀{us:List Value},Vals [] us->us=[]
 | _,.nil=>rfl
theorem Vals.dropLast {xs:List V} {us:List Value} (h:Vals xs us):Vals xs.dropLast us.dropLast:=by
 induction h with
 | nil=>exact .nil
 | cons r t ih =>
  cases t with
  | nil=>exact .nil
  | cons q t'=>exact .cons r ih
theorem Vals.eraseIdx:∀{xs:List V} {us:List Value} (i:Nat),Vals xs us->Vals (xs.eraseIdx i) (us.eraseIdx i)
 | _,_,_,.nil=>.nil
 | _,_,0,.cons _ t=>t
 | _,_,i+1,.cons r t=>.cons r (Vals.eraseIdx i t)
theorem Vals.reverse {xs:List V} {us:List Value} (h:Vals xs us):Vals xs.reverse us.reverse:=by
 induction h with
 | nil=>exact .nil
 | cons r t ih=>rw [List.reverse_cons,List.reverse_cons];exact Vals.append ih (.cons r .nil)
theorem yp {α:Type} (l:List α):l.eraseIdx (l.length - 1)=l.dropLast:=by
 induction l with
 | nil=>rfl
 | cons a r ih =>
  cases r with
  | nil=>rfl
  | cons b r =>
   have e:(a::b::r).length - 1=((b::r).length - 1)+1:=by
    have h1:(a::b::r).length=r.length+2:=rfl;have h2:(b::r).length=r.length+1:=rfl;omega
   rw [e,List.eraseIdx_cons_succ,ih]
   all_goals rfl
theorem sj {α:Type}:∀(l:List α) (i:Nat),(l.eraseIdx i).length<=l.length
 | [],_=>Nat.le_refl _
 | _::_,0=>Nat.le_succ _
 | _::r,i+1=>Nat.succ_le_succ (sj r i)
section
variable {X:Cx} {pins:List (Addr×Obj)} {σ:St} {H:Hp} {s:Shared} {l b:Addr} {xs ys zs:List V}
theorem Inv.lset {its its':List Value} {n:Nat} {f:Array Value->Array Value} {t':Nat} (I:Inv X pins σ H s) (hH:H l=some (.lst xs))
  (e:s.heap.get? l=some {cls:=.type "list",data:=.seq its.toArray n}) (hf:f its.toArray=its'.toArray) (hv:Vals ys its') (hz:ys.length<=sizeLine) :
  Inv X pins σ (upd H l (.lst ys)) {s with heap:=s.heap.update l (Obj.mapSeq f),toks:=t' }:=by
 have q:=PySem.IsL.update e f;rw [hf] at q;refine I.write (x:=l) (e:=l) (by rw [hH];exact trivial) (.inl rfl) (λb' u hb hu=>(Heap.get?_update_other s.heap (Obj.mapSeq f) (Ne.symm hb)).trans hu) ⟨_,q⟩ ?_;exact ⟨hz,its',_,hv,q⟩
theorem Inv.lnew {its:List Value} {t':Nat} (I:Inv X pins σ H s) (hv:Vals ys its) (hz:ys.length<=sizeLine) :
  Inv X pins σ (upd H s.heap.objs.size (.lst ys)) {s with heap:=s.heap.push {cls:=.type "list",data:=.seq its.toArray},toks:=t' }:=
 I.laid (λ_ _ q=>Heap.get?_push_of_some _ q) (Nat.le_refl _) ⟨hz,its,0,hv,Heap.get?_push_size _ rfl⟩
theorem Inv.fresh (I:Inv X pins σ H s):H s.heap.objs.size=none:=I.hok.fresh (Nat.le_refl _)
theorem Inv.lstM (I:Inv X pins σ H s) (hH:H l=some (.lst xs)):xs.length<=sizeLine/\∃(its:List Value) (n:Nat),Vals xs its/\xs.length=its.length/\s.heap.get? l=some {cls:=.type "list",data:=.seq its.toArray n}:=by
 obtain ⟨z,its,n,r,e⟩:=I.hok l _ hH;exact ⟨z,its,n,r,r.length,e⟩
theorem Ec {n:Nat} (h:n<=sizeLine):Builtin.List.listTooLong n=false:=by
 unfold Builtin.List.listTooLong;exact decide_eq_false (by omega)
end
section
variable {X:Cx}
inductive wV (x:V) (vs:List V) (H:Hp) (Q:VK):Prop where
 | mk (l:Addr) (xs:List V) (y:V) (z_0:x=.ref l) (z_1:vs=[y]) (z_2:H l=some (.lst xs)) (z_3:xs.length < sizeLine) (z_4:Q .non (upd H l (.lst (xs++[y])))):wV  x vs H Q
def rAppend:V->List V->Hp->VK->Prop:=λx vs H Q=>wV  x vs H Q
theorem aW:MtM X "list.append" rAppend:=by
 intro pins s σ H x vs v us Q I rx rv h;obtain ⟨l,xs,y,rfl,rfl,hH,hz,q⟩:=h;cases rx
 obtain ⟨u,rfl,ru⟩:=rv.one;obtain ⟨z,its,n,r,hl,e⟩:=I.lstM hH;refine call_meets F.slot_list_append ⟨_,e,rfl⟩ F.entry_list_append (F.args_list_append_2 _ _) (PySem.list_append l its.toArray n u (by rw [List.size_toArray];omega)) ⟨e,?_⟩;refine ⟨.non,_,I.lset (its':=its++[u]) hH e (by simp) (r.append (.cons ru .nil)) ?_,rfl,q⟩;rw [List.length_append,List.length_singleton];omega
def rExtend:V->List V->Hp->VK->Prop:=λx vs H Q=>∃ l b xs zs,x=.ref l/\vs=[.ref b]/\H l=some (.lst xs)/\H b=some (.lst zs)/\xs.length+zs.length<=sizeLine/\Q .non (upd H l (.lst (xs++zs)))
theorem nI:MtM X "list.extend" rExtend:=by
 intro pins s σ H x vs v us Q I rx rv h;obtain ⟨l,b,xs,zs,rfl,rfl,hH,hB,hz,q⟩:=h;cases rx
 obtain ⟨u,rfl,ru⟩:=rv.one;cases ru
 obtain ⟨z,its,n,r,hl,e⟩:=I.lstM hH;obtain ⟨z2,its2,n2,r2,hl2,e2⟩:=I.lstM hB;have hsz:its.toArray.size+its2.toArray.size<=sizeLine:=by rw [List.size_toArray,List.size_toArray];omega
 have hlong:¬ (!its.toArray.isEmpty && Builtin.List.listTooLong (its.toArray.size+its2.toArray.size))=true:=by
  rw [Ec hsz,Bool.and_false];exact Bool.false_ne_true
 refine call_meets F.slot_list_extend ⟨_,e,rfl⟩ F.entry_list_extend (F.args_list_extend_2 _ _)
  (AutoSeq1.list_extend_list_list_0 l its.toArray n b its2.toArray n2 hlong (by rw [List.size_toArray];omega) (by omega)) ⟨e,e2,?_⟩
 refine ⟨.non,_,I.lset (its':=its++its2) hH e (by simp) (r.append r2) ?_,rfl,q⟩;rw [List.length_append];omega
def rPop:V->List V->Hp->VK->Prop:=λx vs H Q=>∃ l xs y,x=.ref l/\vs=[]/\H l=some (.lst xs)/\xs[xs.length - 1]?=some y/\Q y (upd H l (.lst xs.dropLast))
theorem jb:MtM X "list.pop" rPop:=by
 intro pins s σ H x vs v us Q I rx rv h;obtain ⟨l,xs,y,rfl,rfl,hH,hy,q⟩:=h;cases rx
 have hus:=rv.zero;subst hus;obtain ⟨z,its,n,r,hl,e⟩:=I.lstM hH;obtain ⟨u,hu,ru⟩:=r.get hy
 have hy':its.toArray[its.toArray.size - 1]?=some u:=by
  show its.toArray[its.length - 1]?=some u;rw [<- Array.getElem?_toList,<- hl];exact hu
 refine call_meets F.slot_list_pop ⟨_,e,rfl⟩ F.entry_list_pop (F.args_list_pop_1 _) (MeetsSeq.list_pop_last l its.toArray n u hy' (by rw [List.size_toArray];omega)) ⟨e,?_⟩;refine ⟨y,_,I.lset (its':=its.dropLast) hH e ?_ r.dropLast ?_,ru,q⟩
 ·show its.toArray.eraseIdxIfInBounds (its.toArray.size - 1)=its.dropLast.toArray;rw [List.size_toArray,List.eraseIdxIfInBounds_toArray,yp]
 ·rw [List.length_dropLast];omega
def rPopAt:V->List V->Hp->VK->Prop:=λx vs H Q=>∃ l xs i k y,x=.ref l/\vs=[.int i]/\H l=some (.lst xs)/\-(2 ^ 63)<=i/\i < 2 ^ 63/\seqIndex? i xs.length=some k/\xs[k]?=some y/\Q y (upd H l (.lst (xs.eraseIdx k)))
theorem Eg:MtM X "list.pop" rPopAt:=by
 intro pins s σ H x vs v us Q I rx rv h;obtain ⟨l,xs,i,k,y,rfl,rfl,hH,h1,h2,hk,hy,q⟩:=h;cases rx
 obtain ⟨u,rfl,ru⟩:=rv.one;obtain ⟨t,rfl⟩:=ru;obtain ⟨z,its,n,r,hl,e⟩:=I.lstM hH;obtain ⟨w,hw,rw'⟩:=r.get hy
 refine call_meets F.slot_list_pop ⟨_,e,rfl⟩ F.entry_list_pop (F.args_list_pop_2 _ _)
  (MeetsSeq.list_pop_at l its.toArray n i t k w (fitsIndex_both h1 h2) (by rw [List.size_toArray,<- hl];exact hk) (by rw [<- Array.getElem?_toList];exact hw) (by rw [List.size_toArray];omega)) ⟨e,?_⟩
 refine ⟨y,_,I.lset (its':=its.eraseIdx k) hH e ?_ (r.eraseIdx k) ?_,rw',q⟩
 ·show its.toArray.eraseIdxIfInBounds k=(its.eraseIdx k).toArray;rw [List.eraseIdxIfInBounds_toArray]
 ·have:=sj xs k;omega
def Dq:V->List V->Hp->VK->Prop:=λx vs H Q=>∃ l xs,x=.ref l/\vs=[]/\H l=some (.lst xs)/\Q .non (upd H l (.lst xs.reverse))
theorem qw:MtM X "list.reverse" Dq:=by
 intro pins s σ H x vs v us Q I rx rv h;obtain ⟨l,xs,rfl,rfl,hH,q⟩:=h;cases rx
 have hus:=rv.zero;subst hus;obtain ⟨z,its,n,r,hl,e⟩:=I.lstM hH;refine call_meets F.slot_list_reverse ⟨_,e,rfl⟩ F.entry_list_reverse (F.args_list_reverse_1 _) (AutoSeq1.list_reverse_list_0 l its.toArray n (by rw [List.size_toArray];omega)) ⟨e,?_⟩;refine ⟨.non,_,I.lset (its':=its.reverse) hH e (by simp) r.reverse ?_,rfl,q⟩;rw [List.length_reverse];omega
def rCat:R2:=λx y H Q=>∃ l b xs zs,x=.ref l/\y=.ref b/\H l=some (.lst xs)/\H b=some (.lst zs)/\xs.length+zs.length<=sizeLine/\∀ p,H p=none->Q (.ref p) (upd H p (.lst (xs++zs)))
theorem jG:OpR X (binaryOp .Add) rCat:=by
 intro pins s σ H x y v u Q I rx ry h;obtain ⟨l,b,xs,zs,rfl,rfl,hH,hB,hz,q⟩:=h;cases rx
 cases ry
 obtain ⟨z,its,n,r,hl,e⟩:=I.lstM hH;obtain ⟨z2,its2,n2,r2,hl2,e2⟩:=I.lstM hB;refine PySem.P.add_list e e2 ?_ (by rw [List.size_toArray,List.size_toArray];omega);have ea:its.toArray++its2.toArray=(its++its2).toArray:=by simp
 rw [ea];exact ⟨.ref _,_,I.lnew (t':=s.toks) (r.append r2) (by rw [List.length_append];omega),rfl,q _ I.fresh⟩
end
section
variable {prog:Program} {w:World} {A:Around} {E:Value->Shared->Prop} {s:Shared}
set_option maxRecDepth 100000 in
end
section
variable {X:Cx}
end
end L2
namespace Att
open PySem PySem.W PySem.Calls PyProof.Rows
theorem oE {P:Params} {h:Heap}:∀(ns:List Int) (vs:List Value),WellAll P h vs (ns.map WData.int)->IntsAre vs ns:=by
 intro ns
 induction ns with
 | nil =>
  intro vs w;rw [List.map_nil] at w;cases w
  exact .nil
 | cons n ns ih =>
  intro vs w;rw [List.map_cons] at w;cases w with
  | cons a b =>
   cases a
   exact .cons _ _ (ih _ b)
theorem Ay {l:OpenLaw} {n:Nat} (hn:l.most=some n) {P:Params} {h:Heap} {args:List WData} {vals:List Value}
  (hpre:l.row.toRowW.claim.pre args=true) (hwl:WellAll P h vals args) :
  ∃ a vs ns,vals=[Value.ref a]/\args=[WData.list (ns.map WData.int)]/\h.get? a=some {cls:=.type "list",data:=.seq vs.toArray}/\IntsAre vs ns/\ns.length<=n:=by
 have hsh:WShape.hasAll [] args [.list .int]=true:=(pre_splitW hpre).1;have hc:l.pre.holds [] {args:=args}=true:=(pre_splitW hpre).2;obtain ⟨d,r,rfl,h1,h2⟩:=hasAllW_cons hsh;obtain rfl:=hasAllW_nil h2;obtain ⟨xs,rfl,h3⟩:=hasW_list h1;obtain ⟨ns,rfl⟩:=items_int h3
 have hlen:ns.length<=n:=by
  unfold OpenLaw.pre at hc
  have h4:(WTm.not (.lt (.lit (.int (n:Int))) (.len (.arg 0)))).holds [] {args:=[.list (ns.map .int)] }=true:=by
   have h4:=(holds_andW hc).1;rw [hn] at h4;exact h4
  have h5:=condW_of h4 (w_not (w_lt w_lit (w_len_list (w_arg rfl))));rw [List.length_map] at h5;refine Nat.le_of_not_lt λq=>?_;have q':(n:Int) < ((ns.length:Nat):Int):=by omega
  first
   | (rw [decide_eq_true q'] at h5;exact absurd h5 (by decide))
   | (simp at h5;omega)
 cases hwl with
 | cons w1 w2 =>
  cases w2
  cases w1 with
  | list ho hall=>exact ⟨_,_,ns,rfl,rfl,ho,oE ns _ hall,hlen⟩
theorem AI (l:OpenLaw) (args:List WData):l.row.toRowW.claim.post args (.bool true) args=true:=
 postW_of (r:=l.row.toRowW) (X:=(true == true))
  (show WShape.has [] (.bool true) .bool=true by first | rfl | decide | simp [WShape.has,WShape.arms,WShape.armsAll])
  (show (WTm.eq .res (.lit (.bool true))).value [] {args:=args,res:=some (.bool true),after:=args}=some (.bool (true == true)) from w_eq_bool (w_res rfl) w_lit) rfl
section
variable {prog:Program} {w:World} {A:Around} {E:Value->Shared->Prop} {s:Shared} {K:Frag}
end
end Att
namespace L2
open PySem PySem.Spec PyProof.Rows
theorem rA:∀{vs:List Value} {ns:List Int},IntsAre vs ns->Vals (ns.map V.int) vs
 | _,_,.nil=>.nil
 | _,_,.cons n t h=>.cons ⟨t,rfl⟩ (rA h)
def Only (H:Hp):Prop:=∀ b,H b=none\/∃ o xs,H b=some (.frz o (.lst xs))
theorem El {P:Program} {w:World} {K:W.Frag} {mg mb:Str->Option Value} {CX:CXT} {k:Nat} {fa a:Addr} {fd:FuncData} {x:Str} {sp:Sp} {s₁:Shared} {vs:List Value} {ns:List Int}
  (KX:K.In s₁.heap) (hns:s₁.heap.Ns mainGlobals mg) (hb:s₁.heap.Ns builtinsNs mb) (hbb:∀ x:Str,x≠"__name__"->mb x=bootBuiltins x) (hlim:s₁.heap.NoLimit) (hg:s₁.gens=#[])
  (ha:s₁.heap.get? a=some {cls:=.type "list",data:=.seq vs.toArray}) (hi:IntsAre vs ns) (hl:ns.length<=sizeLine) (hr:dq k callerA)
  (F:∀ base:Heap,K.In base->base.Ns mainGlobals mg->mR P w K mg base CX k fa fd [x] sp) (hbind:∀(s:Shared) (u:Value),BindsTo s fd ⟨[u],[]⟩ [(x,u)])
  (hsp:∀ H:Hp,Only H->SqL K H a (ns.map V.int)->sp [.ref a] H (λv _=>v=.bl true) λ_ _ _=>False)
  (hCX:∀ H e s',CX [] H s₁ (λ_ _ _=>False) e s'->False) :
  codeAny (model P w) callerA (.call (.ref fa) ⟨[.ref a],[]⟩) (λr s'=>r=.ok (.ret (.bool true))/\OldK s₁.heap s'.heap/\s'.os=s₁.os/\AllBare s'.gens) s₁:=by
 have rv:=rA hi;have lenV:=hi.length
 have core:∀ H:Hp,Only H->SqL K H a (ns.map V.int)->HOk P w H s₁.heap->(∀ b,H b≠none->b=a)->(H a≠none->K.lookup a=none)->
   codeAny (model P w) callerA (.call (.ref fa) ⟨[.ref a],[]⟩) (λr s'=>r=.ok (.ret (.bool true))/\OldK s₁.heap s'.heap/\s'.os=s₁.os/\AllBare s'.gens) s₁:=by
  intro H hO hS hok hA hK;have base_of:∀{b:Addr} {o:Obj},s₁.heap.get? b=some o->H b=none->(uu s₁.heap H).get? b=some o:=λe n=>Es e n
  have noA:∀{b:Addr} {o:Obj} {es:Array DictEntry} {ep:Nat},s₁.heap.get? b=some o->o.data=.dict es ep->H b=none:=λ{b o es ep} e d=>by
   cases q:H b with
   | none=>rfl
   | some u =>
    have e':b=a:=hA b (by rw [q];simp);subst e';rw [ha] at e;cases e
    have d':Data.seq vs.toArray _=Data.dict es ep:=d;cases d'
  have nsK:∀{b:Addr} {m:Str->Option Value},s₁.heap.Ns b m->(uu s₁.heap H).Ns b m:=λ{b m} ⟨o,es,ep,e,d,r⟩=>⟨o,es,ep,base_of e (noA e d),d,r⟩
  have hKb:K.In (uu s₁.heap H):=λb o e=>base_of (KX b o e) (by
   cases q:H b with
   | none=>rfl
   | some u =>
    have e':b=a:=hA b (by rw [q];simp);subst e';rw [hK (by rw [q];simp)] at e;cases e)
  have hM:Mod K mg (uu s₁.heap H):=⟨hKb,nsK hns,⟨mb,nsK hb,hbb⟩,let ⟨mc,h1,h2⟩:=hlim;⟨mc,nsK h1,h2⟩⟩;have e0:yI P w K mg (uu s₁.heap H) callerA [] s₁ H:=⟨rfl,hM,λb o e=>of_hidT e,Nat.le_of_eq (Bu _ _),trivial,λb hb=>absurd (show b∈([]:List Addr) from hb) (by simp),hok,.of_eq hg⟩;refine codeAny_mono ((F _ hKb (nsK hns)).run callerA [] s₁ H ⟨[.ref a],[]⟩ [.ref a] [.ref a] _ _ hr e0 (hbind s₁ (.ref a)) (.cons rfl .nil) (hsp H hO hS)) λr s' h=>?_;cases r with
  | error e=>exact (hCX H e s' h).elim
  | ok fl =>
   cases fl with
   | next=>exact False.elim h
   | brk=>exact False.elim h
   | cont=>exact False.elim h
   | ret u =>
    obtain ⟨v,H',os,bare,un,hok',r',q⟩:=h;have q':v=.bl true:=q;subst q';obtain rfl:u=Value.bool true:=r';refine ⟨rfl,OldK.of_keep λb o e=>?_,os,bare⟩;cases q:H b with
    | none=>exact un.keep b o e q (by intro z;exact absurd (show b∈([]:List Addr) from z) (by simp)) (by simp)
    | some u =>
     rcases hO b with z | ⟨ob,xs,z⟩
     ·rw [q] at z;cases z
     ·have z2:=un.frzs b ob _ z;obtain ⟨e1,_⟩:=hok b _ z;obtain ⟨e2,_⟩:=hok' b _ z2;rw [e] at e1;cases e1
      exact e2
 cases hk:K.lookup a with
 | some o =>
  have e:=KX a o hk;rw [ha] at e;cases e
  refine core (λ_=>none) (λ_=>.inl rfl) (.inr ⟨_,vs.toArray,_,hk,rfl,rfl,rfl,by rw [List.size_toArray,lenV];exact hl,by simpa using rv⟩) (λb u z=>by have z':(none:Option HO)=some u:=z;cases z') (λb z=>absurd rfl z) λz=>absurd rfl z
 | none =>
  refine core (λb=>if b=a then some (.frz {cls:=.type "list",data:=.seq vs.toArray} (.lst (ns.map V.int))) else none) (λb=>?_) (.inl (.inr ⟨{cls:=.type "list",data:=.seq vs.toArray},if_pos rfl⟩)) (λb u z=>?_) (λb z=>?_) λ_=>hk
  ·by_cases hb:b=a
   ·exact .inr ⟨_,_,if_pos hb⟩
   ·exact .inl (if_neg hb)
  ·by_cases hb:b=a
   ·have z':=(if_pos hb).symm.trans z;cases z'
    subst hb;exact ⟨ha,by rw [List.length_map];exact hl,vs,_,rv,ha⟩
   ·have z':=(if_neg hb).symm.trans z;cases z'
  ·by_cases hb:b=a
   ·exact hb
   ·exact absurd (if_neg hb) z
abbrev KOf {K:W.Frag} {h:Heap} (_:K.In h):W.Frag:=K
def inClass (s:Stmt) (j:Nat):Stmt:=match s with
 | .ClassDef _ _ _ body _ _ _ _ _ _ _=>body.getD j (.Pass ⟨0,0,0,0⟩)
 | _=>.Pass ⟨0,0,0,0⟩
def eZ (s:Stmt):Arguments:=match s with
 | .FunctionDef _ a _ _ _ _ _ _ _ _=>a
 | _=>{posonlyargs:=[],args:=[],vararg:=none,kwonlyargs:=[],kw_defaults:=[],kwarg:=none,defaults:=[] }
def bu (s:Stmt):List Stmt:=match s with
 | .FunctionDef _ _ b _ _ _ _ _ _ _=>b
 | _=>[]
def ag (s:Stmt):Scope:=match s with
 | .FunctionDef _ _ _ _ _ _ sc _ _ _=>sc
 | _=>{kind:=.function,names:=[],isGenerator:=false,isCoroutine:=false}
abbrev CX0:CXT:=λ_ _ _ _ _ _=>False
abbrev E0:XK:=λ_ _ _=>False
theorem vQ {X:Cx}:Passes CX0 X E0:=λ_ _ _ _ _ _ _ h=>h.elim
structure Fun (K:W.Frag) (x qual:Str) (st:Stmt) (f:Addr) (fd:FuncData):Prop where
 ex:∃(oc:Value) (od:Option Addr) (kV doc pm:Value) (an:Option Addr) (cdv ct:Value) (osl:Array (Option Value)),
  fd=PySem.W.fnOf x qual (eZ st) (bu st) (ag st) .none kV doc pm an cdv ct/\K.lookup f=some ⟨oc,od,.func fd,osl⟩/\PySem.W.codeIn K cdv qual=true
 kp:PySem.W.keepIn K (.ref f)=true
variable {P:Program} {w:World} {K:W.Frag} {mg:Str->Option Value} {base:Heap}
theorem Fun.ok {x qual:Str} {st:Stmt} {f:Addr} {fd:FuncData} {N ps:List Str} {k:Nat} {sp:Sp} (F:Fun K x qual st f fd) (S:az N ps (ag st)) (len:∀ vs H Q E,sp vs H Q E->vs.length=ps.length)
  (hbody:∀(cdv:Value) (A:Around) (outer:List Env) (s:Shared) (H:Hp) (vs:List V) (Q:VK) (E:XK),dq k (A.deeper (envOfC qual (ag st) s.heap.objs.size f cdv))->sp vs H Q E->
   ∃ t,PSs (cS CX0 P w K mg base N qual (ag st) f cdv A outer s H E).nox (bu st) t/\t {nx:=λ_ H'=>Q .non H',rt:=Q} (start N vs) H):mR P w K mg base CX0 (k+1) f fd ps sp:=by
 obtain ⟨oc,od,kV,doc,pm,an,cdv,ct,osl,rfl,lk,hcd⟩:=F.ex;refine fn_of lk hcd S len λA outer s H vs Q E hr hsp=>?_;obtain ⟨t,h,q⟩:=hbody cdv A outer s H vs Q E hr hsp;exact ⟨t,h.nox,q⟩
theorem Fun.binds {x qual:Str} {st:Stmt} {f:Addr} {fd:FuncData} {ps:List Str} (F:Fun K x qual st f fd)
  (h:∀(kV doc pm:Value) (an:Option Addr) (cdv ct:Value) (us:List Value),us.length=ps.length->bindArgs (PySem.W.fnOf x qual (eZ st) (bu st) (ag st) .none kV doc pm an cdv ct) ⟨us,[]⟩=pure (ps.zip us)):Binds K fd ps []:=by
 obtain ⟨oc,od,kV,doc,pm,an,cdv,ct,osl,rfl,lk,hcd⟩:=F.ex;exact .all (h kV doc pm an cdv ct)
theorem EE {x qual:Str} {st:Stmt} {f:Addr} {oc:Value} {od an:Option Addr} {osl:Array (Option Value)} {kV doc pm cdv ct:Value} (l:K.lookup f=some ⟨oc,od,.func (PySem.W.fnOf x qual (eZ st) (bu st) (ag st) .none kV doc pm an cdv ct),osl⟩)
  (c:PySem.W.codeIn K cdv qual=true) (k:PySem.W.keepIn K (.ref f)=true):Fun K x qual st f (PySem.W.fnOf x qual (eZ st) (bu st) (ag st) .none kV doc pm an cdv ct):=⟨⟨oc,od,kV,doc,pm,an,cdv,ct,osl,rfl,l,c⟩,k⟩
theorem zO {A:Around} {k:Nat} (hr:dq k A):A.units+1 < cLine:=Nat.lt_of_le_of_lt (Nat.add_le_add_left (by decide:1<=64) _) hr.units
theorem aO {n:Nat} (h:n<=1000):n < sizeLine:=Nat.lt_of_le_of_lt h (by decide)
section
variable {X:Cx}
theorem pv (i:Nat) {x:Str} {pos:Pos} (hN:X.N[i]?=some x:=by rfl) (hv:Vis X.env.scope x:=by first | exact Or.inl rfl | exact Or.inr (Or.inl rfl) | exact Or.inr (Or.inr rfl)) (hd:(x == ("__debug__":Str))=false:=by decide)
  (hcd:(x == ("__classdict__":Str))=false:=by decide):PE X (.Name x pos) (tVar i):=DC hN hv hd hcd
end
theorem bH {A B:Prop} (h:B):if false=true then A else B:=by
 rw [if_neg Bool.false_ne_true];exact h
theorem dN {A B:Prop} (h:A):if true=true then A else B:=by
 rw [if_pos rfl];exact h
theorem eA {c A B:Prop} [Decidable c] (h1:c->A) (h2:¬c->B):if c then A else B:=by
 by_cases h:c
 ·rw [if_pos h];exact h1 h
 ·rw [if_neg h];exact h2 h
theorem sH {c A B:Prop} [Decidable c] (hc:c) (h:B):if (!decide c)=true then A else B:=by
 rw [decide_eq_true hc];exact bH h
def aK (H H':Hp):Prop:=∀ b o,H b=some o->H' b=some o
theorem aK.refl (H:Hp):aK H H:=λ_ _ h=>h
theorem aK.trans {H H1 H2:Hp} (a:aK H H1) (b:aK H1 H2):aK H H2:=λc o h=>b c o (a c o h)
theorem aK.free {H H':Hp} (e:aK H H') {l:Addr} (h:H' l=Option.none):H l=Option.none:=by
 cases q:H l with
 | none=>rfl
 | some o =>
  rw [e l o q] at h;cases h
theorem aK.seq {K:W.Frag} {H H':Hp} {a:Addr} {xs:List V} (e:aK H H') (h:SqL K H a xs):SqL K H' a xs:=by
 rcases h with (h | ⟨o,h⟩) | h
 ·exact .inl (.inl (e _ _ h))
 ·exact .inl (.inr ⟨o,e _ _ h⟩)
 ·exact .inr h
end L2
set_option maxHeartbeats 4000000
namespace L2
open PySem PySem.Spec PyProof.Rows
def bo (X:Cx) (scope:Scope) (cl:List (Str×Addr)) (N:List Str) (s:Shared) (H:Hp) (fp:List Addr):Cx:=
 {prog:=X.prog,w:=X.w,K:=X.K,mg:=X.mg,base:=X.base,A:=X.A,N:=N,s₀:=s,H₀:=H,env:=compEnvC scope cl s.heap.objs.size X.env,
  outer:=X.stack,stack:=X.stack,ex:=fp,fn:=λ_=>false,calm:=X.calm,pn:=[],xe:=λ_ _=>False}
def bN (X:Cx) (x:Str) (js:List Nat):List Str:=x::js.map λj=>X.N.getD j ""
def bL (js:List Nat) (σ:St):St:=js.map λj=>(σ[j]?).getD none
structure fh (X:Cx) (scope:Scope) (js:List Nat):Prop where
 all:∀ j∈js,∃ y,X.N[j]?=some y/\(X.env.kindOf y=some .cell\/X.env.kindOf y=some .free)/\(y,NameKind.free)∈scope.names/\
  ((relabel scope X.env).names.lookup y=some .cell\/(relabel scope X.env).names.lookup y=some .free)
theorem dD {X:Cx} {scope:Scope}:fh X scope []:=⟨λ_ h=>nomatch h⟩
theorem dR {X:Cx} {scope:Scope} {j:Nat} {js:List Nat} {y:Str} (h1:X.N[j]?=some y) (h2:X.env.kindOf y=some .cell\/X.env.kindOf y=some .free) (h3:(y,NameKind.free)∈scope.names)
  (h4:(relabel scope X.env).names.lookup y=some .cell\/(relabel scope X.env).names.lookup y=some .free) (r:fh X scope js):fh X scope (j::js):=
 ⟨λk hk=>by
  rcases List.mem_cons.mp hk with e | e
  ·subst e;exact ⟨y,h1,h2,h3,h4⟩
  ·exact r.all k e⟩
theorem cR {env:Env}:∀{names:List (Str×NameKind)} {y:Str} {k:NameKind},
  (names.map λ(n,k)=>if (k == NameKind.free && env.scope.kind == .function && env.kindOf n == some .cell) then (n,NameKind.cell) else (n,k)).lookup y=some k->
  ∃ k',(y,k')∈names/\(k'=k\/(k=.cell/\k'=.free))
 | [],_,_,h=>by simp at h
 | (n,k0)::r,y,k,h=>by
  by_cases hc:(k0 == NameKind.free && env.scope.kind == .function && env.kindOf n == some .cell)=true
  ·rw [List.map_cons] at h;dsimp only at h;rw [if_pos hc] at h;simp only [List.lookup_cons] at h
   have hf:k0=.free:=by
    rw [Bool.and_eq_true,Bool.and_eq_true] at hc;exact beq_iff_eq.mp hc.1.1
   cases hx:y == n with
   | true =>
    rw [hx] at h;have e:=beq_iff_eq.mp hx;subst e;have e2:=Option.some.inj h;exact ⟨k0,List.mem_cons_self,.inr ⟨e2.symm,hf⟩⟩
   | false =>
    rw [hx] at h;obtain ⟨k',m,q⟩:=cR h;exact ⟨k',List.mem_cons_of_mem _ m,q⟩
  ·rw [List.map_cons] at h;dsimp only at h;rw [if_neg hc] at h;simp only [List.lookup_cons] at h;cases hx:y == n with
   | true =>
    rw [hx] at h;have e:=beq_iff_eq.mp hx;subst e;have e2:=Option.some.inj h;exact ⟨k0,List.mem_cons_self,.inl e2⟩
   | false =>
    rw [hx] at h;obtain ⟨k',m,q⟩:=cR h;exact ⟨k',List.mem_cons_of_mem _ m,q⟩
section
variable {X:Cx} {pins:List (Addr×Obj)} {σ:St} {H:Hp} {s:Shared} {scope:Scope} {cl:List (Str×Addr)} {x:Str} {js:List Nat} {fp:List Addr}
theorem comp_ok (I:Inv X pins σ H s) (hk:scope.kind=.function) (hcell:∀ y∈scope.names,y.2≠.cell)
  (hcl1:∀ y c,cl.lookup y=some c->X.env.cells.lookup y=some c) (hcl2:∀ y,(y,NameKind.free)∈scope.names->∃ c,cl.lookup y=some c)
  (hf:∀ b∈fp,iT X pins H b) (hlt:∀ b∈fp,b < s.heap.objs.size):(bo X scope cl (bN X x js) s H fp).Ok where
 mod:=I.ok.mod
 kind:=hk
 glob:=I.ok.glob
 blt:=I.ok.blt
 above:=Nat.le_refl _
 inj:=λy z c h1 h2=>I.ok.inj y z c (hcl1 y c h1) (hcl1 z c h2)
 has:=λy hy=>by
  have hy':(relabel scope X.env).names.lookup y=some .cell\/(relabel scope X.env).names.lookup y=some .free:=hy;rcases hy' with h | h
  ·obtain ⟨k',m,q⟩:=cR h;rcases q with q | ⟨_,q⟩
   ·exact absurd q (hcell _ m)
   ·subst q;exact hcl2 y m
  ·obtain ⟨k',m,q⟩:=cR h;rcases q with q | ⟨q,_⟩
   ·subst q;exact hcl2 y m
   ·cases q
 cab:=λy c h _=>by cases h
 hd:=I.ok.hd
 frames:=I.ok.frames
 stk:=.inl rfl
 exf:=λb hb=>⟨Nat.ne_of_lt (hlt b hb),λy c h=>(hf b hb).2.2.2.2.1 y c (hcl1 y c h)⟩
 bs:=I.bs
 bsz:=Nat.le_trans I.ok.bsz I.sz
 noex:=λb o e hb=>by
  rcases (hf b hb).2.2.2.1 with z | z
  ·exact I.ok.noex b o e z
  ·exact absurd (Nat.lt_of_lt_of_le (Heap.lt_size e) (Nat.le_trans I.ok.bsz z)) (Nat.lt_irrefl _)
 exfs:=λb hb hz=>(List.mem_cons.mp (I.stkSub b hz)).elim (hf b hb).2.1 (hf b hb).2.2.1
 funs:=I.stack
 frf:=I.stkFree
theorem yu {h₁:Heap} {tk:Nat} (I:Inv X pins σ H s) (hk:scope.kind=.function) (hcell:∀ y∈scope.names,y.2≠.cell)
  (hcl1:∀ y c,cl.lookup y=some c->X.env.cells.lookup y=some c) (hcl2:∀ y,(y,NameKind.free)∈scope.names->∃ c,cl.lookup y=some c) (hjs:fh X scope js)
  (hf:∀ b∈fp,iT X pins H b) (hlt:∀ b∈fp,b < s.heap.objs.size) {m:Str->Option Value} (hn:h₁.Ns s.heap.objs.size m) (hkeep:∀ b o,s.heap.get? b=some o->h₁.get? b=some o) :
  Inv (bo X scope cl (bN X x js) s H fp) [] (none::bL js σ) H {s with heap:=h₁,toks:=tk} where
 ok:=comp_ok I hk hcell hcl1 hcl2 hf hlt
 os:=rfl
 bare:=I.bare
 base:=Un.kept hkeep
 loc:=by
  refine ⟨m,hn,λi y v h1 h2 h3=>?_⟩;cases i with
  | zero =>
   have z:(some none:Option (Option V))=some (some v):=h2;cases z
  | succ k =>
   have h1':(js.map λj=>X.N.getD j "")[k]?=some y:=h1;have h2':(js.map λj=>(σ[j]?).getD none)[k]?=some (some v):=h2;rw [List.getElem?_map] at h1' h2';cases hj:js[k]? with
   | none=>rw [hj] at h1';cases h1'
   | some j =>
    rw [hj] at h1' h2';have e1:X.N.getD j ""=y:=Option.some.inj h1';have e2:(σ[j]?).getD none=some v:=Option.some.inj h2';obtain ⟨y',n1,n2,n3,n4⟩:=hjs.all j (List.mem_of_getElem? hj);have e3:y'=y:=by rw [<- e1,List.getD_eq_getElem?_getD,n1];rfl
    subst e3
    have e4:σ[j]?=some (some v):=by
     cases q:σ[j]? with
     | none=>rw [q] at e2;cases e2
     | some a=>rw [q] at e2;exact congrArg some e2
    obtain ⟨m0,_,hl⟩:=I.loc;obtain ⟨u,r,l⟩:=hl j y' v n1 e4 (n2.elim (λz=>Or.inr (Or.inl z)) λz=>Or.inr (Or.inr z));refine ⟨u,r,.inr ⟨n4,?_⟩⟩;rcases l with ⟨l,_⟩ | ⟨_,c,hc,hi⟩
    ·exfalso;rcases n2 with z | z <;> (rw [z] at l;cases l)
    ·obtain ⟨c',hc'⟩:=hcl2 y' n3;have e5:=hcl1 y' c' hc';rw [hc] at e5;have e6:=Option.some.inj e5;subst e6;obtain ⟨o,ho,hd⟩:=hi;exact ⟨c,hc',o,hkeep c o ho,hd⟩
 cell:=λy c h=>by
  obtain ⟨v,o,ho,hd⟩:=I.cell y c (hcl1 y c h);exact ⟨v,o,hkeep c o ho,hd⟩
 free:=I.hok.fresh (Nat.le_refl _)
 freeC:=λy c h=>I.freeC y c (hcl1 y c h)
 pin:=λp hp=>absurd (show p∈([]:List (Addr×Obj)) from hp) (by simp)
 hok:=I.hok.kept hkeep
 len:=by
  show (none::bL js σ).length=(bN X x js).length;simp [bL,bN]
end
def PIf (X:Cx) (ifs:List Expr) (t:TT):Prop:=
 ∀(
  pins:List (Addr×Obj)) (s:Shared) (σ:St) (H:Hp) (Q:Bool->Hp->Prop),Inv X pins σ H s->t σ H Q->
  wpAny (model X.prog X.w) X.A (forIn ifs true λc r=>if r=true then do let ok <- isTrue c X.env (eval c X.env);pure (ForInStep.yield ok) else pure (ForInStep.yield r)) (TP X pins σ Q) X.xe s
def kG:TT:=λ_ H Q=>Q true H
theorem eU {X:Cx}:PIf X [] kG:=λ_ _ _ H _ I h=>wpAny_tests_nil ⟨H,I,h⟩
theorem pif_one {X:Cx} {c:Expr} {t:TT} (h:PT X c t):PIf X [c] t:=λpins s σ H Q I q=>wpAny_tests_one (h pins s σ H Q I q)
def iD (wi:TI) (tc:TT) (te:TE) (js:List Nat):TE:=λσ H Q=>wi σ H λJ H1=>∀ D,H1 D=none->
 ∃ W:Nat->Nat->Hp->Prop,(∃ m,W 0 m (upd H1 D (.lst [])))/\∀ i m H2,W i m H2->(J.stop i H2/\Q (.ref D) H2)\/
  (J.go i H2/\∀ v H3,J.yld i H2 v H3->tc (some v::bL js σ) H3 λb H4=>if b=true then te (some v::bL js σ) H4 λy H5 =>
   ∃ ys,H5 D=some (.lst ys)/\ys.length < sizeLine/\∃ m',m' < m/\W (i+1) m' (upd H5 D (.lst (ys++[y]))) else ∃ m',m' < m/\W (i+1) m' H4)
section
variable {X:Cx} {elt iter:Expr} {x:Str} {px pos:Pos} {ifs:List Expr} {scope:Scope} {cl:List (Str×Addr)} {wi:TI} {tc:TT} {te:TE} {js:List Nat}
theorem sO {use:Option (Value->Sem Unit)} {Qv:Value->Shared->Prop} {pins:List (Addr×Obj)} {s:Shared} {σ:St} {H:Hp} {Q:VK}
  (hc:X.calm=true) (hi:PI X (.Name x px) iter wi) (hk:scope.kind=.function) (hcell:∀ y∈scope.names,y.2≠.cell) (hx:(relabel scope X.env).names.lookup x=some .local)
  (hcl1:∀ y c,cl.lookup y=some c->X.env.cells.lookup y=some c) (hcl2:∀ y,(y,NameKind.free)∈scope.names->∃ c,cl.lookup y=some c) (hjs:fh X scope js) (hnd:(bN X x js).Nodup)
  (ht:∀ s' H' fp,PIf (bo X scope cl (bN X x js) s' H' fp) ifs tc) (he:∀ s' H' fp,PE (bo X scope cl (bN X x js) s' H' fp) elt te)
  (I:Inv X pins σ H s) (h:iD wi tc te js σ H Q)
  (fin:∀(D C:Addr) (H':Hp) (s':Shared),Inv X pins σ H' s'->iT X pins H' C->(∃ m,s'.heap.Ns C m)->Q (.ref D) H'->compPost (model X.prog X.w) X.A X.xe use Qv (.ref D) C (.ok .next) s') :
  wpAny (model X.prog X.w) X.A (eval iter X.env) (λxv s₁=>wpAny (model X.prog X.w) X.A (pyIter xv) (λit s₂=>wpAny (model X.prog X.w) X.A (newList []) (λacc s₃ =>
   wpAny (model X.prog X.w) X.A (newFunctionEnv scope X.env.globals cl [] X.env.qual none .none (some X.env)) (λcenv s₄ =>
    codeAny (model X.prog X.w) X.A (.compStart (.ListComp elt [⟨.Name x px,iter,ifs,0⟩] scope pos) 0 it acc {cenv with scope:=relabel scope X.env})
     (compPost (model X.prog X.w) X.A X.xe use Qv acc cenv.locals) s₄) X.xe s₃) X.xe s₂) X.xe s₁) X.xe s:=by
 refine thn (hi pins s σ H _ I h) λv s1 h1=>thn h1 λitv s2 h2=>?_;obtain ⟨it,fp,tn,J,H2,e,I2,T,st2,f2,hW⟩:=h2;subst e;obtain ⟨W,⟨m0,w0⟩,turn⟩:=hW s2.heap.objs.size (I2.hok.fresh (Nat.le_refl _));have hlt2:∀ b∈fp,b < s2.heap.objs.size:=λb hb=>let ⟨_,e,_⟩:=T.obj _ _ st2 b hb;Heap.lt_size e
 have I3:Inv X pins σ (upd H2 s2.heap.objs.size (.lst [])) {s2 with heap:=s2.heap.push {cls:=.type "list",data:=.seq ([]:List Value).toArray} }:=
  I2.lnew (t':=s2.toks) (its:=[]) .nil (Nat.zero_le _)
 refine wpAny_newObj_type ?_;have k23:∀ b o,s2.heap.get? b=some o->(s2.heap.push {cls:=.type "list",data:=.seq ([]:List Value).toArray}).get? b=some o:=λb o e=>Heap.get?_push_of_some _ e;have sz3:(s2.heap.push {cls:=.type "list",data:=.seq ([]:List Value).toArray}).objs.size=s2.heap.objs.size+1:=Heap.size_push ..;generalize hs3:({s2 with heap:=s2.heap.push {cls:=.type "list",data:=.seq ([]:List Value).toArray} }:Shared)=s3 at I3
 have hs3':s3.heap=s2.heap.push {cls:=.type "list",data:=.seq ([]:List Value).toArray}:=by rw [<- hs3]
 have hlt3:∀ b∈fp,b < s3.heap.objs.size:=λb hb=>by rw [hs3',sz3];exact Nat.lt_succ_of_lt (hlt2 b hb)
 have f3:∀ b∈fp,iT X pins (upd H2 s2.heap.objs.size (.lst [])) b:=λb hb=>⟨by rw [au (Nat.ne_of_lt (hlt2 b hb))];exact (f2 b hb).1,(f2 b hb).2⟩;refine wpAny_newFunctionEnv hcell (by intro y hy;simp at hy) (λh₁ hns hsb=>?_) hk;have k34:∀ b o,s3.heap.get? b=some o->h₁.get? b=some o:=λb o e=>hsb.extBut b o (Nat.ne_of_lt (Heap.lt_size e)) (Heap.get?_push_of_some _ e);have I4:=yu (x:=x) (js:=js) (tk:=s3.toks+([]:List (Str×Value)).length) I3 hk hcell hcl1 hcl2 hjs f3 hlt3 hns k34;have st4:tn 0 h₁:=T.keep 0 _ _ st2 λb hb o e=>k34 b o (by rw [hs3'];exact k23 b o e)
 have stat:∀{H':Hp},(∀ b∈fp,H' b=none)->∀ b∈fp,iT (bo X scope cl (bN X x js) s3 (upd H2 s2.heap.objs.size (.lst [])) fp) [] H' b:=λhn b hb =>
  ⟨hn b hb,Nat.ne_of_lt (hlt3 b hb),λhz=>(List.mem_cons.mp (I3.stkSub b hz)).elim (f2 b hb).2.1 (f2 b hb).2.2.1,.inl hb,λy c q=>(f2 b hb).2.2.2.2.1 y c (hcl1 y c q),λp hp=>absurd (show p∈([]:List (Addr×Obj)) from hp) (by simp)⟩
 have back:∀{σ':St} {H':Hp} {s':Shared},Inv (bo X scope cl (bN X x js) s3 (upd H2 s2.heap.objs.size (.lst [])) fp) [] σ' H' s'->Inv X pins σ H' s':=λ{σ' H' s'} J' =>
  I3.call' (ch:=fp) J'.os J'.base J'.hok J'.bare λb hb=>⟨(f2 b hb).2.2.2.1,(f2 b hb).2.1,(f2 b hb).2.2.2.2.1,(f2 b hb).2.2.2.2.2⟩
 have loop:codeAny (model X.prog X.w) X.A (.compLoop (.ListComp elt [⟨.Name x px,iter,ifs,0⟩] scope pos) 0 (.ref it) (.ref s2.heap.objs.size) (compEnvC scope cl s3.heap.objs.size X.env))
   (compPost (model X.prog X.w) X.A X.xe use Qv (.ref s2.heap.objs.size) s3.heap.objs.size) {s3 with heap:=h₁,toks:=s3.toks+([]:List (Str×Value)).length}:=by
  refine codeAny_compLoop_tests (λn s'=>∃ i o H',Inv (bo X scope cl (bN X x js) s3 (upd H2 s2.heap.objs.size (.lst [])) fp) [] (o::bL js σ) H' s'/\tn i s'.heap/\(∀ b∈fp,H' b=none)/\W i n H') ?_ m0
   ⟨0,none,_,I4,st4,λb hb=>(f3 b hb).1,w0⟩
  rintro n s5 ⟨i,o,H5,I5,st5,fr5,w5⟩
  rcases turn i n H5 w5 with ⟨stop,q⟩ | ⟨go,step⟩
  ·refine thn (T.done (bo X scope cl (bN X x js) s3 (upd H2 s2.heap.objs.size (.lst [])) fp) rfl rfl rfl hc i [] s5 _ H5 _ I5 (stat fr5) st5 stop) λr s6 zz=>?_;obtain ⟨hr,I6⟩:=zz;subst hr;exact fin _ _ H5 s6 (back I6) (I3.fpOk (Nat.le_refl _) I6.free) (let ⟨m,hm,_⟩:=I6.loc;⟨m,hm⟩) q
  ·refine thn (T.item (bo X scope cl (bN X x js) s3 (upd H2 s2.heap.objs.size (.lst [])) fp) rfl rfl rfl hc i [] s5 _ H5 _ I5 (stat fr5) st5 go) λr s6 zz=>?_;obtain ⟨u,hr,h6⟩:=zz;subst hr;show wpAny _ _ (assign (.Name x px) _ u) _ _ s6;intro Γ p hΓ;have h6':=h6 Γ p hΓ;obtain ⟨v,H6,I6,r6,y6,st6,fr6⟩:=h6';refine (?_:wpAny _ _ _ _ _ s6) Γ p hΓ;have I6':=I6.pinned (stat fr6) (T.obj _ _ st6);have hg:PG (bo X scope cl (bN X x js) s3 (upd H2 s2.heap.objs.size (.lst [])) fp) (.Name x px) (sM 0):=aY (i:=0) hnd rfl (Or.inl hx) (.inr hx);refine wpAny_mono (hg _ s6 _ H6 v u (λσ' H'=>σ'=some v::bL js σ/\H'=H6) I6' r6 ⟨rfl,rfl⟩) (λ_ s7 q7=>?_) (λ_ _ f=>False.elim f);obtain ⟨σ7,H7,I7,e7,e8⟩:=q7;subst e7 e8;refine wpAny_mono (ht s3 _ fp _ s7 _ H7 _ I7 (step v H7 y6)) (λok s8 q8=>?_) (λ_ _ f=>False.elim f);obtain ⟨H8,I8,q8⟩:=q8
   have again:∀{s9:Shared} {σ9:St} {H9:Hp} {m':Nat},Inv (bo X scope cl (bN X x js) s3 (upd H2 s2.heap.objs.size (.lst [])) fp) ([]++qm fp s6.heap) (some v::bL js σ) H9 s9->m' < n->W (i+1) m' H9->
     ∃ m,m < n/\∃ i o H',Inv (bo X scope cl (bN X x js) s3 (upd H2 s2.heap.objs.size (.lst [])) fp) [] (o::bL js σ) H' s9/\tn i s9.heap/\(∀ b∈fp,H' b=none)/\W i m H':=λ{s9 σ9 H9 m'} I9 hm w9=>by
    refine ⟨m',hm,i+1,some v,H9,I9.unpinned,T.keep _ _ _ st6 λb hb o e=>(I9.pin (b,o) (List.mem_append_right _ (List.mem_append_right _ (fD hb e)))).1,λb hb=>?_,w9⟩;obtain ⟨o,e,d⟩:=T.obj _ _ st6 b hb;exact (I9.pin (b,o) (List.mem_append_right _ (List.mem_append_right _ (fD hb e)))).2.1
   cases ok with
   | false =>
    rw [if_neg Bool.false_ne_true] at q8 ⊢;obtain ⟨m',hm,w9⟩:=q8;exact again (σ9:=[]) I8 hm w9
   | true =>
    rw [if_pos rfl] at q8 ⊢;refine wpAny_mono (he s3 _ fp _ s8 _ H8 _ I8 q8) (λy s9 q9=>?_) (λ_ _ f=>False.elim f);obtain ⟨yv,H9,I9,r9,ys,hD,hl,m',hm,w9⟩:=q9;refine wpAny_mono (aW (X:=bo X scope cl (bN X x js) s3 (upd H2 s2.heap.objs.size (.lst [])) fp) _ s9 _ H9 (.ref s2.heap.objs.size) [yv] (.ref s2.heap.objs.size) [y] (λ_ H'=>H'=upd H9 s2.heap.objs.size (.lst (ys++[yv]))) I9 rfl (.cons r9 .nil) ⟨_,ys,yv,rfl,rfl,hD,hl,rfl⟩) (λ_ s10 q10=>?_) (λ_ _ f=>False.elim f);obtain ⟨_,H10,I10,_,e10⟩:=q10;subst e10;exact again (σ9:=[]) I10 hm w9
 exact codeAny_compStart_list loop (T.self _ 0 _ _ _ st4 loop)
theorem pe_comp (hc:X.calm=true) (hi:PI X (.Name x px) iter wi) (hk:scope.kind=.function) (hcell:∀ y∈scope.names,y.2≠.cell) (hnames:∀ y∈scope.names,y.2=.local->scope.names.lookup y.1=some .local) (hx:(relabel scope X.env).names.lookup x=some .local)
  (hclos:closureFor scope X.env=pure cl) (hcl1:∀ y c,cl.lookup y=some c->X.env.cells.lookup y=some c) (hcl2:∀ y,(y,NameKind.free)∈scope.names->∃ c,cl.lookup y=some c) (hjs:fh X scope js) (hnd:(bN X x js).Nodup)
  (ht:∀ s' H' fp,PIf (bo X scope cl (bN X x js) s' H' fp) ifs tc) (he:∀ s' H' fp,PE (bo X scope cl (bN X x js) s' H' fp) elt te)
  (hs:∀ x,foldedSetIterable iter X.env x=pure x:=by intro _;rfl):PE X (.ListComp elt [⟨.Name x px,iter,ifs,0⟩] scope pos) (iD wi tc te js):=by
 intro pins s σ H Q I h;rw [eval_ListComp];refine wpAny_comprehension_free (use:=none) rfl hs hclos hk hnames (sO hc hi hk hcell hx hcl1 hcl2 hjs hnd ht he I h λD C H' s' I' fC hC q=>?_);obtain ⟨m,hm⟩:=hC;refine ⟨m,hm,λh' sb=>?_⟩;obtain ⟨f0,f1,f2,f3,f4,f5⟩:=fC;exact ⟨.ref D,H',I'.turned (t':=s'.toks) (λb o hb e=>(sb.2 b hb).trans e) f0 f1 f3 f4 f5,rfl,q⟩
def uV (i:Nat) (te:TE):TS:=λD σ H=>te σ H λv H1=>D.nx (σ.set i (some v)) H1
theorem ps_setC {y:Str} {i:Nat} {py spos:Pos} (hN:X.N.Nodup) (hy:X.N[i]?=some y) (hyl:Loc X.env.scope y) (hyf:X.fn y=true\/X.env.scope.names.lookup y=some .local)
  (hsw:swapsWith (.ListComp elt [⟨.Name x px,iter,ifs,0⟩] scope pos) (some (.Name y py)) spos.line X.env=pure true)
  (hc:X.calm=true) (hi:PI X (.Name x px) iter wi) (hk:scope.kind=.function) (hcell:∀ y∈scope.names,y.2≠.cell) (hnames:∀ y∈scope.names,y.2=.local->scope.names.lookup y.1=some .local) (hx:(relabel scope X.env).names.lookup x=some .local)
  (hclos:closureFor scope X.env=pure cl) (hcl1:∀ y c,cl.lookup y=some c->X.env.cells.lookup y=some c) (hcl2:∀ y,(y,NameKind.free)∈scope.names->∃ c,cl.lookup y=some c) (hjs:fh X scope js) (hnd:(bN X x js).Nodup)
  (ht:∀ s' H' fp,PIf (bo X scope cl (bN X x js) s' H' fp) ifs tc) (he:∀ s' H' fp,PE (bo X scope cl (bN X x js) s' H' fp) elt te)
  (hs:∀ x,foldedSetIterable iter X.env x=pure x:=by intro _;rfl) :
  PS X (.Assign [.Name y py] (.ListComp elt [⟨.Name x px,iter,ifs,0⟩] scope pos) spos) (uV i (iD wi tc te js)):=by
 intro pins s σ H D I h;rw [exec_Assign_Name_used _ _ _ _ hsw];refine wpAny_bind (wpAny_standAt (wpAny_bind ?_));show wpAny _ _ (do let _ <- comprehension (.ListComp elt [⟨.Name x px,iter,ifs,0⟩] scope pos) scope X.env _ (newList []) false (eval iter X.env) (some (assign (.Name y py) X.env))) _ _ s
 refine wpAny_bind (wpAny_mono (wpAny_comprehension_free (use:=some (assign (.Name y py) X.env)) (Q:=λ_ s'=>SP X pins D .next s') rfl hs hclos hk hnames
  (sO hc hi hk hcell hx hcl1 hcl2 hjs hnd ht he I h λD' C H' s' I' fC hC q=>?_)) (λ_ s' hq=>wpAny_pure (wpAny_pure hq)) λ_ _ e=>e)
 obtain ⟨m,o,es,ep,ho,hd,hr⟩:=hC;obtain ⟨f0,f1,f2,f3,f4,f5⟩:=fC
 have Ip:Inv X (pins++[(C,o)]) σ H' s':=I'.pins_of λp hp=>(List.mem_append.mp hp).elim (λz=>I'.pin p (List.mem_append_right _ z)) λz=>by
  have e:p=(C,o):=by simpa using z
  subst e;exact ⟨ho,f0,f1,f2,λv z=>by rw [hd] at z;cases z⟩
 have hg:PG X (.Name y py) (sM i):=aY hN hy hyl hyf;refine thn (hg _ s' σ H' (.ref D') (.ref D') (λσ' H''=>σ'=σ.set i (some (.ref D'))/\H''=H') Ip rfl ⟨rfl,rfl⟩) λ_ s'' q''=>?_;obtain ⟨σ'',H'',I'',e1,e2⟩:=q'';subst e1 e2;have hp:=(I''.pin (C,o) (by simp)).1;refine ⟨m,⟨o,es,ep,hp,hd,hr⟩,λh' sb=>?_⟩;exact ⟨_,_,(I''.unpinned).turned (t':=s''.toks) (λb o hb e=>(sb.2 b hb).trans e) f0 f1 f3 f4 f5,q⟩
end
structure aD (K:W.Frag) (mg:Str->Option Value) (x:Str) (st:Stmt):Prop where
 ex:∃(f:Addr) (fd:FuncData),Fun K x x st f fd/\mg x=some (.ref f)
theorem aU {K:W.Frag} {h:Heap} {mg:Str->Option Value} {x:Str} {st:Stmt} {f:Addr} {oc kV doc pm cdv ct:Value} {od an:Option Addr} {osl:Array (Option Value)} (X:K.In h) (G:h.Ns mainGlobals mg)
  (a:PySem.W.nsIn K mainGlobals x=some (some (.ref f)))
  (l:K.lookup f=some ⟨oc,od,.func (PySem.W.fnOf x x (eZ st) (bu st) (ag st) .none kV doc pm an cdv ct),osl⟩)
  (c:PySem.W.codeIn K cdv x=true) (k:PySem.W.keepIn K (.ref f)=true):aD K mg x st:=
 ⟨_,_,EE l c k,PySem.W.mg_of X G a⟩
structure Def (P:Program) (w:World) (K:W.Frag) (mg:Str->Option Value) (base:Heap) (n:Nat) (x:Str) (ps:List Str) (sp:Sp):Prop where
 ex:∃(f:Addr) (fd:FuncData),mR P w K mg base CX0 n f fd ps sp/\Binds K fd ps []/\PySem.W.keepIn K (.ref f)=true/\mg x=some (.ref f)
variable {P:Program} {w:World} {K:W.Frag} {mg:Str->Option Value} {base:Heap}
theorem aR {x:Str} {st:Stmt} {N ps:List Str} {k:Nat} {sp:Sp} (T:aD K mg x st) (S:az N ps (ag st))
  (bd:∀(kV doc pm:Value) (an:Option Addr) (cdv ct:Value) (us:List Value),us.length=ps.length->bindArgs (PySem.W.fnOf x x (eZ st) (bu st) (ag st) .none kV doc pm an cdv ct) ⟨us,[]⟩=pure (ps.zip us))
  (len:∀ vs H Q E,sp vs H Q E->vs.length=ps.length)
  (body:∀(f:Addr) (cdv:Value) (A:Around) (outer:List Env) (s:Shared) (H:Hp) (vs:List V) (Q:VK) (E:XK),dq k (A.deeper (envOfC x (ag st) s.heap.objs.size f cdv))->sp vs H Q E->
   ∃ t,PSs (cS CX0 P w K mg base N x (ag st) f cdv A outer s H E).nox (bu st) t/\t {nx:=λ_ H'=>Q .non H',rt:=Q} (start N vs) H) :
  Def P w K mg base (k+1) x ps sp:=by
 obtain ⟨f,fd,F,m⟩:=T.ex;exact ⟨f,fd,F.ok S len (body f),F.binds bd,F.kp,m⟩
section
variable {X:Cx} {n:Nat} {x:Str} {ps:List Str} {sp:Sp} {e a b:Expr} {es:List Expr} {t:TA} {ta tb:TE} {p pos:Pos}
theorem aE (D:Def X.prog X.w X.K X.mg X.base n x ps sp) (hr:dq n X.A) (hg:Gl X x) (ha:PA X (e::es) t) (hdb:(x == ("__debug__":Str))=false:=by decide)
  (he:starEach (e::es) X.env=(false,eval e X.env)::starEach es X.env:=by rfl) (hpl:(backTo pos (starEach es X.env)).any (·.1)=false:=by rfl) :
  PE X (.Call (.Name x p) (e::es) [] pos) (pH sp [] E0 t):=by
 obtain ⟨f,fd,F,b,kp,m⟩:=D.ex;exact tZ F hr hg m kp b .nil vQ ha hdb he hpl
theorem cf:OpR X (binaryOp .Mult) (rI IntMulOk λi j=>.int (i*j)):=opI λ_ _ _ _ _ _ _ hc q=>PyProof.Rows.mul_int q hc
def CDivK (_ j:Int):Prop:=j≠0/\j.natAbs.log2 < 9000
theorem vS:OpR X (binaryOp .FloorDiv) (rI CDivK λi j=>.int (i.fdiv j)):=opI λ_ _ _ _ _ _ _ hc q=>PyProof.Rows.floordiv_int hc.1 q (.inl (PyProof.noPylong_of_log2 hc.2))
theorem jR:fq X (.builtin "isinstance") (λxs H Q=>∃(y:V) (c:V) (cv t:Value) (k:Bool),xs=[y,c]/\(∀ u,RelV c u->u=cv)/\jd X.K H y t/\PySem.W.kitOne X.K t cv=some k/\Q (.bl k) H):=by
 intro pins s σ H xs us Q I r h;obtain ⟨y,c,cv,t,k,rfl,hc,ty,kt,q⟩:=h;obtain ⟨u,w',rfl,r1,r2⟩:=vals2 r;have e:=hc _ r2;subst e;exact Bs I r1 ty kt λtk=>⟨.bl k,H,I.tok tk,rfl,q⟩
end
open PySem.Calls PySem.W PySem.Builtin.Getset_descriptor
section
variable {prog:Program} {w:World} {A:Around} {E:Value->Shared->Prop} {s:Shared} {K:Frag} {x D:Addr}
end
section
variable {P:Program} {w:World} {H:Hp} {h:Heap} {a:Addr} {o:HO}
theorem cq.there (x:cq P w H h a o):∃ ob,h.get? a=some ob:=by
 cases o with
 | lst xs=>obtain ⟨_,_,_,_,e⟩:=x;exact ⟨_,e⟩
 | tup xs=>obtain ⟨_,_,_,⟨_,e,_⟩⟩:=x;exact ⟨_,e⟩
 | dK kvs=>obtain ⟨_,_,_,_,o,_,_,e,_⟩:=x;exact ⟨_,e⟩
 | dT kvs=>obtain ⟨_,_,_,_,o,_,_,e,_⟩:=x;exact ⟨_,e⟩
 | set S n=>obtain ⟨o,_,_,_,e,_⟩:=x;exact ⟨_,e⟩
 | ins C dx fs=>obtain ⟨_,_,_,e,_⟩:=x;exact ⟨_,e⟩
 | own y=>exact x
 | xd fs=>obtain ⟨_,⟨_,_,_,e,_⟩,_⟩:=x;exact ⟨_,e⟩
 | rng lo hi=>obtain ⟨_,_,_,e⟩:=x;exact ⟨_,e⟩
 | frz ob u=>obtain ⟨e,_⟩:=x;exact ⟨_,e⟩
 | tbl ps=>exact ⟨_,(show h.get? a=some _ from x)⟩
 | met f y=>exact ⟨_,(show h.get? a=some _ from x)⟩
 | ext φ=>obtain ⟨_,e,_⟩:=x;exact e
end
def Flies (P:Program) (w:World) (outer:List Env) (H:Hp) (s:Shared) (ea:Addr) (C:Value) (H':Hp) (s':Shared):Prop:=∃(t:Addr) (B:Heap),
 s'.os=s.os/\AllBare s'.gens/\Un (frs outer) [] H H' s.heap s'.heap/\HOk P w H' s'.heap/\Heap.FlyingW B outer ea C (.ref t) s'.heap/\H' ea=none/\s.heap.get? ea=none/\
 ∀ b o,s'.heap.get? b=some o->b ∉ frs outer->((∃ u,H' b=some u)\/∃ o',s.heap.get? b=some o')->B.get? b=some o
def CXr (P:Program) (w:World):CXT:=λouter H s E e s'=>∃(ea:Addr) (C:Value) (H':Hp),e=.ref ea/\Flies P w outer H s ea C H' s'/\E C none H'
theorem passr {P:Program} {w:World} {X:Cx}:Passes (CXr P w) X E0:=λ_ _ _ _ _ _ _ ⟨_,_,_,_,_,h⟩=>h.elim
section
variable {P:Program} {w:World} {K:W.Frag} {mg:Str->Option Value} {base:Heap} {N:List Str} {qual:Str} {scope:Scope} {f:Addr} {cd:Value} {A:Around} {outer:List Env} {s:Shared} {H:Hp} {E:XK}
theorem tT {pins:List (Addr×Obj)} {σ:St} {H1:Hp} {s₂:Shared} {h':Heap} {ea C:Addr} {vs:List Value} (I:Inv (cS (CXr P w) P w K mg base N qual scope f cd A outer s H E) pins σ H1 s₂)
  (hx:Heap.MadeExcOf s₂.heap h' ea (.ref C) vs) (q:E (.ref C) none H1):(cS (CXr P w) P w K mg base N qual scope f cd A outer s H E).xe (.ref ea) {s₂ with heap:=h' }:=by
 have hin:∀ en∈(envOfC qual scope s.heap.objs.size f cd::outer),∀ b,en.frame=some b->b∈frs (envOfC qual scope s.heap.objs.size f cd::outer):=λen he b hb=>List.mem_filterMap.mpr ⟨en,he,hb⟩;show wpAny (model P w) (A.deeper (envOfC qual scope s.heap.objs.size f cd)) (leaving (envOfC qual scope s.heap.objs.size f cd) (.ref ea)) _ _ _;refine wpAny_leaves_madeW (base:=PySem.W.hideAll s₂.heap (frs (envOfC qual scope s.heap.objs.size f cd::outer))) (h:=s₂.heap) I.ok.frames rfl (λb o z=>PySem.W.of_hideAll _ z) (PySem.W.funFrames_hide I.stack hin) hx λh'' t fl _ _ up=>?_;have keepB:∀ b o,s₂.heap.get? b=some o->b ∉ frs (envOfC qual scope s.heap.objs.size f cd::outer)->h''.get? b=some o:=λb o e n=>fl.1 b o (PySem.W.hideAll_get _ e n)
 have notF:∀ b o,s.heap.get? b=some o->b ∉ frs outer->b ∉ frs (envOfC qual scope s.heap.objs.size f cd::outer):=λb o e n z =>
  (List.mem_cons.mp (I.stkSub b z)).elim (λz=>absurd (Nat.lt_of_lt_of_le (Heap.lt_size e) I.ok.above) (by rw [z];exact Nat.lt_irrefl _)) n
 have trk:∀ b u,H1 b=some u->b ∉ frs (envOfC qual scope s.heap.objs.size f cd::outer):=λb u e z=>by
  have:=I.stkFree b z;rw [e] at this;cases this
 have ntrk:∀ b,s₂.heap.get? b=none->H1 b=none:=λb e=>by
  cases z:H1 b with
  | none=>rfl
  | some u=>obtain ⟨ob,e2⟩:=(I.hok b u z).there;rw [e] at e2;cases e2
 have hthere:∀ b o,s.heap.get? b=some o->∃ o',s₂.heap.get? b=some o':=λb o e=>I.base.there b o e (λz=>nomatch z);refine ⟨ea,.ref C,H1,rfl,⟨t,_,I.os,I.bare,⟨?_,?_,λb o e n z=>I.base.free b o e n z,?_,I.base.tups,I.base.frzs,I.base.tbls⟩,?_,fl,ntrk _ hx.new,?_,?_⟩,q⟩
 ·exact λb o e n hb z=>keepB b o (I.base.keep b o e n hb z) (notF b o e hb)
 ·intro b o e n hb z;obtain ⟨sl,e1⟩:=I.base.slot b o e n hb z;obtain ⟨_,o',e2,nf⟩:=I.ok.funs.mem hb;have e3:some o'=some o:=e2.symm.trans e;cases e3
  obtain ⟨sl',e4⟩:=up b _ (hx.keeps b _ e1) nf;exact ⟨sl',e4⟩
 ·intro b o e z
  by_cases hb:b∈frs outer
  ·obtain ⟨sl,e1⟩:=I.base.slot b o e (I.ok.frf b hb) hb z;obtain ⟨_,o',e2,nf⟩:=I.ok.funs.mem hb;have e3:some o'=some o:=e2.symm.trans e;cases e3
   obtain ⟨sl',e4⟩:=up b _ (hx.keeps b _ e1) nf;exact ⟨_,e4⟩
  ·obtain ⟨o',e1⟩:=hthere b o e;exact ⟨o',keepB b o' e1 (notF b o e hb)⟩
 ·intro b u e;exact (I.hok b u e).stay (λc v hc e'=>keepB c v e' (hc.elim (λz=>by subst z;exact trk _ _ e) λz=>trk _ _ z)) (λ_ z=>z) λ_ _ z=>z
 ·cases z:s.heap.get? ea with
  | none=>rfl
  | some o=>obtain ⟨o',e⟩:=hthere ea o z;rw [hx.new] at e;cases e
 ·intro b o e n hb
  have key:∃ o2,s₂.heap.get? b=some o2/\b ∉ frs (envOfC qual scope s.heap.objs.size f cd::outer):=by
   rcases hb with ⟨u,hu⟩ | ⟨o',ho⟩
   ·obtain ⟨ob,e2⟩:=(I.hok b u hu).there;exact ⟨ob,e2,trk b u hu⟩
   ·obtain ⟨o2,e2⟩:=hthere b o' ho;exact ⟨o2,e2,notF b o' ho n⟩
  obtain ⟨o2,e2,n2⟩:=key;have e3:=keepB b o2 e2 n2;rw [e] at e3;cases e3
  exact PySem.W.hideAll_get _ e2 n2
end
abbrev bmV:List Value:=[.type "ValueError",.type "Exception",.type "BaseException",.type "object"]
theorem exc_obj {K:Frag} {h:Heap} {C:Addr} {bmB:List Value} {newId:String} (X:K.In h) (q:excIn K C bmB newId=true) :
  ∃ bm N nm qn bs hd sn sub ab col dd k0 k1 k2 k3 k5 mN,h.get? C=some (excClassObj nm qn C N bs bm hd sn sub ab col dd k0 k1 k2 k3 k5 newId)/\h.Ns N mN/\mN "__init__"=none/\OwnTail h bmB bm:=by
 unfold excIn at q;split at q
 ·rename_i d0 c0 sl0 lk;split at q
  ·rename_i C1 bm1 j0 j1 j2 j3 n1 j5 em es;simp only [Bool.not_eq_true',beq_iff_eq,Bool.and_eq_true] at q;obtain ⟨⟨⟨⟨⟨e1,e2⟩,nodel⟩,tl⟩,ok⟩,ni⟩:=q;subst e1 e2;obtain ⟨nm1,bs1,mro1,ns1,qn1,hd1,sn1,sub1,ab1,col1,del1⟩:=c0;dsimp only at em nodel ok ni;subst em nodel
   have esl:sl0=#[j0,j1,j2,j3,some (.builtin n1),j5]:=by
    obtain ⟨l0⟩:=sl0;simp only at es;rw [es]
   subst esl;exact ⟨_,_,_,_,_,_,_,_,_,_,_,_,_,_,_,_,_,X _ _ lk,.of_isNs (isNs_of_in X ok),nsMap_none_of_in X ok ni,tail_of_in X tl⟩
  ·cases q
 ·cases q
def tRaise (C:Addr) (E:XK) (ta:TA):TS:=λ_ σ H=>ta σ H λvs H1=>vs.length<=sizeLine/\E (.ref C) none H1
section
variable {P:Program} {w:World} {K:Frag} {mg:Str->Option Value} {base:Heap} {N:List Str} {qual:Str} {scope:Scope} {f:Addr} {cd:Value} {A:Around} {outer:List Env} {s:Shared} {H:Hp} {E:XK}
theorem Dx {x:Str} {C:Addr} {e₀:Expr} {es:List Expr} {ta:TA} {np cpos pos:Pos} (hg:Gl (cS (CXr P w) P w K mg base N qual scope f cd A outer s H E) x) (hm:mg x=some (.ref C)) (q:excIn K C bmV "ValueError.__new__"=true)
  (ha:PA (cS (CXr P w) P w K mg base N qual scope f cd A outer s H E) (e₀::es) ta) (hdb:(x == ("__debug__":Str))=false:=by decide)
  (he:starEach (e₀::es) (envOfC qual scope s.heap.objs.size f cd)=(false,eval e₀ (envOfC qual scope s.heap.objs.size f cd))::starEach es (envOfC qual scope s.heap.objs.size f cd):=by rfl)
  (hpl:(backTo cpos (starEach (e₀::es) (envOfC qual scope s.heap.objs.size f cd))).any (·.1)=false:=by rfl) :
  PS (cS (CXr P w) P w K mg base N qual scope f cd A outer s H E) (.Raise (some (.Call (.Name x np) (e₀::es) [] cpos)) none pos) (tRaise C E ta):=by
 intro pins s₁ σ H1 D I h;obtain ⟨bm,N1,nm,qn,bs,hd,sn,sub,ab,col,dd,k0,k1,k2,k3,k5,mN,gC,nN,ni,T⟩:=exc_obj I.mod.kin q
 refine wpAny_Raise_call_subT (C:=C) (nm:=nm) (q:=qn) (N:=N1) (bs:=bs) (bm:=bm) (hdct:=hd) (sn:=sn) (sub:=sub) (ab:=ab) (col:=col) (dd:=dd) (k0:=k0) (k1:=k1) (k2:=k2) (k3:=k3) (k5:=k5) F.excBase_ValueError (mN:=mN)
  (T.hasType F.excBase_ValueError.hasBase) (I.ok.hd rfl) hpl ni (ky I hg hm ⟨rfl,?_⟩ hdb)
 have hA:=ha cpos pins s₁ σ H1 _ I h;have he':starEach (e₀::es) (cS (CXr P w) P w K mg base N qual scope f cd A outer s H E).env=(false,eval e₀ (cS (CXr P w) P w K mg base N qual scope f cd A outer s H E).env)::starEach es (cS (CXr P w) P w K mg base N qual scope f cd A outer s H E).env:=he;rw [he'] at hA ⊢;refine Calls.evalArgs_plain (thn hA λus s₂ z=>?_);obtain ⟨vs,H2,I2,r,z,q2⟩:=z;exact ⟨rfl,by rw [<- r.length];exact z,I2.bk _ _ gC,nN.keeps I2.bk,T.keeps I2.bk,λh' e hx=>tT I2 hx q2⟩
end
structure xb (P:Program) (w:World) (K:Frag) (mg:Str->Option Value) (base:Heap) (n:Nat) (x:Str) (ps:List Str) (sp:Sp):Prop where
 ex:∃(f:Addr) (fd:FuncData),mR P w K mg base (CXr P w) n f fd ps sp/\Binds K fd ps []/\keepIn K (.ref f)=true/\mg x=some (.ref f)
theorem zX {P:Program} {w:World} {K:Frag} {mg:Str->Option Value} {base:Heap} {x:Str} {st:Stmt} {N ps:List Str} {k:Nat} {sp:Sp} (T:aD K mg x st) (S:az N ps (ag st))
  (bd:∀(kV doc pm:Value) (an:Option Addr) (cdv ct:Value) (us:List Value),us.length=ps.length->bindArgs (fnOf x x (eZ st) (bu st) (ag st) .none kV doc pm an cdv ct) ⟨us,[]⟩=pure (ps.zip us))
  (len:∀ vs H Q E,sp vs H Q E->vs.length=ps.length)
  (body:∀(f:Addr) (cdv:Value) (A:Around) (outer:List Env) (s:Shared) (H:Hp) (vs:List V) (Q:VK) (E:XK),dq k (A.deeper (envOfC x (ag st) s.heap.objs.size f cdv))->sp vs H Q E->
   ∃ t,PSs (cS (CXr P w) P w K mg base N x (ag st) f cdv A outer s H E) (bu st) t/\t {nx:=λ_ H'=>Q .non H',rt:=Q} (start N vs) H) :
  xb P w K mg base (k+1) x ps sp:=by
 obtain ⟨f,fd,F,m⟩:=T.ex;obtain ⟨oc,od,kV,doc,pm,an,cdv,ct,osl,rfl,lk,hcd⟩:=id F.ex;exact ⟨f,_,fn_of lk hcd S len λA outer s H vs Q E hr h=>body f cdv A outer s H vs Q E hr h,F.binds bd,F.kp,m⟩
theorem zB {X:Cx} {n:Nat} {x:Str} {ps:List Str} {sp:Sp} {e:Expr} {es:List Expr} {t:TA} {p pos:Pos} (D:xb X.prog X.w X.K X.mg X.base n x ps sp) (hr:dq n X.A) (hg:Gl X x) (ha:PA X (e::es) t)
  (hdb:(x == ("__debug__":Str))=false:=by decide) (he:starEach (e::es) X.env=(false,eval e X.env)::starEach es X.env:=by rfl) (hpl:(backTo pos (starEach es X.env)).any (·.1)=false:=by rfl) :
  PE X (.Call (.Name x p) (e::es) [] pos) (pH sp [] E0 t):=by
 obtain ⟨f,fd,F,b,kp,m⟩:=D.ex;exact tZ F hr hg m kp b .nil passr ha hdb he hpl
structure xo (K:Frag) (D:Addr):Prop where
 cl:∃ cd,clsIn K D=some cd
 ty:typeIn K (.ref D)=some (.type "type")
 hb:mroIn K D (.type "BaseException")=some true
section
variable {X:Cx} {pins:List (Addr×Obj)} {σ:St} {H H':Hp} {s s':Shared}
theorem Inv.caught {ea:Addr} {C:Value} (I:Inv X pins σ H s) {t:Addr} {B:Heap} {h6:Heap} {tk:Nat} (ho:s'.os=s.os) (hg:AllBare s'.gens) (un:Un (frs X.stack) [] H H' s.heap s'.heap) (hok:HOk X.prog X.w H' s'.heap)
  (cov:∀ b o,s'.heap.get? b=some o->b ∉ frs X.stack->((∃ u,H' b=some u)\/∃ o',s.heap.get? b=some o')->B.get? b=some o) (st:B.StaysIn h6) (up:s'.heap.UpToSlots h6):Inv X pins σ H' {s' with heap:=h6,toks:=tk}:=by
 have fr:=I.stack
 have frf:∀ b u,H' b=some u->b ∉ frs X.stack:=λb u e z=>by
  obtain ⟨_,o,e2,_⟩:=fr.mem z;have q:=un.free b o e2 (I.stkFree b z) (by simp);rw [e] at q;cases q
 have slotK:∀ b o,s.heap.get? b=some o->b∈frs X.stack->∃ sl,h6.get? b=some {o with slots:=sl}:=λb o e hb=>by
  obtain ⟨_,o',e2,nf⟩:=fr.mem hb;have e3:some o'=some o:=e2.symm.trans e;cases e3
  obtain ⟨sl,e4⟩:=un.slot b _ e (I.stkFree b hb) hb (by simp);obtain ⟨sl',e5⟩:=up b _ e4 nf;exact ⟨sl',e5⟩
 have u6:Un (frs X.stack) [] H H' s.heap h6:=by
  refine ⟨λb o e n hb hx=>st b o (cov b o (un.keep b o e n hb hx) hb (.inr ⟨o,e⟩)),λb o e n hb hx=>slotK b o e hb,un.free,λb o e hx=>?_,un.tups,un.frzs,un.tbls⟩
  by_cases hb:b∈frs X.stack
  ·obtain ⟨sl,z⟩:=slotK b o e hb;exact ⟨_,z⟩
  ·obtain ⟨o',z⟩:=un.there b o e hx;exact ⟨o',st b o' (cov b o' z hb (.inr ⟨o,e⟩))⟩
 have k6:HOk X.prog X.w H' h6:=λb u e=>(hok b u e).stay (λc z hc q=>by
  have tr:∃ v,H' c=some v:=hc.elim (λk=>⟨u,by rw [k];exact e⟩) λk=>⟨_,k⟩;obtain ⟨v,hv⟩:=tr;exact st c z (cov c z q (frf c v hv) (.inl ⟨v,hv⟩))) (λ_ z=>z) λ_ _ z=>z
 exact I.call' (s':={s' with heap:=h6,toks:=tk}) (ch:=[]) ho u6 k6 hg λb hb=>nomatch hb
end
section
variable {X:Cx}
theorem uH {env:Env}:∀(names:List (Str×NameKind)) (acc:List (Str×Addr)),(∀ y,(y,NameKind.free)∈names->∃ c,env.cells.lookup y=some c)->
  ∃ cl:List (Str×Addr),(forIn names acc (λx r=>match x with
    | (name,kind)=>if (kind == NameKind.free)=true then do let a <- cellOf env name;pure (ForInStep.yield ((name,a)::r)) else pure (ForInStep.yield r)):Sem _)=pure cl/\
   (∀ y c,cl.lookup y=some c->acc.lookup y=some c\/env.cells.lookup y=some c)/\(∀ y,(y,NameKind.free)∈names->∃ c,cl.lookup y=some c)/\∀ y,(∃ c,acc.lookup y=some c)->∃ c,cl.lookup y=some c
 | [],acc,_=>⟨acc,rfl,λ_ _ h=>.inl h,(λ_ h=>nomatch h),λ_ h=>h⟩
 | (nm,kd)::r,acc,h=>by
  by_cases hk:kd=.free
  ·subst hk;obtain ⟨c,hc⟩:=h nm List.mem_cons_self;obtain ⟨cl,e,p1,p2,p3⟩:=uH r ((nm,c)::acc) λy hy=>h y (List.mem_cons_of_mem _ hy);refine ⟨cl,?_,λy d hd=>?_,λy hy=>?_,λy hy=>?_⟩
   ·rw [List.forIn_cons];have z:cellOf env nm=pure c:=by unfold cellOf;rw [hc]
    simp only [z,beq_self_eq_true,if_true];exact e
   ·rcases p1 y d hd with q | q
    ·rw [List.lookup_cons] at q;cases hy:y == nm with
     | true =>
      rw [hy] at q;have e1:=beq_iff_eq.mp hy;subst e1;cases q
      exact .inr hc
     | false=>rw [hy] at q;exact .inl q
    ·exact .inr q
   ·rcases List.mem_cons.mp hy with q | q
    ·cases q
     exact p3 nm ⟨c,by rw [List.lookup_cons,beq_self_eq_true]⟩
    ·exact p2 y q
   ·obtain ⟨d,hd⟩:=hy;refine p3 y ?_;rw [List.lookup_cons];cases y == nm with
    | true=>exact ⟨c,rfl⟩
    | false=>exact ⟨d,hd⟩
  ·obtain ⟨cl,e,p1,p2,p3⟩:=uH r acc λy hy=>h y (List.mem_cons_of_mem _ hy);refine ⟨cl,?_,p1,λy hy=>?_,p3⟩
   ·rw [List.forIn_cons];have z:(kd == NameKind.free)=false:=by simpa using hk
    simp only [z,Bool.false_eq_true,if_false];exact e
   ·rcases List.mem_cons.mp hy with q | q
    ·cases q;exact absurd rfl hk
    ·exact p2 y q
theorem uC {scope:Scope} {env:Env} (h:∀ y,(y,NameKind.free)∈scope.names->∃ c,env.cells.lookup y=some c) :
  ∃ cl,closureFor scope env=pure cl/\(∀ y c,cl.lookup y=some c->env.cells.lookup y=some c)/\∀ y,(y,NameKind.free)∈scope.names->∃ c,cl.lookup y=some c:=by
 obtain ⟨cl,e,p1,p2,_⟩:=uH (env:=env) scope.names [] h;refine ⟨cl,?_,λy c hc=>(p1 y c hc).elim (λz=>by cases z) λz=>z,p2⟩;unfold closureFor;show (forIn scope.names [] _ >>= λs=>pure s)=pure cl;rw [bind_pure];exact e
theorem pw {scope:Scope} {js:List Nat} {pins:List (Addr×Obj)} {σ:St} {H:Hp} {s:Shared} (I:Inv X pins σ H s) (hf:∀ y,(y,NameKind.free)∈scope.names->X.env.kindOf y=some .cell\/X.env.kindOf y=some .free) :
  ∀ y,(y,NameKind.free)∈scope.names->∃ c,X.env.cells.lookup y=some c:=λy hy=>I.ok.has y (hf y hy)
variable {elt iter:Expr} {x:Str} {px pos:Pos} {ifs:List Expr} {scope:Scope} {wi:TI} {tc:TT} {te:TE} {js:List Nat}
theorem fV (hc:X.calm=true) (hi:PI X (.Name x px) iter wi) (hk:scope.kind=.function) (hcell:∀ y∈scope.names,y.2≠.cell) (hnames:∀ y∈scope.names,y.2=.local->scope.names.lookup y.1=some .local) (hx:(relabel scope X.env).names.lookup x=some .local)
  (hf:∀ p∈scope.names,p.2=.free->X.env.kindOf p.1=some .cell\/X.env.kindOf p.1=some .free) (hjs:fh X scope js) (hnd:(bN X x js).Nodup)
  (ht:∀ cl s' H' fp,PIf (bo X scope cl (bN X x js) s' H' fp) ifs tc) (he:∀ cl s' H' fp,PE (bo X scope cl (bN X x js) s' H' fp) elt te)
  (hs:∀ x,foldedSetIterable iter X.env x=pure x:=by intro _;rfl):PE X (.ListComp elt [⟨.Name x px,iter,ifs,0⟩] scope pos) (iD wi tc te js):=by
 intro pins s σ H Q I h;obtain ⟨cl,e,p1,p2⟩:=uC (pw (js:=js) I λy hy=>hf (y,.free) hy rfl);exact pe_comp hc hi hk hcell hnames hx e p1 p2 hjs hnd (ht cl) (he cl) hs pins s σ H Q I h
theorem oU {y:Str} {i:Nat} {py spos:Pos} (hN:X.N.Nodup) (hy:X.N[i]?=some y) (hyl:Loc X.env.scope y) (hyf:X.fn y=true\/X.env.scope.names.lookup y=some .local)
  (hsw:swapsWith (.ListComp elt [⟨.Name x px,iter,ifs,0⟩] scope pos) (some (.Name y py)) spos.line X.env=pure true)
  (hc:X.calm=true) (hi:PI X (.Name x px) iter wi) (hk:scope.kind=.function) (hcell:∀ y∈scope.names,y.2≠.cell) (hnames:∀ y∈scope.names,y.2=.local->scope.names.lookup y.1=some .local) (hx:(relabel scope X.env).names.lookup x=some .local)
  (hf:∀ p∈scope.names,p.2=.free->X.env.kindOf p.1=some .cell\/X.env.kindOf p.1=some .free) (hjs:fh X scope js) (hnd:(bN X x js).Nodup)
  (ht:∀ cl s' H' fp,PIf (bo X scope cl (bN X x js) s' H' fp) ifs tc) (he:∀ cl s' H' fp,PE (bo X scope cl (bN X x js) s' H' fp) elt te)
  (hs:∀ x,foldedSetIterable iter X.env x=pure x:=by intro _;rfl) :
  PS X (.Assign [.Name y py] (.ListComp elt [⟨.Name x px,iter,ifs,0⟩] scope pos) spos) (uV i (iD wi tc te js)):=by
 intro pins s σ H D I h;obtain ⟨cl,e,p1,p2⟩:=uC (pw (js:=js) I λy hy=>hf (y,.free) hy rfl);exact ps_setC hN hy hyl hyf hsw hc hi hk hcell hnames hx e p1 p2 hjs hnd (ht cl) (he cl) hs pins s σ H D I h
end
theorem pA:∀{ns:List Int} {n:Int},n∈ns->WData.weight (.int n)<=WData.weightAll (ns.map WData.int)
 | [],_,h=>nomatch h
 | m::r,n,h=>by
  show _<=WData.weight (.int m)+1+WData.weightAll (r.map WData.int);rcases List.mem_cons.mp h with e | e
  ·subst e;omega
  ·have:=pA (ns:=r) e;omega
theorem wQ (n:Int):Builtin.Int.intBits n=WData.weight (.int n):=by
 show _=if n == 0 then 0 else n.natAbs.log2+1
 unfold Builtin.Int.intBits
 by_cases h:n=0
 ·subst h;rfl
 ·simp [h]
theorem vp {ns:List Int} (h:WData.layableAll [.list (ns.map .int)]=true):∀ n∈ns,Builtin.Int.intBits n<=1048576:=λn hn=>by
 have h1:WData.layable (.list (ns.map .int))=true:=by
  simpa [WData.layableAll] using h
 have h2:WData.weight (.list (ns.map .int))<=2 ^ 20:=by
  unfold WData.layable at h1;rw [Bool.and_eq_true,Bool.and_eq_true] at h1;exact of_decide_eq_true h1.2
 have h3:WData.weightAll (ns.map WData.int)<=2 ^ 20:=h2;have h4:=pA hn;rw [wQ];omega
theorem Ak {l:OpenLaw} {n k:Nat} {q:Program} {loose:List Str} {XP:(Str->Option Value)->Heap->Prop} {YP:World->Heap->Prop} {d:DefRec} {K:Params->Frag} {CX:CXT} {sp:Frag->Sp} {x:Str}
  (hn:l.most=some n) (hn2:n<=sizeLine) (hdf:d.params.defaults=[]) (hr:dq k callerA) (hY:∀(w:World) (h:Heap),YP w h->(K w.params).In h)
  (F:∀(w:World) (mg:Str->Option Value) (fa:Addr) (h:Heap),(K w.params).In h->h.Ns mainGlobals mg->mg d.name=some (.ref fa)->
   ∃ fd:FuncData,(∀(s:Shared) (u:Value),BindsTo s fd ⟨[u],[]⟩ [(x,u)])/\∀ base:Heap,(K w.params).In base->base.Ns mainGlobals mg->mR l.prog w (K w.params) mg base CX k fa fd [x] (sp (K w.params)))
  (hsp:∀(K:Frag) (H:Hp) (a:Addr) (ns:List Int),ns.length<=n->(∀ m∈ns,Builtin.Int.intBits m<=1048576)->Only H->SqL K H a (ns.map V.int)->sp K [.ref a] H (λv _=>v=.bl true) λ_ _ _=>False)
  (hCX:∀(H:Hp) (s:Shared) (e:Value) (s':Shared),CX [] H s (λ_ _ _=>False) e s'->False):WalkO q loose XP YP l.row.toRowW d [] (λf vs=>PySem.call f vs):=by
 intro w s₀ s₁ mg mb G Y fa o pm cd doc dV kV ho hd hcd hD hmg hg args vals as hpre hlay hrd hwl hlo;obtain rfl:dV=.none:=Dflts.none hD hdf;obtain rfl:kV=.none:=Dflts.noKw hD;obtain ⟨a,vs,ns,rfl,rfl,hobj,hints,hlen⟩:=Att.Ay hn hpre hwl;have KX:=hY w _ Y;obtain ⟨fd,hb,hF⟩:=F w mg fa _ KX G.T.g hmg;have c:=El KX G.T.g G.T.b G.T.builtins G.T.nolimit hg hobj hints (Nat.le_trans hlen hn2) hr hF hb (λH hO hS=>hsp (K w.params) H a ns hlen (vp hlay) hO hS) λH e s'=>hCX H s₁ e s';refine enter_call (codeAny_mono c λr s' hq=>?_);obtain ⟨rfl,h2,h3,h4⟩:=hq;exact ⟨.inl ⟨.bool true,.bool true,[],rfl,λ_=>rfl,.bool true,Att.AI l _,λ_=>⟨List.Pairwise.nil,λ_ hm=>(nomatch hm)⟩⟩,h2,h3,h4⟩
section
variable {κ:Type} [DecidableEq κ]
def ee (kvs:List (κ×V)) (k:κ):Option V:=(kvs.find? λkv=>decide (kv.1=k)).map (·.2)
def putK (kvs:List (κ×V)) (k:κ) (v:V):List (κ×V):=
 if (kvs.any λkv=>decide (kv.1=k))=true then kvs.map (λkv=>if kv.1=k then (kv.1,v) else kv) else kvs++[(k,v)]
theorem dA {p:κ×V} {r:List (κ×V)} {k:κ} (e:p.1=k):ee (p::r) k=some p.2:=by simp [ee,List.find?_cons,e]
theorem dB {p:κ×V} {r:List (κ×V)} {k:κ} (e:¬p.1=k):ee (p::r) k=ee r k:=by simp [ee,List.find?_cons,e]
theorem jn (k:κ):∀ kvs:List (κ×V),(kvs.any λkv=>decide (kv.1=k))=(ee kvs k).isSome
 | []=>rfl
 | p::r=>by
  rw [List.any_cons]
  by_cases e:p.1=k
  ·simp only [dA e,decide_eq_true e,Bool.true_or,Option.isSome_some]
  ·rw [dB e,decide_eq_false e,Bool.false_or];exact jn k r
theorem uP (k j:κ) (y:V):∀ kvs:List (κ×V),ee (kvs.map λkv=>if kv.1=k then (kv.1,y) else kv) j=(ee kvs j).map λx=>if j=k then y else x
 | []=>rfl
 | p::r=>by
  have ih:=uP k j y r;rw [List.map_cons]
  by_cases h:p.1=k
  ·rw [if_pos h]
   by_cases e:p.1=j
   ·rw [dA (p:=(p.1,y)) e,dA e,Option.map_some,if_pos (e.symm.trans h)]
   ·rw [dB (p:=(p.1,y)) e,dB e,ih]
  ·rw [if_neg h]
   by_cases e:p.1=j
   ·rw [dA (p:=p) e,dA e,Option.map_some,if_neg (λz=>h (e.trans z))]
   ·rw [dB (p:=p) e,dB e,ih]
theorem rB (k j:κ) (y:V):∀ kvs:List (κ×V),ee kvs k=none->ee (kvs++[(k,y)]) j=if j=k then some y else ee kvs j
 | [],_=>by
  by_cases e:k=j
  ·rw [if_pos e.symm];exact dA (p:=(k,y)) e
  ·rw [if_neg (λz=>e z.symm)];exact dB (p:=(k,y)) e
 | p::r,hn=>by
  rw [List.cons_append];have hk:¬p.1=k:=λz=>by rw [dA z] at hn;cases hn
  rw [dB hk] at hn;have ih:=rB k j y r hn
  by_cases e:p.1=j
  ·rw [dA e,dA e,if_neg (λz=>hk (e.trans z))]
  ·rw [dB e,dB e,ih]
theorem iB (kvs:List (κ×V)) (k j:κ) (y:V):ee (putK kvs k y) j=if j=k then some y else ee kvs j:=by
 unfold putK
 by_cases a:(kvs.any λkv=>decide (kv.1=k))=true
 ·rw [if_pos a,uP];rw [jn] at a
  by_cases e:j=k
  ·obtain ⟨x,hx⟩:=Option.isSome_iff_exists.mp a;rw [if_pos e,e,hx,Option.map_some,if_pos rfl]
  ·rw [if_neg e];cases ee kvs j with
   | none=>rfl
   | some x=>rw [Option.map_some,if_neg e]
 ·rw [if_neg a];refine rB k j y kvs ?_;rw [jn] at a;cases q:ee kvs k with
  | none=>rfl
  | some x=>rw [q] at a;exact (a rfl).elim
theorem jI (kvs:List (κ×V)) (k:κ) (v:V):(putK kvs k v).length<=kvs.length+1:=by
 unfold putK;split
 ·rw [List.length_map];omega
 ·rw [List.length_append,List.length_cons,List.length_nil];omega
theorem Dt {kvs:List (κ×V)} {k:κ} (v:V) (h:ee kvs k=none):putK kvs k v=kvs++[(k,v)]:=by
 unfold putK;rw [jn,h];exact if_neg (by decide)
theorem kF.isSome_eq {o:Option V} {u:Option Value} (r:kF o u):o.isSome=u.isSome:=by
 cases o with
 | none=>cases u with
  | none=>rfl
  | some _=>exact (show False from r).elim
 | some _=>cases u with
  | none=>exact (show False from r).elim
  | some _=>rfl
theorem KV.val {kvs:List (κ×V)} {vs:List (κ×Value)} (r:KV kvs vs) (k:κ):kF (ee kvs k) (valueAt vs k):=by
 unfold KV at r
 induction r with
 | nil=>exact True.intro
 | @cons p q ps qs h t ih =>
  obtain ⟨h1,h2⟩:=h
  by_cases e:p.1=k
  ·have e':q.1=k:=h1.symm.trans e;have b:valueAt (q::qs) k=some q.2:=by simp [valueAt,List.find?_cons,e']
   rw [dA e,b];exact h2
  ·have e':¬q.1=k:=λz=>e (h1.trans z);have b:valueAt (q::qs) k=valueAt qs k:=by simp [valueAt,List.find?_cons,e']
   rw [dB e,b];exact ih
theorem KV.any {kvs:List (κ×V)} {vs:List (κ×Value)} (r:KV kvs vs) (k:κ):(kvs.any λkv=>decide (kv.1=k))=vs.any λkv=>decide (kv.1=k):=by
 unfold KV at r
 induction r with
 | nil=>rfl
 | cons h t ih=>rw [List.any_cons,List.any_cons,ih,h.1]
theorem KV.repl {kvs:List (κ×V)} {vs:List (κ×Value)} (r:KV kvs vs) (k:κ) {y:V} {u:Value} (ry:RelV y u) :
  KV (kvs.map λkv=>if kv.1=k then (kv.1,y) else kv) (vs.map λkv=>if kv.1=k then (kv.1,u) else kv):=by
 unfold KV at r ⊢
 induction r with
 | nil=>exact .nil
 | @cons p q ps qs h t ih =>
  rw [List.map_cons,List.map_cons];refine .cons ?_ ih;obtain ⟨h1,h2⟩:=h
  by_cases e:p.1=k
  ·rw [if_pos e,if_pos (h1.symm.trans e)];exact ⟨h1,ry⟩
  ·rw [if_neg e,if_neg (λz=>e (h1.trans z))];exact ⟨h1,h2⟩
theorem KV.put {kvs:List (κ×V)} {vs:List (κ×Value)} (r:KV kvs vs) (k:κ) {y:V} {u:Value} (ry:RelV y u):KV (putK kvs k y) (stored vs k u):=by
 unfold putK stored;rw [r.any k]
 by_cases e:(vs.any λkv=>decide (kv.1=k))=true
 ·rw [if_pos e,if_pos e];exact r.repl k ry
 ·rw [if_neg e,if_neg e];exact Paired.snoc r ⟨rfl,ry⟩
theorem KV.length {kvs:List (κ×V)} {vs:List (κ×Value)} (r:KV kvs vs):kvs.length=vs.length:=Paired.length r
end
theorem wB {P:Program} {w:World} {k:Key} {u:Value} (r:RelV (kV k) u):(cM P w).is k u=true:=by
 cases k with
 | inl i=>obtain ⟨t,e⟩:=(show ∃ t,u=Value.int i t from r);subst e;exact wz P w i t
 | inr x=>obtain ⟨t,e⟩:=(show ∃ t,u=Value.str x t from r);subst e;exact wy P w x t
theorem sG {P:Program} {w:World}:∀{ks:List Key} {us:List Value},Vals (ks.map kV) us->ItemsAre (cM P w) ks us
 | [],_,r=>by rw [List.map_nil] at r;cases r;exact .nil
 | k::ks,_,r=>by
  rw [List.map_cons] at r;cases r with
  | cons h t=>exact .cons (wB h) (sG t)
abbrev KT (H:Hp):List (List Key×V)->List (List Key×Addr×Value)->Prop:=Paired λp q=>p.1=q.1/\H q.2.1=some (.tup (p.1.map kV))/\RelV p.2 q.2.2
theorem KT.val {H:Hp} {kvs:List (List Key×V)} {xs:List (List Key×Addr×Value)} (r:KT H kvs xs) (k:List Key):kF (ee kvs k) ((atKey xs k).map (·.2)):=by
 induction r with
 | nil=>exact True.intro
 | @cons p q ps qs h t ih =>
  obtain ⟨h1,_,h2⟩:=h
  by_cases e:p.1=k
  ·have e':q.1=k:=h1.symm.trans e;have b:atKey (q::qs) k=some q.2:=by simp [atKey,List.find?_cons,e']
   rw [dA e,b];exact h2
  ·have e':¬q.1=k:=λz=>e (h1.trans z);have b:atKey (q::qs) k=atKey qs k:=by simp [atKey,List.find?_cons,e']
   rw [dB e,b];exact ih
theorem KT.repl {H:Hp} {kvs:List (List Key×V)} {xs:List (List Key×Addr×Value)} (r:KT H kvs xs) (k:List Key) {y:V} {u:Value} (ry:RelV y u) :
  KT H (kvs.map λkv=>if kv.1=k then (kv.1,y) else kv) (xs.map (putAt k u)):=by
 induction r with
 | nil=>exact .nil
 | @cons p q ps qs h t ih =>
  rw [List.map_cons,List.map_cons];refine .cons ?_ ih;obtain ⟨h1,h2,h3⟩:=h;unfold putAt
  by_cases e:p.1=k
  ·rw [if_pos e,if_pos (h1.symm.trans e)];exact ⟨h1,h2,ry⟩
  ·rw [if_neg e,if_neg (λz=>e (h1.trans z))];exact ⟨h1,h2,h3⟩
theorem KT.put {H:Hp} {kvs:List (List Key×V)} {xs:List (List Key×Addr×Value)} (r:KT H kvs xs) (k:List Key) {b:Addr} {y:V} {u:Value} (hb:H b=some (.tup (k.map kV))) (ry:RelV y u) :
  KT H (putK kvs k y) (storedH xs k b u):=by
 have e:(kvs.any λkv=>decide (kv.1=k))=(atKey xs k).isSome:=by
  rw [jn,(r.val k).isSome_eq,Option.isSome_map]
 unfold putK storedH;rw [e]
 by_cases q:(atKey xs k).isSome=true
 ·rw [if_pos q,if_pos q];exact r.repl k ry
 ·rw [if_neg q,if_neg q];exact Paired.snoc r ⟨rfl,hb,ry⟩
theorem KT.keeps {H H':Hp} {kvs:List (List Key×V)} {xs:List (List Key×Addr×Value)} (r:KT H kvs xs) (ht:∀ b ys,H b=some (.tup ys)->H' b=some (.tup ys)):KT H' kvs xs:=
 Paired.mapP r λ_ _ z=>⟨z.1,ht _ _ z.2.1,z.2.2⟩
section
variable {P:Program} {w:World} {H:Hp} {h:Heap} {a:Addr}
theorem rd_of {u:HO} (ok:HOk P w H h) (e:Rd H a u):cq P w H h a u:=e.ok ok
theorem zW {kvs:List (Key×V)} (ok:HOk P w H h) (e:Rd H a (.dK kvs)):kvs.length<=sizeLine/\(a == sysModules)=false/\∃ vs,KV kvs vs/\h.DictOf (cM P w) a vs:=
 show cq P w H h a (.dK kvs) from rd_of ok e
theorem dk_of {kvs:List (Key×V)} (ok:HOk P w H h) (e:H a=some (.dK kvs)):kvs.length<=sizeLine/\(a == sysModules)=false/\∃ vs,KV kvs vs/\h.DictOf (cM P w) a vs:=zW ok (.inl e)
theorem uo {ks:List Key} (ok:HOk P w H h) (e:H a=some (.tup (ks.map kV))):(tupleKind (cM P w)).is h ks a:=by
 obtain ⟨_,its,r,o,h1,h2,n,h3⟩:=(show cq P w H h a (.tup (ks.map kV)) from ok a _ e);exact ⟨o,its.toArray,n,h1,h2,h3,by simpa using sG r⟩
theorem zU {kvs:List (List Key×V)} (ok:HOk P w H h) (e:Rd H a (.dT kvs)):kvs.length<=sizeLine/\(a == sysModules)=false/\
  ∃ xs,KT H kvs xs/\h.DictOfH (tupleKind (cM P w)) a xs:=by
 obtain ⟨z,y,xs,r,o,es,ep,h1,h2,h3,h4,h5⟩:=(show cq P w H h a (.dT kvs) from rd_of ok e);refine ⟨z,y,xs,r,o,es,ep,h1,h2,h3,h4,λx hx=>?_,h5⟩
 have all:∀{l:List (List Key×V)} {m:List (List Key×Addr×Value)},KT H l m->∀ x∈m,(tupleKind (cM P w)).is h x.1 x.2.1:=by
  intro l m q
  induction q with
  | nil=>intro x hx;exact nomatch hx
  | @cons p q ps qs hq t ih =>
   intro x hx;rcases List.mem_cons.mp hx with e | hx
   ·subst e;exact uo ok (by rw [<- hq.1];exact hq.2.1)
   ·exact ih x hx
 exact all r x hx
theorem dt_of {kvs:List (List Key×V)} (ok:HOk P w H h) (e:H a=some (.dT kvs)):kvs.length<=sizeLine/\(a == sysModules)=false/\
  ∃ xs,KT H kvs xs/\h.DictOfH (tupleKind (cM P w)) a xs:=zU ok (.inl e)
end
def jk (H:Hp) (a:Addr) (y:V) (r:Option V):Prop:=
 (∃ kvs k,Rd H a (.dK kvs)/\y=kV k/\r=ee kvs k)\/∃ kvs k b,Rd H a (.dT kvs)/\y=.ref b/\H b=some (.tup (k.map kV))/\r=ee kvs k
def Fp (H:Hp) (a:Addr) (y v:V) (H':Hp):Prop:=
 (∃ kvs k,H a=some (.dK kvs)/\y=kV k/\kvs.length < sizeLine/\H'=upd H a (.dK (putK kvs k v)))\/
 ∃ kvs k b,H a=some (.dT kvs)/\y=.ref b/\H b=some (.tup (k.map kV))/\kvs.length < sizeLine/\H'=upd H a (.dT (putK kvs k v))
theorem jk.k {H:Hp} {a:Addr} {kvs:List (Key×V)} {k:Key} (e:H a=some (.dK kvs)):jk H a (kV k) (ee kvs k):=.inl ⟨kvs,k,.inl e,rfl,rfl⟩
theorem jk.t {H:Hp} {a b:Addr} {kvs:List (List Key×V)} {k:List Key} (e:H a=some (.dT kvs)) (eb:H b=some (.tup (k.map kV))):jk H a (.ref b) (ee kvs k):=.inr ⟨kvs,k,b,.inl e,rfl,eb,rfl⟩
theorem Fp.t {H:Hp} {a b:Addr} {kvs:List (List Key×V)} {k:List Key} {v:V} (e:H a=some (.dT kvs)) (eb:H b=some (.tup (k.map kV))) (hl:kvs.length < sizeLine) :
  Fp H a (.ref b) v (upd H a (.dT (putK kvs k v))):=.inr ⟨kvs,k,b,e,rfl,eb,hl,rfl⟩
section
variable {X:Cx} {pins:List (Addr×Obj)} {σ:St} {H:Hp} {s:Shared} {a:Addr} {y v:V} {u r:Value} {o:Option V} {A:Around} {E:Value->Shared->Prop}
theorem Inv.big (I:Inv X pins σ H s):sysModules < s.heap.objs.size:=by
 have h:mainGlobals < s.heap.objs.size:=(I.mod.glob.keeps I.bk).lt;exact Nat.lt_trans (by decide) h
theorem BA {Q:Value->Shared->Prop} (hu:A.units+1 < cLine) (I:Inv X pins σ H s) (g:jk H a y (some v)) (ry:RelV y u) (h:∀ w' s',Inv X pins σ H s'->RelV v w'->Q w' s') :
  wpAny (model X.prog X.w) A (getItem (.ref a) u) Q E s:=by
 rcases g with ⟨kvs,k,e,ey,l⟩ | ⟨kvs,k,b,e,ey,eb,l⟩
 ·subst ey;obtain ⟨z,hd,vs,rel,dd⟩:=zW I.hok e;obtain ⟨w',hw,rw'⟩:=kF.some_of (v:=v) (o:=valueAt vs k) (by rw [l];exact rel.val k);exact wpAny_getItem_of (wB ry) dd.mapOf hw (h w' _ (I.tok _) rw')
 ·subst ey;cases (show u=Value.ref b from ry)
  obtain ⟨z,hd,xs,rel,dd⟩:=zU I.hok e;obtain ⟨w',hw,rw'⟩:=kF.some_of (v:=v) (o:=(atKey xs k).map (·.2)) (by rw [l];exact rel.val k);obtain ⟨p,hp,hp2⟩:=Option.map_eq_some_iff.mp hw;refine wpAny_getItem_heap (tupleKind_room_in1 hu) (uo I.hok eb) dd hp ?_;rw [hp2];exact h w' _ (I.tok _) rw'
theorem d_notIn {Q:Value->Shared->Prop} (hu:A.units+1 < cLine) (I:Inv X pins σ H s) (g:jk H a y o) (ry:RelV y u) (h:∀ s',Inv X pins σ H s'->Q (.bool (!o.isSome)) s') :
  wpAny (model X.prog X.w) A (compareOp .NotIn u (.ref a)) Q E s:=by
 rcases g with ⟨kvs,k,e,ey,l⟩ | ⟨kvs,k,b,e,ey,eb,l⟩
 ·subst ey;obtain ⟨z,hd,vs,rel,dd⟩:=zW I.hok e;refine wpAny_notIn_of (wB ry) hd dd.mapOf ?_;rw [<- (rel.val k).isSome_eq,<- l];exact h _ (I.tok _)
 ·subst ey;cases (show u=Value.ref b from ry)
  obtain ⟨z,hd,xs,rel,dd⟩:=zU I.hok e;refine wpAny_notIn_heap (tupleKind_room_in1 hu) (uo I.hok eb) hd dd ?_;have q:=(rel.val k).isSome_eq;rw [Option.isSome_map] at q;rw [<- q,<- l];exact h _ (I.tok _)
theorem uw {h':Heap} {t':Nat} {ob:HO} (I:Inv X pins σ H s) (mu:Mut (H a)) (hs:Heap.SameBut a s.heap h') (he:∃ q,h'.get? a=some q) (new:cq X.prog X.w (upd H a ob) h' a ob) :
  Inv X pins σ (upd H a ob) {s with heap:=h',toks:=t' }:=
 I.write (x:=a) (e:=a) mu (.inl rfl) (λb q hb z=>(hs.2 b hb).trans z) he new
theorem EM {P:Program} {w:World} {H':Hp} {h':Heap} {kvs:List (Key×V)} {vs:List (Key×Value)} (z:kvs.length<=sizeLine) (hd:(a == sysModules)=false) (rel:KV kvs vs) (dd:h'.DictOf (cM P w) a vs) :
  cq P w H' h' a (.dK kvs):=⟨z,hd,vs,rel,dd⟩
theorem Bz {H':Hp} {Q:Unit->Shared->Prop} (hu:A.units+1 < cLine) (I:Inv X pins σ H s) (g:Fp H a y v H') (ry:RelV y u) (rv:RelV v r) (h:∀ s',Inv X pins σ H' s'->Q () s') :
  wpAny (model X.prog X.w) A (setItem (.ref a) u r) Q E s:=by
 rcases g with ⟨kvs,k,e,ey,l,eH⟩ | ⟨kvs,k,b,e,ey,eb,l,eH⟩
 ·subst ey eH;obtain ⟨z,hd,vs,rel,dd⟩:=dk_of I.hok e;have hz:vs.length<=sizeLine:=by rw [<- rel.length];exact z
  have hl:(putK kvs k v).length<=sizeLine:=by have:=jI kvs k v;omega
  refine wpAny_setItem_pairs (hsz:=hz) (wB ry) dd λh' dd' hs=>h _ ?_;have he:∃ q,h'.get? a=some q:=let ⟨q,_,_,hq,_⟩:=dd';⟨q,hq⟩;exact uw I (by rw [e];exact True.intro) hs he (EM hl hd (rel.put k rv) dd')
 ·subst ey eH;cases (show u=Value.ref b from ry)
  obtain ⟨z,hd,xs,rel,dd⟩:=dt_of I.hok e;have hz:xs.length<=sizeLine:=by rw [<- Paired.length rel];exact z
  have hl:(putK kvs k v).length<=sizeLine:=by have:=jI kvs k v;omega
  refine wpAny_setItem_heap (hsz:=hz) (tupleKind_room_in1 hu) (uo I.hok eb) dd λh' dd' hs=>h _ ?_;obtain ⟨q,es,ep,hq,h2,h3,h4,_,h5⟩:=dd';refine uw I (by rw [e];exact True.intro) hs ⟨q,hq⟩ ⟨hl,hd,_,(rel.put k eb rv).keeps λc ys ec=>?_,q,es,ep,hq,h2,h3,h4,h5⟩;rw [au (oi ec e (λz=>nomatch z))];exact ec
end
section
variable {X:Cx} {pins:List (Addr×Obj)} {σ:St} {H:Hp} {s:Shared} {a:Addr} {kvs:List (Key×V)} {k:Key} {u:Value} {A:Around} {E:Value->Shared->Prop}
end
def NoSl (i:Expr):Prop:=∀ ov iv,subscripted i false ov iv=operate [ov,iv] (getItem ov iv)
theorem subD_of {prog:Program} {w:World} {A:Around} {E:Value->Shared->Prop} {s:Shared} {env:Env} {value slice:Expr} {pos:Pos} {T id:String} {Q:Value->Shared->Prop}
  (hl:typeLookup (.type T) "__getitem__"=pure (some (.builtin id))) (hs:NoSl slice)
  (h:wpAny (model prog w) A (eval value env) (λo s₁=>wpAny (model prog w) A (eval slice env) (λi s₂=>s₂.TypeIs o T/\wpAny (model prog w) A (getItem o i) Q E s₂) E s₁) E s) :
  wpAny (model prog w) A (eval (.Subscript value slice pos) env) Q E s:=by
 refine Subscript_ (wpAny_mono h (λo s₁ h₁=>wpAny_mono h₁ (λi s₂ h₂=>?_) λ_ _ x=>x) λ_ _ x=>x);obtain ⟨hT,h₂⟩:=h₂;unfold subscriptTail;refine wpAny_bind ?_;rw [getitemInPython_of_ne hT.not_modules];refine wpAny_bind (wpAny_specialOf hT hl ?_)
 have fin:wpAny (model prog w) A (subscripted slice false o i) (λr s₃=>wpAny (model prog w) A (letTemporaryGo value o r >>= λ_=>pure r) Q E s₃) E s₂:=by
  rw [hs o i];exact wpAny_operating (wpAny_mono h₂ (λr s₃ h₃=>wpAny_bind (wpAny_letTemporaryGo (wpAny_pure h₃))) λ_ _ x=>x)
 first
  | exact wpAny_pure (wpAny_bind fin)
  | exact wpAny_bind (wpAny_pure (wpAny_bind fin))
  | exact wpAny_bind fin
theorem wI {X:Cx} {pins:List (Addr×Obj)} {σ:St} {H:Hp} {s:Shared} {a:Addr} {y:V} {o:Option V} (I:Inv X pins σ H s) (g:jk H a y o):s.TypeIs (.ref a) "dict":=by
 rcases g with ⟨kvs,k,e,_,_⟩ | ⟨kvs,k,b,e,_,_,_⟩
 ·obtain ⟨_,_,vs,_,dd⟩:=zW I.hok e;exact dd.typeIs
 ·obtain ⟨_,_,xs,_,dd⟩:=zU I.hok e;exact dd.typeIs
def tDGet (td ty:TE):TE:=λσ H Q=>td σ H λx H1=>ty σ H1 λy H2=>∃ a v,x=.ref a/\jk H2 a y (some v)/\Q v H2
def tDNotIn (ty td:TE):TE:=λσ H Q=>ty σ H λy H1=>td σ H1 λx H2=>∃ a o,x=.ref a/\jk H2 a y o/\Q (.bl (!o.isSome)) H2
def sDPut (td ty tv:TE):TS:=λD σ H=>tv σ H λv H1=>td σ H1 λx H2=>ty σ H2 λy H3=>∃ a H4,x=.ref a/\Fp H3 a y v H4/\D.nx σ H4
section
variable {X:Cx} {o i e value:Expr} {pos pos' tpos:Pos} {td ty tv:TE}
theorem oV (hu:X.A.units+1 < cLine) (ho:PE X o td) (hi:PE X i ty) (hs:NoSl i):PE X (.Subscript o i pos) (tDGet td ty):=by
 intro pins s σ H Q I h;refine subD_of PySem.F.slot_dict_getitem.lookup hs (thn (ho pins s σ H _ I h) λu s1 zz=>?_);obtain ⟨x,H1,I1,rx,q1⟩:=zz;refine thn (hi pins s1 σ H1 _ I1 q1) λiv s2 zz=>?_;obtain ⟨y,H2,I2,ry,a,v,ex,g,q2⟩:=zz;subst ex;obtain rfl:u=Value.ref a:=rx;exact ⟨wI I2 g,BA hu I2 g ry λw' s3 I3 rw'=>⟨v,H2,I3,rw',q2⟩⟩
theorem AK (hu:X.A.units+1 < cLine) (hi:PE X i ty) (ho:PE X o td):PC X .NotIn i o (tDNotIn ty td):=by
 intro pins s σ H Q I h;refine thn (hi pins s σ H _ I h) λiv s1 zz=>?_;obtain ⟨y,H1,I1,ry,q1⟩:=zz;refine thn (ho pins s1 σ H1 _ I1 q1) λu s2 zz=>?_;obtain ⟨x,H2,I2,rx,a,ov,ex,g,q2⟩:=zz;subst ex;obtain rfl:u=Value.ref a:=rx;exact d_notIn hu I2 g ry λs3 I3=>⟨.bl (!ov.isSome),H2,I3,rfl,q2⟩
theorem ps_dput (hu:X.A.units+1 < cLine) (ho:PE X o td) (hi:PE X i ty) (hv:PE X value tv) (hs:swapsWith value (some (.Subscript o i pos')) pos.line X.env=pure false) :
  PS X (.Assign [.Subscript o i pos'] value pos) (sDPut td ty tv):=by
 intro pins s σ H D I h;refine wpAny_Assign_Subscript (thn (hv pins s σ H _ I h) λr s1 zz=>?_) hs;obtain ⟨v,H1,I1,rv,q1⟩:=zz;refine thn (ho pins s1 σ H1 _ I1 q1) λu s2 zz=>?_;obtain ⟨x,H2,I2,rx,q2⟩:=zz;refine thn (hi pins s2 σ H2 _ I2 q2) λiv s3 zz=>?_;obtain ⟨y,H3,I3,ry,a,H4,ex,g,q3⟩:=zz;subst ex;obtain rfl:u=Value.ref a:=rx;exact Bz hu I3 g ry rv λs4 I4=>⟨σ,H4,I4,q3⟩
end
theorem wH {P:Program} {w:World} {H:Hp} (h:Heap) (hb:sysModules < h.objs.size):cq P w H (h.push {cls:=.type "dict",data:=.dict #[] }) h.objs.size (.dK []):=
 ⟨Nat.zero_le _,beq_eq_false_iff_ne.mpr (Ne.symm (Nat.ne_of_lt hb)),[],.nil,Heap.DictOf.new h⟩
theorem EL {P:Program} {w:World} {H:Hp} (h:Heap) (hb:sysModules < h.objs.size):cq P w H (h.push {cls:=.type "dict",data:=.dict #[] }) h.objs.size (.dT []):=
 ⟨Nat.zero_le _,beq_eq_false_iff_ne.mpr (Ne.symm (Nat.ne_of_lt hb)),[],.nil,_,#[],0,Heap.get?_push_size _ rfl,⟨rfl,rfl,rfl⟩,rfl,rfl,List.nodup_nil⟩
def Cr:TE:=λ_ H Q=>∀ p,H p=none->Q (.ref p) (upd H p (.dK []))
def tDNewT:TE:=λ_ H Q=>∀ p,H p=none->Q (.ref p) (upd H p (.dT []))
section
variable {X:Cx} {pos:Pos}
theorem DF:PE X (.Dict [] [] pos) Cr:=λpins s σ H Q I h =>
 wpAny_Dict_empty ⟨.ref s.heap.objs.size,_,I.laid (a:=s.heap.objs.size) (o:=.dK []) (t':=s.toks) (λ_ _ q=>Heap.get?_push_of_some _ q) (Nat.le_refl _) (wH s.heap I.big),rfl,h _ (I.hok.fresh (Nat.le_refl _))⟩
theorem DE:PE X (.Dict [] [] pos) tDNewT:=λpins s σ H Q I h =>
 wpAny_Dict_empty ⟨.ref s.heap.objs.size,_,I.laid (a:=s.heap.objs.size) (o:=.dT []) (t':=s.toks) (λ_ _ q=>Heap.get?_push_of_some _ q) (Nat.le_refl _) (EL s.heap I.big),rfl,h _ (I.hok.fresh (Nat.le_refl _))⟩
end
def xC:List (TE×TE)->St->Hp->(List (V×V)->Hp->Prop)->Prop
 | [],_,H,Q=>Q [] H
 | (tk,tv)::r,σ,H,Q=>tk σ H λx H1=>tv σ H1 λy H2=>xC r σ H2 λps H3=>Q ((x,y)::ps) H3
abbrev VV:List (V×V)->List (Value×Value)->Prop:=Paired λp q=>RelV p.1 q.1/\RelV p.2 q.2
def PPs (X:Cx) (pos:Pos) (keys:List (Option Expr)) (values:List Expr) (trs:List (TE×TE)):Prop:=
 ∀(
  pins:List (Addr×Obj)) (s:Shared) (σ:St) (H:Hp) (Q:List (V×V)->Hp->Prop),Inv X pins σ H s->xC trs σ H Q->
  wpAny (model X.prog X.w) X.A (evalPairs (pairTrees keys values X.env pos)) (λvs s'=>∃ ps H',Inv X pins σ H' s'/\VV ps vs/\Q ps H') X.xe s
theorem pps_nil {X:Cx} {pos:Pos}:PPs X pos [] [] []:=λpins s σ H Q I h=>pairTrees_nil_walk ⟨[],H,I,.nil,h⟩
theorem Dz {X:Cx} {pos:Pos} {k v:Expr} {ks:List (Option Expr)} {vs:List Expr} {tk tv:TE} {trs:List (TE×TE)} (hk:PE X k tk) (hv:PE X v tv) (hr:PPs X pos ks vs trs) :
  PPs X pos (some k::ks) (v::vs) ((tk,tv)::trs):=λpins s σ H Q I h =>
 pairTrees_cons_walk (thn (hk pins s σ H _ I h) λu s1 ⟨x,H1,I1,rx,q1⟩=>thn (hv pins s1 σ H1 _ I1 q1) λw2 s2 ⟨y,H2,I2,ry,q2⟩ =>
  thn (hr pins s2 σ H2 _ I2 q2) λws s3 ⟨ps,H3,I3,rel,q3⟩=>⟨(x,y)::ps,H3,I3,.cons ⟨rx,ry⟩ rel,q3⟩)
def bJ (kvs more:List (Key×V)):List (Key×V):=more.foldl (λacc kv=>putK acc kv.1 kv.2) kvs
theorem KV.merge:∀{more:List (Key×V)} {rs:List (Key×Value)} {kvs:List (Key×V)} {vs:List (Key×Value)},KV more rs->KV kvs vs->KV (bJ kvs more) (merged vs rs):=by
 intro more rs kvs vs r;unfold KV at r
 induction r generalizing kvs vs with
 | nil=>intro q;exact q
 | @cons p q ps qs h t ih =>
  intro r0
  have e:KV (putK kvs p.1 p.2) (stored vs q.1 q.2):=by
   have:=r0.put p.1 h.2;rw [<- h.1];exact this
  exact ih e
theorem kN:∀(more kvs:List (Key×V)),(bJ kvs more).length<=kvs.length+more.length
 | [],kvs=>by show kvs.length<=kvs.length+0;omega
 | p::r,kvs=>by
  have h1:=kN r (putK kvs p.1 p.2);have h2:=jI kvs p.1 p.2;show (bJ (putK kvs p.1 p.2) r).length<=_;rw [List.length_cons];omega
theorem qT {P:Program} {w:World}:∀{kvs:List (Key×V)} {ws:List (Value×Value)},VV (kvs.map λkv=>(kV kv.1,kv.2)) ws->∃ rs,Carries (cM P w) ws rs/\KV kvs rs
 | [],_,r=>by rw [List.map_nil] at r;cases r;exact ⟨[],True.intro,.nil⟩
 | p::kvs,_,r=>by
  rw [List.map_cons] at r;cases r with
  | @cons a b as bs h t =>
   obtain ⟨rs,c,q⟩:=qT (P:=P) (w:=w) t;obtain ⟨b1,b2⟩:=b;exact ⟨(p.1,b2)::rs,⟨wB h.1,rfl,c⟩,.cons ⟨rfl,h.2⟩ q⟩
def tDisp (trs:List (TE×TE)):TE:=λσ H Q=>∀ p,H p=none->xC trs σ (upd H p (.dK [])) λps H2=>H2 p=some (.dK [])/\∃ kvs:List (Key×V),ps=kvs.map (λkv=>(kV kv.1,kv.2))/\kvs.length<=15/\Q (.ref p) (upd H2 p (.dK (bJ [] kvs)))
theorem pe_disp {X:Cx} {pos:Pos} {keys:List (Option Expr)} {values:List Expr} {trs:List (TE×TE)} (h:PPs X pos keys values trs) (hall:keys.all (·.isSome)=true) (hl:keys.length=values.length) (h0:keys≠[])
  (h15:keys.length<=15):PE X (.Dict keys values pos) (tDisp trs):=by
 intro pins s σ H Q I q;have hn:=I.hok.fresh (Nat.le_refl s.heap.objs.size);have I1:=I.laid (a:=s.heap.objs.size) (o:=.dK []) (h':=s.heap.push {cls:=.type "dict",data:=.dict #[] }) (t':=s.toks) (λ_ _ q=>Heap.get?_push_of_some _ q) (Nat.le_refl _) (wH s.heap I.big);refine wpAny_Dict_walk (knd:=cM X.prog X.w) hall hl h0 h15 (thn (h pins _ σ _ _ I1 (q _ hn)) λws s2 zz=>?_);obtain ⟨ps,H2,I2,rel,e,kvs,ep,lk,q2⟩:=zz;subst ep;obtain ⟨rs,c,rk⟩:=qT (P:=X.prog) (w:=X.w) rel;obtain ⟨z,hd,vs0,r0,dd⟩:=dk_of I2.hok e;cases r0
 refine ⟨rs,c,dd,λh' dd' hs=>⟨.ref s.heap.objs.size,_,?_,rfl,q2⟩⟩
 have hz:(bJ [] kvs).length<=sizeLine:=by
  have h1:=kN kvs [];rw [List.length_nil] at h1;rw [sizeLine_eq];omega
 have he:∃ q,h'.get? s.heap.objs.size=some q:=let ⟨q,_,_,hq,_⟩:=dd';⟨q,hq⟩;exact uw I2 (by rw [e];exact True.intro) hs he (EM hz hd (rk.merge .nil) dd')
section
variable {X:Cx} {pins:List (Addr×Obj)} {σ:St} {H:Hp} {s:Shared} {a:Addr} {y d:V} {u r:Value} {o:Option V} {A:Around} {E:Value->Shared->Prop}
end
section
variable {X:Cx} {o e f:Expr} {apos cpos:Pos} {td ty tx:TE}
end
section
variable {X:Cx} {pins:List (Addr×Obj)} {σ:St} {H:Hp} {s:Shared} {a:Addr} {kvs:List (Key×V)} {A:Around} {E:Value->Shared->Prop}
end
section
variable {X:Cx} {pins:List (Addr×Obj)} {σ:St} {H:Hp} {s:Shared} {a:Addr} {y:V} {u:Value} {A:Around} {E:Value->Shared->Prop}
end
section
variable {prog:Program} {w:World} {A:Around} {E:Value->Shared->Prop} {s:Shared} {R:Result->Shared->Prop} {l it S:Addr} {items:Array Value}
end
structure aT (P:Program) (w:World) (K:W.Frag) (mg:Str->Option Value) (base:Heap) (C:Addr) (m:Str) (k:Nat) (ps:List Str) (sp:Sp):Prop where
 cl:Cls K C
 ex:∃(f:Addr) (fd:FuncData),Meth K C m f/\mR P w K mg base CX0 k f fd ps sp/\Binds K fd ps []
section
variable {X:Cx} {o e:Expr} {es:List Expr} {ta te:TE} {t:TA} {m x:Str} {k:Nat} {p pos apos p2 pos2:Pos} {C:Addr}
def Cp (X:Cx) (k:Nat) (m:Str) (ta:TE) (t:TA):TE:=λσ H Q=>ta σ H λx H1=>∃(a C dx:Addr) (fs:List (Str×V)) (ps:List Str) (sp:Sp),x=.ref a/\H1 a=some (.ins C dx fs)/\fs.lookup m=none/\
 aT X.prog X.w X.K X.mg X.base C m k ps sp/\t σ H1 λvs H2=>sp (.ref a::vs) H2 Q E0
theorem cX {pl:Sem Bool} (he:PE X o ta) (hr:dq k X.A)
  (ht:eval (.Call (.Attribute o m apos) [] [] pos) X.env=(do
   let ov <- eval o X.env
   standAt apos.atName
   let (f,first) <- holding [ov] (getMethod ov m pl)
   callWith pos f first (backTo pos (starEach [] X.env)) (backToKw pos (keywordEach [] X.env))):=by rfl) :
  PE X (.Call (.Attribute o m apos) [] [] pos) (Cp X k m ta pG):=by
 intro pins s σ H Q I h;refine PySem.W.methodCall_KW (pl:=pl) (thn (he pins s σ H _ I h) λu s1 zz=>?_) ht;obtain ⟨y,H1,I1,ry,a,C,dx,fs,ps,sp,ey,ea,lo,M,q⟩:=zz;subst ey;have eu:u=Value.ref a:=ry;subst eu;obtain ⟨f,fd,hm,G,hb⟩:=M.ex;refine qE I1 ea M.cl hm lo ?_;exact PySem.W.callWith_K0 (first:=[.ref a]) I1.kIn hm.kp (tP (us:=[.ref a]) (vs:=[.ref a]) G hr hb .nil vQ I1 (.cons rfl .nil) q)
theorem qq {pl:Sem Bool} (he:PE X o ta) (hr:dq k X.A) (ha:PA X (e::es) t)
  (hst:starEach (e::es) X.env=(false,eval e X.env)::starEach es X.env:=by rfl) (hpl:(backTo pos (starEach es X.env)).any (·.1)=false:=by rfl)
  (ht:eval (.Call (.Attribute o m apos) (e::es) [] pos) X.env=(do
   let ov <- eval o X.env
   standAt apos.atName
   let (f,first) <- holding [ov] (getMethod ov m pl)
   callWith pos f first (backTo pos (starEach (e::es) X.env)) (backToKw pos (keywordEach [] X.env))):=by rfl) :
  PE X (.Call (.Attribute o m apos) (e::es) [] pos) (Cp X k m ta t):=by
 intro pins s σ H Q I h;refine PySem.W.methodCall_KW (pl:=pl) (thn (he pins s σ H _ I h) λu s1 zz=>?_) ht;obtain ⟨y,H1,I1,ry,a,C,dx,fs,ps,sp,ey,ea,lo,M,q⟩:=zz;subst ey;have eu:u=Value.ref a:=ry;subst eu;obtain ⟨f,fd,hm,G,hb⟩:=M.ex;refine qE I1 ea M.cl hm lo ?_;refine PySem.W.callWith_K (first:=[.ref a]) (h₀:=X.base) I.ok.mod.kin hm.kp (thn (ha pos pins s1 σ H1 _ I1 q) λus s2 zz=>?_) hst hpl;obtain ⟨vs,H2,I2,r2,q2⟩:=zz;refine ⟨I2.kIn,?_⟩;refine tP (us:=.ref a::us) (vs:=.ref a::vs) (dvs:=[]) G hr hb .nil vQ I2 (.cons rfl r2) ?_;rw [List.append_nil];exact q2
structure Mk0 (K:W.Frag) (C:Addr):Prop where
 makes:PySem.W.makesIn K C=true
 init:PySem.W.findIn K (.ref C) "__init__"=some (some (.builtin "object.__init__"))
 kp:PySem.W.keepIn K (.ref C)=true
def tMakeN (C:Addr):TE:=λ_ H Q=>∀ a dx,H a=none->H dx=none->dx≠a->Q (.ref a) (upd (upd H dx (.own a)) a (.ins C dx []))
theorem vO (M:Mk0 X.K C) (hg:Gl X x) (hm:X.mg x=some (.ref C)) (hdb:(x == ("__debug__":Str))=false:=by decide):PE X (.Call (.Name x p) [] [] pos) (tMakeN C):=by
 intro pins s σ H Q I h;refine wpAny_Call_Name_kw (ky I hg hm ?_ hdb);refine PySem.W.callWith_K0 I.kIn M.kp (wpAny_call ?_);have Y:=PySem.W.makes_of (M:=model X.prog X.w) I.kIn M.makes;refine Bn I.kIn M.makes M.init (λself=>PySem.W.Looks.of_pure (PySem.W.oi_bind self)) ?_;have I2:=Inv.made (C:=C) I
 have e2:((s.heap.push PySem.W.emptyDict).push (PySem.W.instObj C s.heap.objs.size)).get? (s.heap.objs.size+1)=some (PySem.W.instObj C s.heap.objs.size):=by
  have z:=Heap.get?_push_size (s.heap.push PySem.W.emptyDict) (o:=PySem.W.instObj C s.heap.objs.size) rfl
  rwa [Heap.size_push] at z
 have t1:PySem.W.Looks (model X.prog X.w) ((s.heap.push PySem.W.emptyDict).push (PySem.W.instObj C s.heap.objs.size)) (typeOf (.ref (s.heap.objs.size+1))) (.ref C):=(PySem.W.Looks.ld e2).andThen .now
 have t2:PySem.W.Looks (model X.prog X.w) ((s.heap.push PySem.W.emptyDict).push (PySem.W.instObj C s.heap.objs.size)) (isInstance (.ref (s.heap.objs.size+1)) (.type "object")) true:=
  t1.andThen (Y.top.keeps λb q z=>Heap.get?_push_of_some _ (Heap.get?_push_of_some _ z))
 have z:=h (s.heap.objs.size+1) s.heap.objs.size (I.hok.fresh (Nat.le_succ _)) (I.hok.fresh (Nat.le_refl _)) (Nat.ne_of_lt (Nat.lt_succ_self _));refine codeAny_call_builtin PySem.W.oi_plain PySem.W.entry_oi (PySem.W.check_slot (i:="object.__init__") (owner:="object") (n:="__init__") (self:=.ref (s.heap.objs.size+1)) (rest:=[]) (kw:=[]) PySem.W.oi_kind PySem.W.oi_split t2 (PySem.W.oi_args _) ?_);rw [PySem.W.oi_run];exact wpAny_pure (And.intro rfl ⟨V.ref (s.heap.objs.size+1),_,I2,rfl,z⟩)
end
end L2
namespace Mine
open PySem
inductive W5 where
 | more | less | greater | lesser | leads
def W5.str:W5->Str
 | .more=>"more" | .less=>"less" | .greater=>"greater" | .lesser=>"lesser" | .leads=>"leads"
inductive Tr where
 | never | always | lp | lq
 | no (t:Tr)
 | fold (w:W5) (a b:Tr)
def Tr.size:Tr->Nat
 | .no t=>t.size+1
 | .fold _ a b=>a.size+b.size+1
 | _=>1
theorem Tr.size_pos:∀ t:Tr,1<=t.size
 | .never | .always | .lp | .lq=>Nat.le_refl _
 | .no _=>Nat.le_add_left _ _
 | .fold _ _ _=>Nat.le_add_left _ _
def W5.worth (w:W5) (n a b:Int):Int:=match w with
 | .more=>min (a+b) n
 | .less=>max (a+b - n) 0
 | .greater=>max a b
 | .lesser=>min a b
 | .leads=>min (n - a+b) n
structure Alg (α:Type) where
 leaf:Tr->α
 no:α->α
 fold:W5->α->α->α
def Alg.val {α:Type} (G:Alg α):Tr->α
 | .no t=>G.no (G.val t)
 | .fold w a b=>G.fold w (G.val a) (G.val b)
 | t=>G.leaf t
def Tr.post:Tr->List Tr
 | .no t=>t.post++[.no t]
 | .fold w a b=>a.post++b.post++[.fold w a b]
 | t=>[t]
theorem eT:∀ t:Tr,t.post.length=t.size
 | .no t=>by simp [Tr.post,Tr.size,eT t]
 | .fold w a b=>by simp [Tr.post,Tr.size,eT a,eT b];omega
 | .never=>rfl
 | .always=>rfl
 | .lp=>rfl
 | .lq=>rfl
def Alg.step {α:Type} (G:Alg α):List α->Tr->Option (List α)
 | a::R,.no _=>some (G.no a::R)
 | b::a::R,.fold w _ _=>some (G.fold w a b::R)
 | [],.no _=>none
 | [],.fold _ _ _=>none
 | [_],.fold _ _ _=>none
 | R,t=>some (G.leaf t::R)
def Alg.run {α:Type} (G:Alg α):List α->List Tr->Option (List α)
 | R,[]=>some R
 | R,t::r=>(G.step R t).bind λR'=>G.run R' r
theorem lZ {α:Type} (G:Alg α):∀(t:Tr) (R:List α) (r:List Tr),G.run R (t.post++r)=G.run (G.val t::R) r
 | .no t,R,r=>by
  show G.run R (t.post++[.no t]++r)=_;rw [List.append_assoc,lZ G t R];cases R <;> rfl
 | .fold w a b,R,r=>by
  show G.run R (a.post++b.post++[.fold w a b]++r)=_;rw [List.append_assoc,List.append_assoc,lZ G a R,lZ G b _];cases R <;> rfl
 | .never,R,r=>by cases R with
  | nil=>rfl
  | cons a R=>cases R <;> rfl
 | .always,R,r=>by cases R with
  | nil=>rfl
  | cons a R=>cases R <;> rfl
 | .lp,R,r=>by cases R with
  | nil=>rfl
  | cons a R=>cases R <;> rfl
 | .lq,R,r=>by cases R with
  | nil=>rfl
  | cons a R=>cases R <;> rfl
theorem run_all {α:Type} (G:Alg α) (t:Tr):G.run [] t.post=some [G.val t]:=by
 have h:=lZ G t [] [];rw [List.append_nil] at h;rw [h];rfl
def gK (n x y:Int):Alg Int where
 leaf:=λt=>match t with
  | .always=>n
  | .lp=>x
  | .lq=>y
  | _=>0
 no:=λa=>n - a
 fold:=λw a b=>w.worth n a b
abbrev Tr.worth (n x y:Int) (t:Tr):Int:=(gK n x y).val t
end Mine
namespace L2
open PySem PySem.Spec PyProof.Rows
mutual
def Dat (K:W.Frag) (H:Hp):PyData->V->Prop
 | .none,v=>v=.non
 | .bool b,v=>v=.bl b
 | .int i,v=>v=.int i
 | .str x,v=>v=.str x
 | .tuple ds,v=>∃ a xs,v=.ref a/\SqT K H a xs/\DatAll K H ds xs
 | .list _,_=>False
 | .dict _,_=>False
def DatAll (K:W.Frag) (H:Hp):List PyData->List V->Prop
 | [],xs=>xs=[]
 | d::ds,xs=>∃ x r,xs=x::r/\Dat K H d x/\DatAll K H ds r
end
structure Tst (H H':Hp):Prop where
 t:∀ b xs,H b=some (.tup xs)->H' b=some (.tup xs)
 f:∀ b o u,H b=some (.frz o u)->H' b=some (.frz o u)
theorem aK.ts {H H':Hp} (e:aK H H'):Tst H H':=⟨λb xs h=>e b _ h,λb o u h=>e b _ h⟩
theorem dJ {H:Hp} {l:Addr} {xs:List V} {o:HO} (e:H l=some (.lst xs)):Tst H (upd H l o):=
 ⟨λb ys h=>by rw [au (oi h e (by intro z;cases z))];exact h,λb o u h=>by rw [au (oi h e (by intro z;cases z))];exact h⟩
theorem SqT.ts {K:W.Frag} {H H':Hp} {a:Addr} {xs:List V} (h:SqT K H a xs) (e:Tst H H'):SqT K H' a xs:=by
 rcases h with (h | ⟨o,h⟩) | h
 ·exact .inl (.inl (e.t _ _ h))
 ·exact .inl (.inr ⟨o,e.f _ _ _ h⟩)
 ·exact .inr h
mutual
theorem Dat.ts {K:W.Frag} {H H':Hp} (e:Tst H H'):∀{d:PyData} {v:V},Dat K H d v->Dat K H' d v
 | .none,_,h=>h
 | .bool _,_,h=>h
 | .int _,_,h=>h
 | .str _,_,h=>h
 | .tuple _,_,⟨a,xs,h1,h2,h3⟩=>⟨a,xs,h1,h2.ts e,DatAll.ts e h3⟩
 | .list _,_,h=>h
 | .dict _,_,h=>h
theorem DatAll.ts {K:W.Frag} {H H':Hp} (e:Tst H H'):∀{ds:List PyData} {xs:List V},DatAll K H ds xs->DatAll K H' ds xs
 | [],_,h=>h
 | _::_,_,⟨x,r,h1,h2,h3⟩=>⟨x,r,h1,Dat.ts e h2,DatAll.ts e h3⟩
end
theorem DatAll.len {K:W.Frag} {H:Hp}:∀{ds:List PyData} {xs:List V},DatAll K H ds xs->xs.length=ds.length
 | [],_,h=>by subst h;rfl
 | _::_,_,⟨x,r,h1,_,h3⟩=>by subst h1;simp [h3.len]
theorem DatAll.get {K:W.Frag} {H:Hp}:∀{ds:List PyData} {xs:List V} {i:Nat} {d:PyData},DatAll K H ds xs->ds[i]?=some d->∃ x,xs[i]?=some x/\Dat K H d x
 | [],_,_,_,_,e=>by cases e
 | _::_,_,0,_,⟨x,r,h1,h2,_⟩,e=>by subst h1;cases e;exact ⟨x,rfl,h2⟩
 | _::_,_,i+1,_,⟨x,r,h1,_,h3⟩,e=>by
  subst h1;obtain ⟨y,e1,e2⟩:=h3.get (i:=i) (by simpa using e);exact ⟨y,by simpa using e1,e2⟩
theorem DatAll.get' {K:W.Frag} {H:Hp} {ds:List PyData} {xs:List V} {i:Nat} {x:V} (h:DatAll K H ds xs) (e:xs[i]?=some x):∃ d,ds[i]?=some d/\Dat K H d x:=by
 have hl:=h.len;have hi:=(List.getElem?_eq_some_iff.mp e).1;have hd:ds[i]?=some (ds[i]'(by omega)):=List.getElem?_eq_getElem (by omega);obtain ⟨y,e1,e2⟩:=h.get hd;rw [e] at e1;cases e1
 exact ⟨_,hd,e2⟩
theorem DatAll.append {K:W.Frag} {H:Hp}:∀{ds es:List PyData} {xs ys:List V},DatAll K H ds xs->DatAll K H es ys->DatAll K H (ds++es) (xs++ys)
 | [],_,_,_,h,g=>by subst h;exact g
 | _::_,_,_,_,⟨x,r,h1,h2,h3⟩,g=>by subst h1;exact ⟨x,_,rfl,h2,h3.append g⟩
theorem DatAll.snoc {K:W.Frag} {H:Hp} {ds:List PyData} {xs:List V} {d:PyData} {x:V} (h:DatAll K H ds xs) (g:Dat K H d x):DatAll K H (ds++[d]) (xs++[x]):=h.append ⟨x,[],rfl,g,rfl⟩
mutual
theorem Dat.reads {X:Cx} {pins:List (Addr×Obj)} {σ:St} {H:Hp} {s:Shared} (I:Inv X pins σ H s):∀(d:PyData) {v:V} {u:Value},Dat X.K H d v->RelV v u->∃ as,Reads s.heap u d as
 | .none,_,_,h,r=>by
  cases (show _=V.non from h)
  cases (show _=Value.none from r)
  exact ⟨[],.none⟩
 | .bool b,_,_,h,r=>by
  cases (show _=V.bl b from h)
  cases (show _=Value.bool b from r)
  exact ⟨[],.bool b⟩
 | .int i,_,_,h,r=>by
  cases (show _=V.int i from h)
  obtain ⟨t,q⟩:=(show ∃ t,_=Value.int i t from r);cases q
  exact ⟨[],.int i t⟩
 | .str x,_,_,h,r=>by
  cases (show _=V.str x from h)
  obtain ⟨t,q⟩:=(show ∃ t,_=Value.str x t from r);cases q
  exact ⟨[],.str x t⟩
 | .tuple ds,_,_,⟨a,xs,h1,h2,h3⟩,r=>by
  cases h1
  cases (show _=Value.ref a from r)
  obtain ⟨its,rv,⟨o,ho,hc,n,hd⟩,_⟩:=I.tuple h2;obtain ⟨as,ra⟩:=DatAll.reads I ds h3 rv;exact ⟨as,.tuple ho hc hd (by simpa using ra)⟩
 | .list _,_,_,h,_=>False.elim h
 | .dict _,_,_,h,_=>False.elim h
theorem DatAll.reads {X:Cx} {pins:List (Addr×Obj)} {σ:St} {H:Hp} {s:Shared} (I:Inv X pins σ H s):∀(ds:List PyData) {xs:List V} {us:List Value},DatAll X.K H ds xs->Vals xs us->∃ as,ReadsAll s.heap us ds as
 | [],_,_,h,r=>by
  cases (show _=([]:List V) from h)
  cases r
  exact ⟨[],.nil⟩
 | d::ds,_,_,⟨x,t,h1,h2,h3⟩,r=>by
  cases h1
  cases r with
  | cons r1 r2 =>
   obtain ⟨as,a1⟩:=Dat.reads I d h2 r1;obtain ⟨bs,b1⟩:=DatAll.reads I ds h3 r2;exact ⟨as++bs,.cons a1 b1⟩
end
def uN (K:W.Frag) (H:Hp) (d:PyData) (v:V):Prop:=Dat K H d v\/∃ ds a xs,d=.list ds/\v=.ref a/\SqL K H a xs/\DatAll K H ds xs
theorem uN.reads {X:Cx} {pins:List (Addr×Obj)} {σ:St} {H:Hp} {s:Shared} {d:PyData} {v:V} {u:Value} (I:Inv X pins σ H s) (h:uN X.K H d v) (r:RelV v u):∃ as,Reads s.heap u d as:=by
 rcases h with h | ⟨ds,a,xs,rfl,rfl,h2,h3⟩
 ·exact Dat.reads I d h r
 ·cases (show _=Value.ref a from r)
  obtain ⟨its,rv,⟨o,n,ho,hc,_,hd⟩,_⟩:=I.list h2;obtain ⟨as,ra⟩:=DatAll.reads I ds h3 rv;exact ⟨a::as,.list ho hc hd (by simpa using ra)⟩
section
variable {X:Cx}
def rEqD (K:W.Frag):R2:=λx y H Q=>∃ d e,uN K H d x/\uN K H e y/\SeqAt.shaped d=true/\SeqAt.shaped e=true/\Q (.bl (PyData.eqv d e)) H
def rNeD (K:W.Frag):R2:=λx y H Q=>∃ d e,uN K H d x/\uN K H e y/\SeqAt.shaped d=true/\SeqAt.shaped e=true/\Q (.bl (!PyData.eqv d e)) H
theorem op_eqD (hu:X.A.units+64 < cLine):OpR X (compareOp .Eq) (rEqD X.K):=by
 intro pins s σ H x y v u Q I rx ry h;obtain ⟨d,e,hd,he,sd,se,q⟩:=h;obtain ⟨as,ra⟩:=hd.reads I rx;obtain ⟨bs,rb⟩:=he.reads I ry;exact eq_dataH ra rb sd se hu ⟨.bl _,H,I,rfl,q⟩
theorem op_neD (hu:X.A.units+64 < cLine):OpR X (compareOp .NotEq) (rNeD X.K):=by
 intro pins s σ H x y v u Q I rx ry h;obtain ⟨d,e,hd,he,sd,se,q⟩:=h;obtain ⟨as,ra⟩:=hd.reads I rx;obtain ⟨bs,rb⟩:=he.reads I ry;exact ne_dataH ra rb sd se hu ⟨.bl _,H,I,rfl,q⟩
theorem iQ:fq X (.builtin "isinstance") (λxs H Q=>∃(a:Addr) (ys:List V) (c:V) (cv:Value) (k:Bool),xs=[.ref a,c]/\(∀ u,RelV c u->u=cv)/\SqT X.K H a ys/\PySem.W.kitOne X.K (.type "tuple") cv=some k/\Q (.bl k) H):=by
 intro pins s σ H xs us Q I r h;obtain ⟨a,ys,c,cv,k,rfl,hc,hq,kt,q⟩:=h;obtain ⟨u,w',rfl,r1,r2⟩:=vals2 r;have e:=hc _ r2;subst e;cases (show u=Value.ref a from r1)
 obtain ⟨its,rv,⟨o,h1,h2,_⟩,_⟩:=I.tuple hq;exact PySem.W.kia_one PySem.W.kitx_tuple I.kIn ⟨o,h1,h2⟩ kt (λz=>nomatch z) λtk=>⟨.bl k,H,I.tok tk,rfl,q⟩
theorem EZ {bs:List Bool}:∀{us:List Value},Vals (bs.map V.bl) us->LSm.BoolsAre us bs:=by
 induction bs with
 | nil=>intro us r;cases r;exact .nil
 | cons b r ih =>
  intro us q;cases q with
  | cons a t =>
   cases (show _=Value.bool b from a)
   exact .cons b (ih t)
theorem qU (hc:X.calm=true):fq X (.builtin "all") (λxs H Q=>∃(l:Addr) (bs:List Bool),xs=[.ref l]/\SqL X.K H l (bs.map V.bl)/\Q (.bl (bs.all id)) H):=by
 intro pins s σ H xs us Q I r h;obtain ⟨l,bs,rfl,hq,q⟩:=h;obtain ⟨u,rfl,rx⟩:=vals1 r;cases rx
 obtain ⟨its,rv,pl,_⟩:=I.list hq;have hl:=pl.isList;have hb:=EZ rv;have hlt:l < s.heap.objs.size:=by obtain ⟨_,e,_⟩:=hl;exact Heap.lt_size e
 refine call_all_walk (wpAny_pyIter_list hl ?_)
 refine ⟨s.heap.objs.size,[s.heap.objs.size,l],[s.heap.objs.size],its.toArray.size,_,_,λi=>(bs[i]?).getD true,rfl,Walks.list (A:=X.A.in1) (I.ok.hd hc) _ l (Nat.ne_of_lt hlt) its.toArray,
  ⟨⟨_,Heap.get?_push_size _ rfl,rfl,rfl⟩,hl.push _⟩,λi v s' Q' E' hP hQ=>?_,λh' tk hk=>?_⟩
 ·obtain ⟨b,e,rfl⟩:=hb.get i v (by simpa using hP);simp only [e,Option.getD_some] at hQ;exact wpAny_truthy_bool hQ
 ·have e:((List.range its.toArray.size).all λi=>(bs[i]?).getD true)=bs.all id:=by
   rw [List.size_toArray,hb.length];exact LSm.range_all bs
  rw [e];exact ⟨.bl _,H,I.kept (t':=tk) (LSm.kept_iter hk),rfl,q⟩
end
section
variable {X:Cx} {K:W.Frag}
theorem BH (e:X.K=K):fq X (.builtin "isinstance") (λxs H Q=>∃(y:V) (c:V) (cv t:Value) (k:Bool),xs=[y,c]/\(∀ u,RelV c u->u=cv)/\jd K H y t/\PySem.W.kitOne K t cv=some k/\Q (.bl k) H):=e ▸ jR
end
theorem zT {α:Type} [DecidableEq α] {f:α->PyData} (h:∀ a b,PyData.eqv (f a) (f b)=decide (a=b)):∀ L M:List α,PyData.eqvAll (L.map f) (M.map f)=decide (L=M)
 | [],[]=>by simp [PyData.eqvAll]
 | [],_::_=>by simp [PyData.eqvAll]
 | _::_,[]=>by simp [PyData.eqvAll]
 | a::r,b::t=>by
  simp only [List.map_cons,PyData.eqvAll,h a b,zT h r t]
  by_cases h1:a=b <;> by_cases h2:r=t <;> simp [h1,h2]
structure fK (K:W.Frag) (mg:Str->Option Value) (x:Str) (ns:List Int):Prop where
 ex:∃ a,mg x=some (.ref a)/\∀ H,SqT K H a (ns.map V.int)
theorem jU {K:W.Frag} {h:Heap} {mg:Str->Option Value} {x:Str} {a:Addr} {od:Option Addr} {its:Array Value} {n:Nat} {osl:Array (Option Value)} {ns:List Int} (X:K.In h) (G:h.Ns mainGlobals mg)
  (e:PySem.W.nsIn K mainGlobals x=some (some (.ref a))) (l:K.lookup a=some ⟨.type "tuple",od,.seq its n,osl⟩) (hz:its.size<=sizeLine) (v:Vals (ns.map V.int) its.toList):fK K mg x ns:=
 ⟨a,PySem.W.mg_of X G e,λ_=>.inr ⟨_,its,n,l,rfl,rfl,hz,v⟩⟩
theorem Aq {K:W.Frag} {h:Heap} {mg:Str->Option Value} {x:Str} {v:Value} {n:Int} (X:K.In h) (G:h.Ns mainGlobals mg) (e:PySem.W.nsIn K mainGlobals x=some (some v)) (q:∃ t,v=.int n t):∃ t,mg x=some (.int n t):=by
 obtain ⟨t,rfl⟩:=q;exact ⟨t,PySem.W.mg_of X G e⟩
end L2
namespace Mine
namespace Lo
def gc (a b:Int):Int:=(Int.gcd a b:Nat)
theorem sL (a b:Int):0<=gc a b:=Int.natCast_nonneg _
theorem zR {a:Int} (h:0<=a):gc a 0=a:=by
 unfold gc;rw [Int.gcd_zero_right];omega
theorem Bx (a b:Int):gc a.natAbs b.natAbs=gc a b:=by
 unfold gc Int.gcd;simp
theorem zS (g l:Int):gc l (g.fmod l)=gc g l:=by
 unfold gc;congr 1;rw [Int.fmod_def];rw [Int.gcd_comm g l];have:g - l*g.fdiv l=g+l*(-(g.fdiv l)):=by rw [Int.mul_neg];omega
 rw [this];exact Int.gcd_add_mul_left_right ..
theorem jO (a b:Int):gc a b∣a:=Int.gcd_dvd_left ..
theorem mH (a b:Int):gc a b∣b:=Int.gcd_dvd_right ..
theorem ED (f t b:Int):gc (f*t) (f*b)=f.natAbs*gc t b:=by
 unfold gc;rw [Int.gcd_mul_left];rfl
end Lo
namespace Ln
end Ln
open PySem L2
abbrev bits (x:Int):Nat:=Builtin.Int.intBits x
theorem Ae {x:Int} {m:Nat} (h:x.natAbs < 2 ^ m):bits x<=m:=intBits_le_iff.mpr h
theorem cZ (i:Int):(if i < 0 then -i else i)=(i.natAbs:Int):=by split <;> omega
structure Scr (K:W.Frag) (H:Hp) (a:Addr) (ns:List Int):Prop where
 sq:(∃ o,H a=some (.frz o (.lst (ns.map V.int))))\/∃(o:Obj) (its:Array Value) (n:Nat),K.lookup a=some o/\o.cls=.type "list"/\o.dict=none/\o.data=.seq its n/\its.size<=sizeLine/\Vals (ns.map V.int) its.toList
 few:ns.length<=63
 bit:∀ n∈ns,bits n<=1048576
theorem Scr.l {K:W.Frag} {H:Hp} {a:Addr} {ns:List Int} (S:Scr K H a ns):SqL K H a (ns.map V.int):=S.sq.elim (λh=>.inl (.inr h)) .inr
theorem Scr.ts {K:W.Frag} {H H':Hp} {a:Addr} {ns:List Int} (S:Scr K H a ns) (e:Tst H H'):Scr K H' a ns:=⟨S.sq.elim (λ⟨o,h⟩=>.inl ⟨o,e.f _ _ _ h⟩) .inr,S.few,S.bit⟩
theorem scr_of {K:W.Frag} {H:Hp} {a:Addr} {ns:List Int} (O:Only H) (h:SqL K H a (ns.map V.int)) (few:ns.length<=63) (bit:∀ n∈ns,bits n<=1048576):Scr K H a ns:=by
 refine ⟨?_,few,bit⟩;rcases h with (h | h) | h
 ·exfalso;rcases O a with z | ⟨o,xs,z⟩
  ·rw [h] at z;cases z
  ·rw [h] at z;cases z
 ·exact .inl h
 ·exact .inr h
theorem ak {H:Hp} {p:Addr} (h:H p=none) (o:HO):aK H (upd H p o):=λb u q=>by rw [au (aw q h)];exact q
theorem aQ {H H':Hp} {l:Addr} (e:aK H H') (h:H l=none) (o:HO):aK H (upd H' l o):=λb u q=>by rw [au (aw q h)];exact e b u q
section
variable {K:W.Frag} {H H':Hp} {a:Addr} {v e:V} {p q m h:Int} {s:St4} {L:List St4}
end
mutual
theorem EI:∀ d:PyData,d.canLay0=true->PyData.eqv d d=true
 | .none,_=>by simp [PyData.eqv]
 | .bool _,_=>by simp [PyData.eqv]
 | .int _,_=>by simp [PyData.eqv]
 | .str _,_=>by simp [PyData.eqv]
 | .list xs,h=>by simp only [PyData.eqv];exact jP xs (by simpa [PyData.canLay0] using h)
 | .tuple xs,h=>by simp only [PyData.eqv];exact jP xs (by simpa [PyData.canLay0] using h)
 | .dict _,h=>by simp [PyData.canLay0] at h
theorem jP:∀ xs:List PyData,PyData.canLayAll0 xs=true->PyData.eqvAll xs xs=true
 | [],_=>by simp [PyData.eqvAll]
 | x::xs,h=>by
  have h':x.canLay0=true/\PyData.canLayAll0 xs=true:=by simpa [PyData.canLayAll0] using h
  simp [PyData.eqvAll,EI x h'.1,jP xs h'.2]
end
def fixO:HO->Bool
 | .tup _=>true
 | .ins _ _ _=>true
 | .own _=>true
 | .frz _ _=>true
 | _=>false
def Kp (H H':Hp):Prop:=∀ b o,H b=some o->fixO o=true->H' b=some o
theorem Kp.trans {H H1 H2:Hp} (a:Kp H H1) (b:Kp H1 H2):Kp H H2:=λc o h f=>b c o (a c o h f) f
theorem Kp.of {H H':Hp} (e:aK H H'):Kp H H':=λb o h _=>e b o h
theorem kp_new {H:Hp} {p:Addr} (h:H p=none) (o:HO):Kp H (upd H p o):=Kp.of (λb u z=>by rw [au (aw z h)];exact z)
theorem gp {H:Hp} {l:Addr} {o u:HO} (h:H l=some o) (f:fixO o=false):Kp H (upd H l u):=λb z hb fz=>by
 rw [au (oi hb h λe=>by rw [e,f] at fz;cases fz)]
 exact hb
theorem fX {K:W.Frag} {t:Value}:PySem.W.kitOne K t t=some true:=by unfold PySem.W.kitOne;rw [if_pos (beq_self_eq_true t)]
def SB (c:V) (H H':Hp):Prop:=∀ b o,H b=some o->V.ref b≠c->H' b=some o
theorem SB.refl (c:V) (H:Hp):SB c H H:=λ_ _ h _=>h
theorem SB.trans {c:V} {H H1 H2:Hp} (a:SB c H H1) (b:SB c H1 H2):SB c H H2:=λd o h n=>b d o (a d o h n) n
theorem SB.of {c:V} {H H':Hp} (e:aK H H'):SB c H H':=λb o h _=>e b o h
theorem SB.kp {c:V} {H H':Hp} (e:SB c H H') (hc:∀ a o,c=.ref a->H a=some o->fixO o=false):Kp H H':=λb o h f=>e b o h λz=>by
 rw [hc b o z.symm h] at f;cases f
theorem jy {a:Addr} (H:Hp) (u:HO):SB (.ref a) H (upd H a u):=λb o h n=>by
 rw [au λz=>n (by rw [z])];exact h
inductive Tu (H:Hp):Addr->Tr->Prop where
 | never {a}:H a=some (.tup [.str "never"])->Tu H a .never
 | always {a}:H a=some (.tup [.str "always"])->Tu H a .always
 | lp {a}:H a=some (.tup [.str "p"])->Tu H a .lp
 | lq {a}:H a=some (.tup [.str "q"])->Tu H a .lq
 | no {a b t}:H a=some (.tup [.str "not",.ref b])->Tu H b t->Tu H a (.no t)
 | fold {a b d w x y}:H a=some (.tup [.str (W5.str w),.ref b,.ref d])->Tu H b x->Tu H d y->Tu H a (.fold w x y)
theorem Tu.to {H H':Hp} {a:Addr} {t:Tr} (h:Tu H a t) (e:Kp H H'):Tu H' a t:=by
 induction h with
 | never h=>exact .never (e _ _ h rfl)
 | always h=>exact .always (e _ _ h rfl)
 | lp h=>exact .lp (e _ _ h rfl)
 | lq h=>exact .lq (e _ _ h rfl)
 | no h _ ih=>exact .no (e _ _ h rfl) ih
 | fold h _ _ i1 i2=>exact .fold (e _ _ h rfl) i1 i2
structure CCs where
 (ne al le no mo ls gr lr ld:Addr)
def CCs.fold (c:CCs):W5->Addr
 | .more=>c.mo | .less=>c.ls | .greater=>c.gr | .lesser=>c.lr | .leads=>c.ld
def mJ (x:V):List (Str×V):=[("name",x)]
def qK (x:V):List (Str×V):=[("part",x)]
def nM (x y:V):List (Str×V):=[("one",x),("other",y)]
inductive Ob (c:CCs) (H:Hp):Addr->Tr->Prop where
 | never {a dx}:H a=some (.ins c.ne dx [])->Ob c H a .never
 | always {a dx}:H a=some (.ins c.al dx [])->Ob c H a .always
 | lp {a dx}:H a=some (.ins c.le dx (mJ (.str "p")))->Ob c H a .lp
 | lq {a dx}:H a=some (.ins c.le dx (mJ (.str "q")))->Ob c H a .lq
 | no {a dx b t}:H a=some (.ins c.no dx (qK (.ref b)))->Ob c H b t->Ob c H a (.no t)
 | fold {a dx b d w x y}:H a=some (.ins (c.fold w) dx (nM (.ref b) (.ref d)))->Ob c H b x->Ob c H d y->Ob c H a (.fold w x y)
theorem Ob.to {c:CCs} {H H':Hp} {a:Addr} {t:Tr} (h:Ob c H a t) (e:Kp H H'):Ob c H' a t:=by
 induction h with
 | never h=>exact .never (e _ _ h rfl)
 | always h=>exact .always (e _ _ h rfl)
 | lp h=>exact .lp (e _ _ h rfl)
 | lq h=>exact .lq (e _ _ h rfl)
 | no h _ ih=>exact .no (e _ _ h rfl) ih
 | fold h _ _ i1 i2=>exact .fold (e _ _ h rfl) i1 i2
inductive bW {α β:Type} (R:α->β->Prop):List α->List β->Prop where
 | nil:bW R [] []
 | cons {a b as bs}:R a b->bW R as bs->bW R (a::as) (b::bs)
theorem bW.imp {α β:Type} {R R':α->β->Prop} (f:∀ a b,R a b->R' a b) {as:List α} {bs:List β} (h:bW R as bs):bW R' as bs:=by
 induction h with
 | nil=>exact .nil
 | cons r _ ih=>exact .cons (f _ _ r) ih
theorem bW.app {α β:Type} {R:α->β->Prop} {as cs:List α} {bs ds:List β} (h:bW R as bs) (k:bW R cs ds):bW R (as++cs) (bs++ds):=by
 induction h with
 | nil=>exact k
 | cons r _ ih=>exact .cons r ih
theorem bW.rev {α β:Type} {R:α->β->Prop} {as:List α} {bs:List β} (h:bW R as bs):bW R as.reverse bs.reverse:=by
 induction h with
 | nil=>exact .nil
 | cons r _ ih=>rw [List.reverse_cons,List.reverse_cons];exact ih.app (.cons r .nil)
theorem bW.len {α β:Type} {R:α->β->Prop} {as:List α} {bs:List β} (h:bW R as bs):as.length=bs.length:=by
 induction h with
 | nil=>rfl
 | cons _ _ ih=>rw [List.length_cons,List.length_cons,ih]
theorem bW.get {α β:Type} {R:α->β->Prop} {as:List α} {bs:List β} (h:bW R as bs):∀(i:Nat) (a:α),as[i]?=some a->∃ b,bs[i]?=some b/\R a b:=by
 induction h with
 | nil=>intro i a z;cases z
 | cons r _ ih =>
  intro i x z;cases i with
  | zero=>cases z;exact ⟨_,rfl,r⟩
  | succ i=>exact ih i x z
theorem bW.last {α β:Type} {R:α->β->Prop} {as:List α} {bs:List β} (h:bW R as bs) (n:as≠[]):∃ as' a bs' b,as=as'++[a]/\bs=bs'++[b]/\R a b/\bW R as' bs':=by
 have h':=h.rev;have n':as.reverse≠[]:=λz=>n (List.reverse_eq_nil_iff.mp z);have e1:as=as.reverse.reverse:=(List.reverse_reverse _).symm;have e2:bs=bs.reverse.reverse:=(List.reverse_reverse _).symm;rw [e1,e2]
 revert h' n'
 generalize as.reverse=u;generalize bs.reverse=v;intro h' n';cases h' with
 | nil=>exact absurd rfl n'
 | cons r k=>exact ⟨_,_,_,_,List.reverse_cons,List.reverse_cons,r,k.rev⟩
theorem gJ {α:Type} (ys:List α) (a:α):(ys++[a])[(ys++[a]).length - 1]?=some a:=by simp
abbrev ObV (c:CCs) (H:Hp) (v:V) (t:Tr):Prop:=∃ a,v=.ref a/\Ob c H a t
theorem ObV.to {c:CCs} {H H':Hp} (e:Kp H H') (v:V) (t:Tr) (h:ObV c H v t):ObV c H' v t:=by
 obtain ⟨a,r,o⟩:=h;exact ⟨a,r,o.to e⟩
def Tr.kids:Tr->List Tr
 | .no t=>[t]
 | .fold _ a b=>[a,b]
 | _=>[]
def bK (ts:List Tr):Nat:=(ts.map Tr.size).sum
theorem jY (a b:List Tr):bK (a++b)=bK a+bK b:=by simp [bK]
theorem sv (t:Tr):bK t.kids+1=t.size:=by cases t <;> simp [bK,Tr.kids,Tr.size]
theorem DA (t:Tr):t.post.reverse=t::(t.kids.reverse.flatMap λx=>x.post.reverse):=by
 cases t <;> simp [Tr.post,Tr.kids]
inductive Pc where
 | w (x:Str)
 | t (t:Tr)
def Tr.pieces:Tr->List Pc
 | .never=>[.w "never"]
 | .always=>[.w "always"]
 | .lp=>[.w "p"]
 | .lq=>[.w "q"]
 | .no t=>[.w "not",.t t]
 | .fold w a b=>[.w "(",.t a,.w w.str,.t b,.w ")"]
inductive PcV (c:CCs) (H:Hp):V->Pc->Prop where
 | w (x:Str):PcV c H (.str x) (.w x)
 | t {a:Addr} {t:Tr}:Ob c H a t->PcV c H (.ref a) (.t t)
theorem jc (i j:Int):(if j < i then j else i)=min i j:=by
 rw [Int.min_def];split <;> split <;> omega
theorem lz (i j:Int):(if j > i then j else i)=max i j:=by
 rw [Int.max_def];split <;> split <;> omega
end Mine
namespace L2
open PySem PySem.Spec PyProof.Rows
structure aS (K:W.Frag) (C:Addr) (m qual:Str) (st:Stmt):Prop where
 cl:Cls K C
 ex:∃(f:Addr) (fd:FuncData),Meth K C m f/\Fun K m qual st f fd
variable {P:Program} {w:World} {K:W.Frag} {mg:Str->Option Value} {base:Heap}
theorem bh {C:Addr} {m qual:Str} {st:Stmt} {N ps:List Str} {k:Nat} {sp:Sp} (T:aS K C m qual st) (S:az N ps (ag st))
  (bd:∀(kV doc pm:Value) (an:Option Addr) (cdv ct:Value) (us:List Value),us.length=ps.length->bindArgs (PySem.W.fnOf m qual (eZ st) (bu st) (ag st) .none kV doc pm an cdv ct) ⟨us,[]⟩=pure (ps.zip us))
  (len:∀ vs H Q E,sp vs H Q E->vs.length=ps.length)
  (body:∀(f:Addr) (cdv:Value) (A:Around) (outer:List Env) (s:Shared) (H:Hp) (vs:List V) (Q:VK) (E:XK),dq k (A.deeper (envOfC qual (ag st) s.heap.objs.size f cdv))->sp vs H Q E->
   ∃ t,PSs (cS CX0 P w K mg base N qual (ag st) f cdv A outer s H E).nox (bu st) t/\t {nx:=λ_ H'=>Q .non H',rt:=Q} (start N vs) H) :
  aT P w K mg base C m (k+1) ps sp:=by
 obtain ⟨f,fd,hm,G⟩:=T.ex;exact ⟨T.cl,f,fd,hm,G.ok S len (body f),G.binds bd⟩
structure MkF (K:W.Frag) (mg:Str->Option Value) (x:Str) (C:Addr) (qual:Str) (st:Stmt):Prop where
 cl:Cls K C
 mg_:mg x=some (.ref C)
 ex:∃(f:Addr) (fd:FuncData),Mk K C f/\Fun K "__init__" qual st f fd
structure oJ (P:Program) (w:World) (K:W.Frag) (mg:Str->Option Value) (base:Heap) (x:Str) (C:Addr) (k:Nat) (ps:List Str) (sp:Sp):Prop where
 mg_:mg x=some (.ref C)
 ex:∃(f:Addr) (fd:FuncData),Mk K C f/\mR P w K mg base CX0 k f fd ps sp/\Binds K fd ps []
theorem Eh {C:Addr} {x qual:Str} {st:Stmt} {N ps:List Str} {k:Nat} {sp:Sp} (T:MkF K mg x C qual st) (S:az N ps (ag st))
  (bd:∀(kV doc pm:Value) (an:Option Addr) (cdv ct:Value) (us:List Value),us.length=ps.length->bindArgs (PySem.W.fnOf "__init__" qual (eZ st) (bu st) (ag st) .none kV doc pm an cdv ct) ⟨us,[]⟩=pure (ps.zip us))
  (len:∀ vs H Q E,sp vs H Q E->vs.length=ps.length)
  (body:∀(f:Addr) (cdv:Value) (A:Around) (outer:List Env) (s:Shared) (H:Hp) (vs:List V) (Q:VK) (E:XK),dq k (A.deeper (envOfC qual (ag st) s.heap.objs.size f cdv))->sp vs H Q E->
   ∃ t,PSs (cS CX0 P w K mg base N qual (ag st) f cdv A outer s H E).nox (bu st) t/\t {nx:=λ_ H'=>Q .non H',rt:=Q} (start N vs) H) :
  oJ P w K mg base x C (k+1) ps sp:=by
 obtain ⟨f,fd,hm,G⟩:=T.ex;exact ⟨T.mg_,f,fd,hm,G.ok S len (body f),G.binds bd⟩
section
variable {X:Cx} {x:Str} {C:Addr} {k:Nat} {ps:List Str} {sp:Sp} {e:Expr} {es:List Expr} {t:TA} {p pos:Pos}
theorem oh (M:oJ X.prog X.w X.K X.mg X.base x C k ps sp) (hr:dq (k+1) X.A) (hg:Gl X x) (ha:PA X (e::es) t) (hdb:(x == ("__debug__":Str))=false:=by decide)
  (he:starEach (e::es) X.env=(false,eval e X.env)::starEach es X.env:=by rfl) (hpl:(backTo pos (starEach es X.env)).any (·.1)=false:=by rfl) :
  PE X (.Call (.Name x p) (e::es) [] pos) (tMake C sp [] E0 t):=by
 obtain ⟨f,fd,hm,G,hb⟩:=M.ex;exact pe_make hm G hr hg M.mg_ hb .nil vQ ha hdb he hpl
end
end L2
namespace Mine
open PySem L2
def CCs.of (c:CCs):Tr->Addr
 | .never=>c.ne
 | .always=>c.al
 | .lp=>c.le
 | .lq=>c.le
 | .no _=>c.no
 | .fold w _ _=>c.fold w
theorem ku (x:V):(mJ x).lookup ("name":Str)=some x:=by unfold mJ;rw [List.lookup_cons,beq_self_eq_true]
theorem sf (x:V):(qK x).lookup ("part":Str)=some x:=by unfold qK;rw [List.lookup_cons,beq_self_eq_true]
theorem wA (x y:V):(nM x y).lookup ("one":Str)=some x:=by unfold nM;rw [List.lookup_cons,beq_self_eq_true]
theorem qA (x y:V):(nM x y).lookup ("other":Str)=some y:=by
 unfold nM;rw [List.lookup_cons,show (("other":Str) == ("one":Str))=false by decide+kernel];show List.lookup ("other":Str) [("other",y)]=some y;rw [List.lookup_cons,beq_self_eq_true]
abbrev NoF (m:Str):Prop:=m≠"name"/\m≠"part"/\m≠"one"/\m≠"other"
theorem fH {m a:Str} {x:V} {r:List (Str×V)} (h:m≠a) (k:r.lookup m=none):((a,x)::r).lookup m=none:=by
 rw [List.lookup_cons,beq_eq_false_iff_ne.mpr h];exact k
theorem Ob.cls {c:CCs} {H:Hp} {a:Addr} {t:Tr} (h:Ob c H a t):∃ dx fs,H a=some (.ins (c.of t) dx fs)/\∀ m,NoF m->fs.lookup m=none:=by
 cases h with
 | never h=>exact ⟨_,_,h,λm _=>rfl⟩
 | always h=>exact ⟨_,_,h,λm _=>rfl⟩
 | lp h=>exact ⟨_,_,h,λm n=>fH n.1 rfl⟩
 | lq h=>exact ⟨_,_,h,λm n=>fH n.1 rfl⟩
 | no h _=>exact ⟨_,_,h,λm n=>fH n.2.1 rfl⟩
 | fold h _ _=>exact ⟨_,_,h,λm n=>fH n.2.2.1 (fH n.2.2.2 rfl)⟩
structure Fx (K:W.Frag) (c:CCs):Prop where
 cl:∀ t,Cls K (c.of t)
 ha:∀ t,PySem.W.findIn K (.ref (c.of t)) "__class__"=some (some (.builtin "object.__class__"))
 hm:∀ t,PySem.W.mroIn K (c.of t) (.type "object")=some true
 ks:∀ t,PySem.W.kitOne K (.ref (c.of t)) (.type "str")=some false
 hn:PySem.W.specialIn K (.builtin "object.__class__") "__get__"=some (some (.builtin "getset_descriptor.__get__"))
 tk:PySem.W.takesIn K (.builtin "object.__class__")=some true
 nName:fg K c.le "name"
 nPart:fg K c.no "part"
 nOne:∀ w,fg K (c.fold w) "one"
 nOther:∀ w,fg K (c.fold w) "other"
theorem Fx.ty {K:W.Frag} {c:CCs} (T:Fx K c) {H:Hp} {a:Addr} {t:Tr} (h:Ob c H a t):jd K H (.ref a) (.ref (c.of t)):=by
 obtain ⟨dx,fs,e,_⟩:=h.cls;exact .ins e (T.cl t) (T.ha t) T.hn T.tk (T.hm t)
def Tr.word:Tr->Str
 | .never=>"never"
 | .always=>"always"
 | .lp=>"p"
 | .lq=>"q"
 | .no _=>"not"
 | .fold u _ _=>u.str
def tq (c:CCs) (t:Tr):Sp:=λvs H Q _=>∃ a,vs=[.ref a]/\Ob c H a t/\∀ l us,H l=none->bW (ObV c H) us t.kids->Q (.ref l) (upd H l (.lst us))
def lS (c:CCs) (t:Tr):Sp:=λvs H Q _=>∃ a,vs=[.ref a]/\Ob c H a t/\∀ l us,H l=none->bW (PcV c H) us t.pieces->Q (.ref l) (upd H l (.lst us))
def eB (c:CCs) (t:Tr):Sp:=λvs H Q _=>∃ a:Addr,vs=[.ref a]/\Ob c H a t/\Q (.str t.word) H
def gN (w:W5):Sp:=λvs H Q _=>∃(a:Addr) (n x y:Int),vs=[.ref a,.int n,.int x,.int y]/\Q (.int (w.worth n x y)) H
def iV (c:CCs) (t:Tr):Sp:=λvs H Q _=>∃(a l:Addr) (n x y:Int) (R R':List Int),vs=[.ref a,.ref l,.int n,.int x,.int y]/\Ob c H a t/\H l=some (.lst (R.reverse.map V.int))/\R.length<=1000/\(gK n x y).step R t=some R' /\
 ∀ H',SB (.ref l) H H'->H' l=some (.lst (R'.reverse.map V.int))->Q .non H'
def pJ (c:CCs) (t:Tr):Sp:=λvs H Q _=>∃ a,vs=[.ref a]/\Ob c H a t/\t.size<=1000/\∀ l us H',aK H H'->H l=none->H' l=some (.lst us)->bW (ObV c H') us t.post->Q (.ref l) H'
def CD (c:CCs) (t:Tr):Sp:=λvs H Q _=>∃(a:Addr) (n x y:Int),vs=[.ref a,.int n,.int x,.int y]/\Ob c H a t/\t.size<=1000/\∀ H',aK H H'->Q (.int (t.worth n x y)) H'
def jX (C:Addr) (fl:V->List (Str×V)):Sp:=λvs H Q _=>∃(a dx:Addr) (x:V),vs=[.ref a,x]/\H a=some (.ins C dx [])/\Q .non (upd H a (.ins C dx (fl x)))
def oQ (C:Addr):Sp:=λvs H Q _=>∃(a dx:Addr) (x y:V),vs=[.ref a,x,y]/\H a=some (.ins C dx [])/\Q .non (upd H a (.ins C dx (nM x y)))
theorem Du (x y:V):iZ "other" y (iZ "one" x [])=nM x y:=by
 show (if ("one":Str)="other" then [(("one":Str),y)] else (("one":Str),x)::iZ "other" y [])=_;rw [if_neg (by decide+kernel)];rfl
def W5.cls:W5->Str
 | .more=>"More" | .less=>"Less" | .greater=>"Greater" | .lesser=>"Lesser" | .leads=>"Leads"
theorem is_pp:decide (V.str "p"=V.str "p")=true:=decide_eq_true rfl
theorem is_qp:decide (V.str "q"=V.str "p")=false:=decide_eq_false (λz=>absurd (V.str.inj z) (by decide+kernel))
theorem eS (a:Int) (R:List Int):R.reverse.map V.int++[V.int a]=(a::R).reverse.map V.int:=by rw [List.reverse_cons,List.map_append];rfl
theorem lQ {R:List Int} (h:R.length<=1000):(R.reverse.map V.int).length < sizeLine:=by
 rw [List.length_map,List.length_reverse];exact Nat.lt_of_le_of_lt h (by decide)
theorem iE {α:Type} {G:Alg α} {R R':List α} {t:Tr} (h:G.step R t=some R') (k:t.kids=[]):R'=G.leaf t::R:=by
 cases t with
 | no t=>cases k
 | fold w a b=>cases k
 | _=>cases R with
  | nil=>exact (Option.some.inj h).symm
  | cons a R=>cases R <;> exact (Option.some.inj h).symm
theorem yT {α:Type} {G:Alg α} {R R':List α} {t:Tr} (h:G.step R (.no t)=some R'):∃ b R1,R=b::R1/\R'=G.no b::R1:=by
 cases R with
 | nil=>cases h
 | cons b R1=>cases R1 <;> exact ⟨b,_,rfl,(Option.some.inj h).symm⟩
theorem rF {α:Type} {G:Alg α} {R R':List α} {w:W5} {t t':Tr} (h:G.step R (.fold w t t')=some R'):∃ b2 b1 R1,R=b2::b1::R1/\R'=G.fold w b1 b2::R1:=by
 cases R with
 | nil=>cases h
 | cons b R1=>cases R1 with
  | nil=>cases h
  | cons b' R1=>exact ⟨b,b',R1,rfl,(Option.some.inj h).symm⟩
theorem jo {H:Hp} {l p:Addr} {o:HO} (h:upd H l o p=none):H p=none:=by
 by_cases e:p=l
 ·subst e;rw [ae] at h;cases h
 ·rw [au e] at h;exact h
theorem iI {H:Hp} {C z dz:Addr} {fs:List (Str×V)} (hz:H z=none) (hd:H dz=none) (ne:dz≠z):aK H (upd (upd (upd H dz (.own z)) z (.ins C dz [])) z (.ins C dz fs)):=λb o h=>by
 rw [au (aw h hz),au (aw h hz),au (aw h hd)];exact h
theorem Bo {c:CCs} {H:Hp} {z dz b d:Addr} {u:W5} {t t':Tr} {Q:VK} (hz:H z=none) (hd:H dz=none) (ne:dz≠z) (o:Ob c H b t) (o':Ob c H d t') (q:∀ e H',aK H H'->Ob c H' e (.fold u t t')->Q (.ref e) H') :
  Q (.ref z) (upd (upd (upd H dz (.own z)) z (.ins (c.fold u) dz [])) z (.ins (c.fold u) dz (nM (.ref b) (.ref d)))):=by
 have sm:=iI (C:=c.fold u) (fs:=nM (.ref b) (.ref d)) hz hd ne;exact q z _ sm (.fold ae (o.to (Kp.of sm)) (o'.to (Kp.of sm)))
theorem wG:∀ ts:List Tr,(ts.flatMap λx=>x.post.reverse).length=bK ts
 | []=>rfl
 | t::r=>by
  rw [List.flatMap_cons,List.length_append,List.length_reverse,eT,wG r];simp [bK]
theorem Ax (ts:List Tr):bK ts.reverse=bK ts:=by simp [bK]
theorem si:∀ ts:List Tr,ts.length<=bK ts
 | []=>Nat.le_refl _
 | t::r=>by
  have h:=si r;have p:=t.size_pos;have e:bK (t::r)=t.size+bK r:=by simp [bK]
  rw [e,List.length_cons];omega
theorem jJ (t:Tr):t.kids.length<=2:=by cases t <;> simp [Tr.kids]
theorem Cv {α:Type} {G:Alg α} {R R':List α} {t:Tr} (h:G.step R t=some R'):R'.length<=R.length+1:=by
 cases t with
 | no t=>obtain ⟨b,R1,rfl,rfl⟩:=yT h;simp
 | fold w x y=>obtain ⟨b,b',R1,rfl,rfl⟩:=rF h;simp
 | _=>rw [iE h rfl];simp
theorem Df {α:Type} {G:Alg α} {R Z:List α} {t:Tr} {r:List Tr} (h:G.run R (t::r)=some Z):∃ R',G.step R t=some R'/\G.run R' r=some Z:=by
 unfold Alg.run at h;cases e:G.step R t with
 | none=>rw [e] at h;cases h
 | some R'=>rw [e] at h;exact ⟨R',rfl,h⟩
theorem zV {α:Type} {xs:List α} {i:Nat} {x:α} (h:xs[i]?=some x):xs.drop i=x::xs.drop (i+1):=by
 obtain ⟨hi,e⟩:=List.getElem?_eq_some_iff.mp h;rw [List.drop_eq_getElem_cons hi,e]
theorem ite_yes {a b:Str} {A B:Prop} (h:a=b) (k:A):if decide (V.str a=V.str b)=true then A else B:=by
 rw [decide_eq_true (congrArg V.str h),if_pos rfl];exact k
theorem ite_no {a b:Str} {A B:Prop} (h:a≠b) (k:B):if decide (V.str a=V.str b)=true then A else B:=by
 rw [decide_eq_false (λz=>h (V.str.inj z)),if_neg Bool.false_ne_true];exact k
theorem jK {x:V} {xs:List V} {A B:Prop} (h:inV x xs=true) (k:A):if (if false=true then !inV x xs else inV x xs)=true then A else B:=by
 rw [if_neg Bool.false_ne_true,h,if_pos rfl];exact k
theorem jL {x:V} {xs:List V} {A B:Prop} (h:inV x xs=false) (k:B):if (if false=true then !inV x xs else inV x xs)=true then A else B:=by
 rw [if_neg Bool.false_ne_true,h,if_neg Bool.false_ne_true];exact k
def Cel (m:Int):Prop:=0<=m/\Builtin.Int.intBits m<=1048576
theorem cel0:Cel 0:=⟨Int.le_refl _,by decide⟩
theorem Fb (z:Int):Builtin.Int.intBits (if z < 0 then -z else z)=Builtin.Int.intBits z:=by
 unfold Builtin.Int.intBits
 by_cases h:z < 0
 ·rw [if_pos h];simp
 ·rw [if_neg h]
theorem cel_abs {z:Int} (h:Builtin.Int.intBits z<=1048576):Cel (if z < 0 then -z else z):=⟨by split <;> omega,by rw [Fb];exact h⟩
theorem nO {z:Int} (h0:0<=z) (h:z < 2 ^ 64):Cel z:=⟨h0,Nat.le_trans (intBits_le_64 (by omega) h) (by decide)⟩
theorem Scr.to {K:W.Frag} {H H':Hp} {a:Addr} {ns:List Int} (h:Scr K H a ns) (e:aK H H'):Scr K H' a ns:=h.ts e.ts
def yX (K:W.Frag):Sp:=λvs H Q _=>∃(a:Addr) (ns:List Int) (k:Int),vs=[.ref a,.int k]/\Scr K H a ns/\0<=k/\k<=100/\∀(D:Addr) (ms:List Int) (H':Hp),aK H H'->H D=none->H' D=some (.lst (ms.map V.int))->(∀ m∈ms,Cel m)->Q (.ref D) H'
def sZ:Sp:=λvs H Q _=>∃(l:Addr) (ms:List Int),vs=[.ref l]/\H l=some (.lst (ms.map V.int))/\(∀ m∈ms,Cel m)/\∀(i:Int) (ms':List Int) (H':Hp),Cel i->(∀ m∈ms',Cel m)->SB (.ref l) H H'->H' l=some (.lst (ms'.map V.int))->Q (.int i) H'
def vf (n:Nat):Sp:=λvs H Q _=>∃(l:Addr) (ms:List Int) (r:Int) (b:Bool),vs=[.ref l,.int r,.bl b]/\H l=some (.lst (ms.map V.int))/\(∀ m∈ms,Cel m)/\1<=r/\r<=n/\
 ∀(a:Addr) (t:Tr) (ms':List Int) (H':Hp),(t.size:Int)<=r->(∀ m∈ms',Cel m)->SB (.ref l) H H'->H' l=some (.lst (ms'.map V.int))->Tu H' a t->Q (.ref a) H'
def za:Sp:=λvs H Q _=>∃(u:W5) (n x y:Int),vs=[.str u.str,.int n,.int x,.int y]/\Q (.int (u.worth n x y)) H
def yU (k:Nat):Sp:=λvs H Q _=>∃(a:Addr) (t:Tr) (n x y:Int),vs=[.ref a,.int n,.int x,.int y]/\Tu H a t/\t.size<=k/\∀ H',aK H H'->Q (.int (t.worth n x y)) H'
def va:Sp:=λvs H Q _=>∃ i:Int,vs=[.int i]/\Q (.bl true) H
end Mine
namespace L2
open PySem PySem.Spec PyProof.Rows
namespace HT
variable {prog:Program} {w:World} {A:Around} {E:Value->Shared->Prop} {s:Shared}
theorem yk {t sl:Addr} {items:Array Value} {vl vu:Value} {lo hi:Option Int} {Q:Value->Shared->Prop} (ht:IsTup s.heap t items) (hs:s.heap.IsSliceOf sl vl vu .none) (pl:IsPart vl lo) (pu:IsPart vu hi)
  (h0:_root_.HT.sIx items.size 0 lo=0) (h1:_root_.HT.sIx items.size items.size hi=items.size) (h:Q (.ref t) s):wpAny (model prog w) A (getItem (.ref t) (.ref sl)) Q E s:=by
 obtain ⟨os,hos,hcs,hds⟩:=id hs;have hTs:s.TypeIs (.ref sl) "slice":=⟨os,hos,hcs⟩;unfold getItem
 try with_reducible refine wpAny_holding ?_
 first | refine wpAny_bind (wpAny_pure ?_) | skip
 refine wpAny_bind (wpAny_sequenceKey ht.typeIs (by decide) ?_)
 refine wpAny_bind (wpAny_callSpecial?_slot (name:=Str.ofString "__getitem__") ht.typeIs PyProof.Rows.slot_tuple_getitem
  (wpAny_call_entry PyProof.Rows.slot_tuple_getitem ht.typeIs PyProof.Rows.entry_tuple_getitem ?_ (PyProof.Rows.args_tuple_getitem _ _)))
 show wpAny _ _ (Builtin.Tuple.tupleItemsOf (.ref t) >>= _) _ _ s;refine wpAny_bind (PyProof.Rows.tupleItemsOf_ ht ?_);refine wpAny_bind (wpAny_typeOf hTs ?_);rw [if_pos (by decide)];refine wpAny_bind (_root_.HT.iF hs pl pu ?_);have yes:(((_root_.HT.sIx items.size 0 lo:Nat):Int) == 0 && (1:Int) == 1 && (_root_.HT.sIx items.size items.size hi - _root_.HT.sIx items.size 0 lo) == items.size)=true:=by rw [h0,h1];simp
 show wpAny _ _ (if (((_root_.HT.sIx items.size 0 lo:Nat):Int) == 0 && (1:Int) == 1 && (_root_.HT.sIx items.size items.size hi - _root_.HT.sIx items.size 0 lo) == items.size)=true then _ else _) _ _ s;rw [if_pos yes];unfold Builtin.Tuple.tupleIsExact;refine wpAny_bind (wpAny_bind (wpAny_typeOf ht.typeIs (wpAny_pure ?_)));rw [if_pos (by decide)];exact wpAny_bind (wpAny_rule (wpAny_pure ⟨_,rfl,wpAny_pure h⟩))
end HT
section
variable {X:Cx}
def rSlA (K:W.Frag):V->Option Int->Option Int->Hp->VK->Prop:=λx lo hi H Q=>∃(a:Addr) (xs:List V),x=.ref a/\SqT K H a xs/\(_root_.HT.sIx xs.length 0 lo=0->_root_.HT.sIx xs.length xs.length hi=xs.length->Q (.ref a) H)/\
 (¬ (_root_.HT.sIx xs.length 0 lo=0/\_root_.HT.sIx xs.length xs.length hi=xs.length)->∀ p,H p=none->Q (.ref p) (upd H p (.tup (qP xs lo hi))))
theorem oR:SlR X (rSlA X.K):=by
 intro pins s σ H x v vl vu lo hi sl Q I rx hs pl pu h;obtain ⟨a,xs,rfl,hx,q1,q2⟩:=h
 by_cases hw:_root_.HT.sIx xs.length 0 lo=0/\_root_.HT.sIx xs.length xs.length hi=xs.length
 ·cases rx
  obtain ⟨its,r,ht,hz⟩:=I.tuple hx;have hlen:its.toArray.size=xs.length:=by rw [List.size_toArray];exact r.length.symm
  refine ⟨"tuple",_,PyProof.Rows.slot_tuple_getitem.lookup,ht.typeIs,?_⟩;exact HT.yk ht hs pl pu (by rw [hlen];exact hw.1) (by rw [hlen];exact hw.2) ⟨.ref a,H,I,rfl,q1 hw.1 hw.2⟩
 ·exact sl_tup pins s σ H (.ref a) v vl vu lo hi sl Q I rx hs pl pu ⟨a,xs,rfl,hx,hw,q2 hw⟩
end
end L2
namespace Mine
open PySem L2
theorem cut_int (ms:List Int) (lo hi:Option Int):∃ ms':List Int,qP (ms.map V.int) lo hi=ms'.map V.int/\∀ m∈ms',m∈ms:=by
 refine ⟨(ms.drop (_root_.HT.sIx (ms.map V.int).length 0 lo)).take (_root_.HT.sIx (ms.map V.int).length (ms.map V.int).length hi - _root_.HT.sIx (ms.map V.int).length 0 lo),?_,λm h=>List.mem_of_mem_drop (List.mem_of_mem_take h)⟩;unfold qP;rw [List.map_take,List.map_drop]
theorem eX {a b:Int} (h:Builtin.Int.intBits b<=64):IntMulOk a b:=.of_right h
theorem qv {a b:Int} (h:Builtin.Int.intBits a<=64):IntMulOk a b:=.of_left h
abbrev wx:List Str:=["_law_script","_law_least","_law_as_they_stand","_law_made","_law_k","_law_cell"]
abbrev qd:List Str:=["_law_cells","_law_room","_law_two","_law_cell","_law_turn","_law_left","_law_one","_law_word"]
theorem word_at (m:Int) (h0:0<=m) (h:m < 5):∃ u:W5,atI [V.str "more",.str "less",.str "greater",.str "lesser",.str "leads"] m=some (.str u.str):=by
 have hm:m=0\/m=1\/m=2\/m=3\/m=4:=by omega
 rcases hm with rfl | rfl | rfl | rfl | rfl
 ·exact ⟨.more,rfl⟩
 ·exact ⟨.less,rfl⟩
 ·exact ⟨.greater,rfl⟩
 ·exact ⟨.lesser,rfl⟩
 ·exact ⟨.leads,rfl⟩
theorem two_at {x y:V} (m:Int) (h:m=0\/m=1):∃ z,atI [x,y] m=some z/\(z=x\/z=y):=by
 rcases h with rfl | rfl
 ·exact ⟨x,rfl,.inl rfl⟩
 ·exact ⟨y,rfl,.inr rfl⟩
theorem lst_fx {H:Hp} {l:Addr} {xs:List V} (e:H l=some (.lst xs)):∀ a o,V.ref l=.ref a->H a=some o->fixO o=false:=λa o z1 z2=>by cases z1;rw [e] at z2;cases z2;rfl
theorem pq_p:inV (.str "p") [V.str "p",.str "q"]=true:=by decide+kernel
theorem pq_q:inV (.str "q") [V.str "p",.str "q"]=true:=by decide+kernel
theorem Dy:inV (.str "not") [V.str "p",.str "q"]=false:=by decide+kernel
theorem pq_w (u:W5):inV (.str u.str) [V.str "p",.str "q"]=false:=by cases u <;> decide+kernel
theorem na_ne:inV (.str "never") [V.str "never",.str "always"]=true:=by decide+kernel
theorem na_al:inV (.str "always") [V.str "never",.str "always"]=true:=by decide+kernel
theorem na_p:inV (.str "p") [V.str "never",.str "always"]=false:=by decide+kernel
theorem na_q:inV (.str "q") [V.str "never",.str "always"]=false:=by decide+kernel
theorem na_not:inV (.str "not") [V.str "never",.str "always"]=false:=by decide+kernel
theorem na_w (u:W5):inV (.str u.str) [V.str "never",.str "always"]=false:=by cases u <;> decide+kernel
theorem w_ne (u:W5):u.str≠"never":=by cases u <;> decide+kernel
theorem w_al (u:W5):u.str≠"always":=by cases u <;> decide+kernel
theorem qe {H:Hp} {C z dz:Addr} (hz:H z=none) (hd:H dz=none):aK H (upd (upd H dz (.own z)) z (.ins C dz [])):=λb o h=>by
 rw [au (aw h hz),au (aw h hd)];exact h
abbrev TuV (H:Hp) (v:V) (t:Tr):Prop:=∃ a,v=.ref a/\Tu H a t
theorem TuV.to {H H':Hp} (e:Kp H H') (v:V) (t:Tr) (h:TuV H v t):TuV H' v t:=by
 obtain ⟨a,r,o⟩:=h;exact ⟨a,r,o.to e⟩
theorem Tu.parts {H:Hp} {a:Addr} {t:Tr} (h:Tu H a t):∃ us,H a=some (.tup (.str t.word::us))/\bW (TuV H) us t.kids:=by
 cases h with
 | never e=>exact ⟨[],e,.nil⟩
 | always e=>exact ⟨[],e,.nil⟩
 | lp e=>exact ⟨[],e,.nil⟩
 | lq e=>exact ⟨[],e,.nil⟩
 | no e h=>exact ⟨_,e,.cons ⟨_,rfl,h⟩ .nil⟩
 | fold e h h'=>exact ⟨_,e,.cons ⟨_,rfl,h⟩ (.cons ⟨_,rfl,h'⟩ .nil)⟩
theorem iC {σ:St} {H:Hp} {A B:Hp->Prop} (h:A H):kG σ H λb H4=>if b=true then A H4 else B H4:=by
 show if true=true then A H else B H
 rw [if_pos rfl];exact h
theorem qB {t x:Tr} (h:x∈t.kids):x.size < t.size:=by
 cases t with
 | no t =>
  have e:x=t:=by simpa [Tr.kids] using h
  subst e;exact Nat.lt_succ_self _
 | fold w a b =>
  have e:x=a\/x=b:=by simpa [Tr.kids] using h
  show x.size < a.size+b.size+1;rcases e with rfl | rfl <;> omega
 | _=>simp [Tr.kids] at h
end Mine
namespace L2
open PySem PySem.Spec PyProof.Rows
end L2
namespace Mine
open PySem L2
def spLaw (K:W.Frag):Sp:=λvs H Q _=>∃(a:Addr) (ns:List Int),vs=[.ref a]/\Scr K H a ns/\∀ H',Q (.bl true) H'
theorem iO {wi:TI} {tc:TT} {te:TE} {js:List Nat} {σ:St} {H:Hp} {Q:VK} (h:wi σ H λJ H1=>iD (λ_ H R=>R J H) tc te js σ H1 Q):iD wi tc te js σ H Q:=h
theorem sN {K:W.Frag} {wi:TI} {te:TE} {js:List Nat} {σ:St} {H0:Hp} {Q:VK} {xs:List V} (Src:Addr->Hp->Prop) (hwi:∀ R:It->Hp->Prop,(∀ l H,Src l H->R (Itl K l) H)->wi σ H0 R) (hsrc:∀ l H,Src l H->H l=some (.lst xs)) (hx:xs.length<=1000)
  (Pv:Addr->Addr->Nat->List V->Hp->Prop) (h0:∀ l H D,Src l H->H D=none->Pv l D 0 [] (upd H D (.lst [])))
  (hs:∀ l D i v ys H',xs[i]?=some v->l≠D->H' l=some (.lst xs)->H' D=some (.lst ys)->Pv l D i ys H'->∀ N:VK,(∀ y H'',H'' l=some (.lst xs)->H'' D=some (.lst ys)->Pv l D (i+1) (ys++[y]) (upd H'' D (.lst (ys++[y])))->N y H'')->te (some v::bL js σ) H' N)
  (hd:∀ l D ys H',H' l=some (.lst xs)->H' D=some (.lst ys)->Pv l D xs.length ys H'->Q (.ref D) H'):iD wi kG te js σ H0 Q:=by
 refine hwi _ λl H src=>?_;intro D hD;have e:=hsrc l H src;have nl:l≠D:=aw e hD;refine ⟨λi m H'=>m=xs.length - i/\i<=xs.length/\H' l=some (.lst xs)/\∃ ys,ys.length=i/\H' D=some (.lst ys)/\Pv l D i ys H',⟨xs.length,rfl,Nat.zero_le _,by rw [au nl];exact e,[],rfl,ae,h0 l H D src hD⟩,?_⟩;rintro i m H2 ⟨rfl,hi,e2,ys,hy,eD,p⟩
 by_cases hlt:i < xs.length
 ·refine .inr ⟨⟨xs,xs[i],SqL.of e2,by simp [hlt]⟩,λv H3 y=>?_⟩;obtain ⟨eh,y⟩:=y;subst eh;refine iC ?_;refine hs l D i v ys _ (y xs (SqL.of e2)) nl e2 eD p _ λy H5 z1 z2 z3=>?_;exact ⟨ys,z2,Nat.lt_of_le_of_lt (show ys.length<=1000 by omega) (by decide),xs.length - (i+1),by omega,rfl,hlt,by rw [au nl];exact z1,ys++[y],by rw [List.length_append,hy];rfl,ae,z3⟩
 ·have ei:i=xs.length:=by omega
  subst ei;exact .inl ⟨⟨xs,SqL.of e2,Nat.le_refl _⟩,hd l D ys H2 e2 eD p⟩
theorem wK {K:W.Frag} {wi:TI} {te:TE} {js:List Nat} {σ:St} {H0:Hp} {Q:VK} {xs:List V} (Src:Addr->Hp->Prop) (hwi:∀ R:It->Hp->Prop,(∀ l H,Src l H->R (Itt K l) H)->wi σ H0 R) (hsrc:∀ l H,Src l H->H l=some (.tup xs)) (hx:xs.length<=1000)
  (Pv:Addr->Addr->Nat->List V->Hp->Prop) (h0:∀ l H D,Src l H->H D=none->Pv l D 0 [] (upd H D (.lst [])))
  (hs:∀ l D i v ys H',xs[i]?=some v->l≠D->H' l=some (.tup xs)->H' D=some (.lst ys)->Pv l D i ys H'->∀ N:VK,(∀ y H'',H'' l=some (.tup xs)->H'' D=some (.lst ys)->Pv l D (i+1) (ys++[y]) (upd H'' D (.lst (ys++[y])))->N y H'')->te (some v::bL js σ) H' N)
  (hd:∀ l D ys H',H' l=some (.tup xs)->H' D=some (.lst ys)->Pv l D xs.length ys H'->Q (.ref D) H'):iD wi kG te js σ H0 Q:=by
 refine hwi _ λl H src=>?_;intro D hD;have e:=hsrc l H src;have nl:l≠D:=aw e hD;refine ⟨λi m H'=>m=xs.length - i/\i<=xs.length/\H' l=some (.tup xs)/\∃ ys,ys.length=i/\H' D=some (.lst ys)/\Pv l D i ys H',⟨xs.length,rfl,Nat.zero_le _,by rw [au nl];exact e,[],rfl,ae,h0 l H D src hD⟩,?_⟩;rintro i m H2 ⟨rfl,hi,e2,ys,hy,eD,p⟩
 by_cases hlt:i < xs.length
 ·refine .inr ⟨⟨xs,xs[i],SqT.of e2,by simp [hlt]⟩,λv H3 y=>?_⟩;obtain ⟨eh,y⟩:=y;subst eh;refine iC ?_;refine hs l D i v ys _ (y xs (SqT.of e2)) nl e2 eD p _ λy H5 z1 z2 z3=>?_;exact ⟨ys,z2,Nat.lt_of_le_of_lt (show ys.length<=1000 by omega) (by decide),xs.length - (i+1),by omega,rfl,hlt,by rw [au nl];exact z1,ys++[y],by rw [List.length_append,hy];rfl,ae,z3⟩
 ·have ei:i=xs.length:=by omega
  subst ei;exact .inl ⟨⟨xs,SqT.of e2,Nat.le_refl _⟩,hd l D ys H2 e2 eD p⟩
theorem comp_map {α:Type} {K:W.Frag} {wi:TI} {te:TE} {js:List Nat} {σ:St} {H:Hp} {Q:VK} {xs:List V} {ts:List α} {R:Hp->V->α->Prop} (g:α->V) (hR:∀ H H' v t,aK H H'->R H v t->R H' v t) (Src:Addr->Hp->Prop)
  (hwi:∀ R:It->Hp->Prop,(∀ l H,Src l H->R (Itl K l) H)->wi σ H R) (hsrc:∀ l H',Src l H'->H' l=some (.lst xs)/\aK H H') (hx:xs.length<=1000) (o:bW (R H) xs ts)
  (hs:∀ v t H' (N:VK),t∈ts->R H' v t->(∀ H'',aK H' H''->N (g t) H'')->te (some v::bL js σ) H' N) (hd:∀ D H',aK H H'->H D=none->H' D=some (.lst (ts.map g))->Q (.ref D) H'):iD wi kG te js σ H Q:=by
 refine sN Src hwi (λl H src=>(hsrc l H src).1) hx (λl D i ys H'=>H D=none/\aK H H'/\ys=(ts.take i).map g) (λl H' D src hD=>⟨(hsrc l H' src).2.free hD,(hsrc l H' src).2.trans (ak hD _),rfl⟩) (λl D i v ys H' hv nl el eD h N hN=>?_) (λl D ys H' el eD h=>?_)
 ·obtain ⟨hD,sm,rfl⟩:=h;obtain ⟨t,ht,hr⟩:=o.get i v hv;refine hs v t H' N (List.mem_of_getElem? ht) (hR _ _ _ _ sm hr) λH'' s2=>hN _ _ (s2 _ _ el) (s2 _ _ eD) ⟨hD,λd u z=>?_,?_⟩
  ·rw [au (aw z hD)];exact s2 _ _ (sm _ _ z)
  ·rw [List.take_add_one,ht,List.map_append];rfl
 ·obtain ⟨hD,sm,rfl⟩:=h;refine hd D H' sm hD ?_;rw [o.len,List.take_length] at eD;exact eD
theorem BC {α:Type} {K:W.Frag} {wi:TI} {te:TE} {js:List Nat} {σ:St} {H:Hp} {Q:VK} {xs:List V} {ts:List α} {R:Hp->V->α->Prop} (g:α->V) (hR:∀ H H' v t,aK H H'->R H v t->R H' v t) (Src:Addr->Hp->Prop)
  (hwi:∀ R:It->Hp->Prop,(∀ l H,Src l H->R (Itt K l) H)->wi σ H R) (hsrc:∀ l H',Src l H'->H' l=some (.tup xs)/\aK H H') (hx:xs.length<=1000) (o:bW (R H) xs ts)
  (hs:∀ v t H' (N:VK),t∈ts->R H' v t->(∀ H'',aK H' H''->N (g t) H'')->te (some v::bL js σ) H' N) (hd:∀ D H',aK H H'->H D=none->H' D=some (.lst (ts.map g))->Q (.ref D) H'):iD wi kG te js σ H Q:=by
 refine wK Src hwi (λl H src=>(hsrc l H src).1) hx (λl D i ys H'=>H D=none/\aK H H'/\ys=(ts.take i).map g) (λl H' D src hD=>⟨(hsrc l H' src).2.free hD,(hsrc l H' src).2.trans (ak hD _),rfl⟩) (λl D i v ys H' hv nl el eD h N hN=>?_) (λl D ys H' el eD h=>?_)
 ·obtain ⟨hD,sm,rfl⟩:=h;obtain ⟨t,ht,hr⟩:=o.get i v hv;refine hs v t H' N (List.mem_of_getElem? ht) (hR _ _ _ _ sm hr) λH'' s2=>hN _ _ (s2 _ _ el) (s2 _ _ eD) ⟨hD,λd u z=>?_,?_⟩
  ·rw [au (aw z hD)];exact s2 _ _ (sm _ _ z)
  ·rw [List.take_add_one,ht,List.map_append];rfl
 ·obtain ⟨hD,sm,rfl⟩:=h;refine hd D H' sm hD ?_;rw [o.len,List.take_length] at eD;exact eD
theorem w_not (u:W5):u.str≠"not":=by cases u <;> decide+kernel
abbrev Rw:=List Key
def dj (x:Str) (is:List Nat):Rw:=.inr x::is.map λi:Nat=>.inl (i:Int)
def idx (rs:List Rw) (r:Rw):Option Nat:=match rs with
 | []=>none
 | x::t=>if x=r then some 0 else (idx t r).map (·+1)
def aN (rs:List Rw) (r:Rw):List Rw×Nat:=match idx rs r with
 | some i=>(rs,i)
 | none=>(rs++[r],rs.length)
theorem Eo:∀{rs:List Rw} {r:Rw} {i:Nat},idx rs r=some i->i < rs.length
 | [],_,_,h=>by cases h
 | x::t,r,i,h=>by
  unfold idx at h;split at h
  ·cases h;simp
  ·cases e:idx t r with
   | none=>rw [e] at h;cases h
   | some j=>rw [e] at h;cases h;have:=Eo e;simp;omega
theorem ur:∀{rs:List Rw} {r:Rw} {i:Nat},idx rs r=some i->rs[i]?=some r
 | [],_,_,h=>by cases h
 | x::t,r,i,h=>by
  unfold idx at h;split at h
  ·rename_i z;cases h;simp [z]
  ·cases e:idx t r with
   | none=>rw [e] at h;cases h
   | some j=>rw [e] at h;cases h;have:=ur e;simpa using this
theorem wD:∀{rs:List Rw} {r:Rw},idx rs r=none->r ∉ rs
 | [],r,_=>by simp
 | x::t,r,h=>by
  unfold idx at h
  by_cases z:x=r
  ·rw [if_pos z] at h;cases h
  ·rw [if_neg z] at h;cases e:idx t r with
   | none =>
        intro m; rcases List.mem_cons.mp m with m | m; · exact z m.symm
        ·exact wD e m
   | some j=>rw [e] at h;cases h
theorem idx_app {rs:List Rw} {r s:Rw}:idx (rs++[r]) s=match idx rs s with | some i=>some i | none=>if r=s then some rs.length else none:=by
 induction rs with
 | nil =>
  show (if r=s then some 0 else (idx [] s).map (·+1))=if r=s then some 0 else none
  rfl
 | cons x t ih =>
  show (if x=s then some 0 else (idx (t++[r]) s).map (·+1))=_
  by_cases z:x=s
  ·rw [if_pos z];show _=match (if x=s then some 0 else (idx t s).map (·+1)) with | some i=>some i | none=>_
   rw [if_pos z]
  ·rw [if_neg z,ih];show _=match (if x=s then some 0 else (idx t s).map (·+1)) with | some i=>some i | none=>if r=s then some (t.length+1) else none
   rw [if_neg z];cases idx t s with
   | some i=>rfl
   | none =>
    show (if r=s then some t.length else none).map (·+1)=if r=s then some (t.length+1) else none
    split <;> rfl
theorem iM (rs:List Rw) (r:Rw):(aN rs r).1.length<=rs.length+1:=by
 unfold aN;cases idx rs r <;> simp
theorem ki (rs:List Rw) (r:Rw):(aN rs r).2 < (aN rs r).1.length:=by
 unfold aN;cases e:idx rs r with
 | none=>simp
 | some i=>exact Eo e
def Tr.putR:Tr->List Rw->List Rw×Nat
 | .no t,rs=>aN (t.putR rs).1 (dj "not" [(t.putR rs).2])
 | .fold w a b,rs=>aN (b.putR (a.putR rs).1).1 (dj w.str [(a.putR rs).2,(b.putR (a.putR rs).1).2])
 | .never,rs=>aN rs (dj "never" [])
 | .always,rs=>aN rs (dj "always" [])
 | .lp,rs=>aN rs (dj "p" [])
 | .lq,rs=>aN rs (dj "q" [])
def Tr.rows (t:Tr):List Rw:=(t.putR []).1
theorem eQ:∀(t:Tr) (rs:List Rw),(t.putR rs).1.length<=rs.length+t.size
 | .no t,rs=>by
  have:=eQ t rs;have:=iM (t.putR rs).1 (dj "not" [(t.putR rs).2]);simp only [Tr.putR,Tr.size];omega
 | .fold w a b,rs=>by
  have:=eQ a rs;have:=eQ b (a.putR rs).1;have:=iM (b.putR (a.putR rs).1).1 (dj w.str [(a.putR rs).2,(b.putR (a.putR rs).1).2]);simp only [Tr.putR,Tr.size];omega
 | .never,rs=>iM _ _
 | .always,rs=>iM _ _
 | .lp,rs=>iM _ _
 | .lq,rs=>iM _ _
theorem zv:∀(t:Tr) (rs:List Rw),(t.putR rs).2 < (t.putR rs).1.length
 | .no t,rs=>ki _ _
 | .fold w a b,rs=>ki _ _
 | .never,rs=>ki _ _
 | .always,rs=>ki _ _
 | .lp,rs=>ki _ _
 | .lq,rs=>ki _ _
def vK (s:List Rw×List Nat) (x:Tr):Option (List Rw×List Nat):=
 if s.2.length < x.kids.length then none else
  some ((aN s.1 (dj x.word (s.2.take x.kids.length).reverse)).1,(aN s.1 (dj x.word (s.2.take x.kids.length).reverse)).2::s.2.drop x.kids.length)
def rg:List Rw×List Nat->List Tr->Option (List Rw×List Nat)
 | s,[]=>some s
 | s,t::r=>(vK s t).bind λs'=>rg s' r
theorem kg:∀(t:Tr) (rs:List Rw) (st:List Nat) (r:List Tr),rg (rs,st) (t.post++r)=rg ((t.putR rs).1,(t.putR rs).2::st) r
 | .no t,rs,st,r=>by
  show rg (rs,st) (t.post++[.no t]++r)=_;rw [List.append_assoc,kg t rs st];rfl
 | .fold w a b,rs,st,r=>by
  show rg (rs,st) (a.post++b.post++[.fold w a b]++r)=_;rw [List.append_assoc,List.append_assoc,kg a rs st,kg b _ _];rfl
 | .never,rs,st,r=>rfl
 | .always,rs,st,r=>rfl
 | .lp,rs,st,r=>rfl
 | .lq,rs,st,r=>rfl
theorem Dh (t:Tr):rg ([],[]) t.post=some (t.rows,[(t.putR []).2]):=by
 have h:=kg t [] [] [];rw [List.append_nil] at h;rw [h];rfl
theorem AG {s Z:List Rw×List Nat} {t:Tr} {r:List Tr} (h:rg s (t::r)=some Z):∃ s',vK s t=some s'/\rg s' r=some Z:=by
 unfold rg at h;cases e:vK s t with
 | none=>rw [e] at h;cases h
 | some s'=>rw [e] at h;exact ⟨s',rfl,h⟩
theorem Dg {s s':List Rw×List Nat} {x:Tr} (h:vK s x=some s'):x.kids.length<=s.2.length/\s'=((aN s.1 (dj x.word (s.2.take x.kids.length).reverse)).1,(aN s.1 (dj x.word (s.2.take x.kids.length).reverse)).2::s.2.drop x.kids.length):=by
 unfold vK at h;split at h
 ·cases h
 ·exact ⟨by omega,(Option.some.inj h).symm⟩
theorem wO {K:W.Frag} {H:Hp} {a b:Addr} {xs ys:List V} {Q:VK} (ea:H a=some (.tup xs)) (eb:H b=some (.tup ys)) (nx:xs≠[]) (hz:xs.length+ys.length<=sizeLine) (h:∀ p H',aK H H'->H' p=some (.tup (xs++ys))->Q (.ref p) H'):rCatT K (.ref a) (.ref b) H Q:=by
 refine ⟨a,b,xs,ys,rfl,rfl,SqT.of ea,SqT.of eb,nx,hz,λz=>?_,λ_ p hp=>h p _ (ak hp _) ae⟩;refine h a H (aK.refl _) ?_;rw [z,List.append_nil];exact ea
abbrev RwV (H:Hp) (v:V) (r:Rw):Prop:=∃ a,v=.ref a/\H a=some (.tup (r.map kV))
theorem RwV.to {H H':Hp} (e:Kp H H') (v:V) (r:Rw) (h:RwV H v r):RwV H' v r:=by
 obtain ⟨a,z,o⟩:=h;exact ⟨a,z,e _ _ o rfl⟩
theorem tQ (x:Str) (is:List Nat):(dj x is).map kV=V.str x::is.map λi:Nat=>V.int (i:Int):=by
 unfold dj;rw [List.map_cons,List.map_map];rfl
def PlO (kvs:List (Rw×V)) (rs:List Rw):Prop:=kvs.length=rs.length/\∀ k,ee kvs k=(idx rs k).map λi:Nat=>V.int (i:Int)
theorem PlO.nil:PlO [] []:=⟨rfl,λ_=>rfl⟩
theorem PlO.put {kvs:List (Rw×V)} {rs:List Rw} {r:Rw} (h:PlO kvs rs) (n:idx rs r=none):PlO (putK kvs r (.int (rs.length:Int))) (rs++[r]):=by
 have hv:ee kvs r=none:=by rw [h.2 r,n];rfl
 refine ⟨by rw [Dt _ hv,List.length_append,List.length_append,h.1];rfl,λk=>?_⟩;rw [iB,idx_app]
 by_cases e:k=r
 ·subst e;rw [if_pos rfl,n];show _=(if k=k then some rs.length else none).map _;rw [if_pos rfl];rfl
 ·rw [if_neg e,h.2 k];cases idx rs k with
  | some i=>rfl
  | none =>
   show _=(if r=k then some rs.length else none).map _;rw [if_neg λz=>e z.symm]
def vg (c:CCs):Sp:=λvs H Q _=>∃(a:Addr) (t:Tr),vs=[.ref a]/\Ob c H a t/\t.size<=1000/\∀ l us H',aK H H'->H l=none->H' l=some (.lst us)->bW (RwV H') us t.rows->Q (.ref l) H'
end Mine
namespace L2
open PySem PySem.Spec PyProof.Rows
section
variable {X:Cx} {pins:List (Addr×Obj)} {σ:St} {H H':Hp} {s s':Shared} {h':Heap}
theorem Inv.turnedL {t':Nat} {fp:List Addr} (I:Inv X pins σ H s) (kp:∀ b o,b ∉ fp->s.heap.get? b=some o->h'.get? b=some o) (hf:∀ b∈fp,iT X pins H b):Inv X pins σ H {s with heap:=h',toks:=t' }:=by
 have far:∀ b u,H b=some u->b ∉ fp:=λb u e z=>by
  have:=(hf b z).1;rw [e] at this;cases this
 refine I.step (ch:=fp) (g':=s.gens) (d':=s.drawn) (λb hb=>⟨(hf b hb).2.2.2.1,(hf b hb).2.1,(hf b hb).2.2.2.2.1,(hf b hb).2.2.2.2.2⟩) (λb o _ _ hc e _=>kp b o hc e) (λb o _ _ hc e _=>⟨o.slots,kp b o hc e⟩) (λ_ _ _ _ n=>n)
  (λb o hc e=>⟨o,kp b o hc e⟩) (λ_ _ e=>e) (λ_ _ _ e=>e) (λb ps e=>⟨#[],by rw [e];simp⟩) (λm hm=>?_) (λb u e=>?_) I.bare
 ·obtain ⟨o,es,ep,ho,r⟩:=hm;exact ⟨o,es,ep,kp _ o (λz=>(hf _ z).2.1 rfl) ho,r⟩
 ·exact (I.hok b u e).stay (λc v hc q=>kp c v (hc.elim (λz=>by rw [z];exact far b u e) λz=>far c _ z) q) (λ_ q=>q) λ_ _ q=>q
theorem Inv.trackO {a:Addr} {o:HO} (I:Inv X pins σ H s) (n:H a=none) (new:X.s₀.heap.get? a=none) (hL:a≠X.env.locals) (hc:∀ x c,X.env.cells.lookup x=some c->c≠a) (hp:∀ p∈X.pn++pins,p.1≠a)
  (p:cq X.prog X.w (upd H a o) s.heap a o):Inv X pins σ (upd H a o) s:=
 ⟨I.ok,I.os,I.bare,⟨I.base.keep,I.base.slot,λb o e z hx=>by rw [au (λq=>by rw [q,new] at e;cases e)];exact I.base.free b o e z hx,I.base.there,
   λb xs e=>by have q:=I.base.tups b xs e;rw [au (aw q n)];exact q,λb o u e=>by have q:=I.base.frzs b o u e;rw [au (aw q n)];exact q,
   λb ps e=>by obtain ⟨m,q⟩:=I.base.tbls b ps e;exact ⟨m,by rw [au (aw q n)];exact q⟩⟩,
  I.loc,I.cell,by rw [au (Ne.symm hL)];exact I.free,λx c e=>by rw [au (hc x c e)];exact I.freeC x c e,
  λq hq=>by obtain ⟨a1,a2,a3⟩:=I.pin q hq;exact ⟨a1,by rw [au (hp q hq)];exact a2,a3⟩,
  λb u e=>by
   by_cases hb:b=a
   ·subst hb;rw [ae] at e;cases e
    exact p
   ·rw [au hb] at e;exact (I.hok b u e).stay (λ_ _ _ z=>z) (λc z=>by rw [au (aw z n)];exact z) λc xs z=>by rw [au (aw z n)];exact z,
  I.len⟩
end
def ItT (go:Nat->Hp->Prop) (src:Nat->Hp->List V->Prop) (n:Nat->Hp->Prop):It:=
 ⟨go,λi H v H'=>∃(T:Addr) (vs:List V),H T=none/\v=.ref T/\H'=upd H T (.tup vs)/\src i H vs,n⟩
theorem rC {X:Cx} {elts:List Expr} {kk:Nat} {tpos:Pos} {I₀:Addr} {fp' wr fp:List Addr} {n:Nat} {Pt:Nat->Array Value->Prop} {St:Nat->Heap->Prop} {Mid:Nat->Addr->Heap->Prop} (W:WalksT X.prog X.w X.A I₀ fp' wr n Pt St Mid)
  {pins:List (Addr×Obj)} {s:Shared} {σ:L2.St} {H:Hp} {E:Value->Shared->Prop} {i:Nat} {vs:List V} {src:Nat->Hp->List V->Prop} {tn:Nat->Heap->Prop} (I:Inv X pins σ H s) (hf:∀ b∈fp,iT X pins H b) (hob:∀ b∈fp,∃ o,s.heap.get? b=some o) (hw:∀ b∈wr,b∈fp) (hi:i < n) (st:St i s.heap)
  (hv:∀ vals,Pt i vals->Vals vs vals.toList) (hz:vs.length<=sizeLine) (hsrc:src i H vs) (htn:∀ h,St (i+1) h->tn (i+1) h) {gop stp:Nat->Hp->Prop} :
  wpAny (model X.prog X.w) X.A (pyNext (.ref I₀)) (λr s1=>∃ u,r=some u/\
   wpAny (model X.prog X.w) X.A (letOwnedTupleGo (.Tuple elts kk tpos) (.ref I₀) u) (λ_ s2=>∃ x H',Inv X pins σ H' s2/\RelV x u/\(ItT gop src stp).yld i H x H'/\tn (i+1) s2.heap/\∀ b∈fp,H' b=none) E s1) E s:=by
 refine W.item i s _ _ hi st λT vals h1 tk hP hT hTup hM kp=>?_;refine ⟨.ref T,rfl,W.go elts kk tpos i T {s with heap:=h1,toks:=tk} _ _ hM λh2 hst kp2=>?_⟩
 have I1:Inv X pins σ H {s with heap:=h2,toks:=tk}:=I.turnedL (λb o hb e=>kp2 b o (λz=>hb (hw b z)) (kp b o (λz=>hb (hw b z)) e)) hf
 have nT:H T=none:=I.hok.fresh hT
 have tup:h2.IsTuple T vals:=by
  obtain ⟨o,e,r⟩:=hTup;exact ⟨o,kp2 T o (W.apart i T h1 hM) e,r⟩
 have new:X.s₀.heap.get? T=none:=by
  cases z:X.s₀.heap.get? T with
  | none=>rfl
  | some o=>exact absurd (Nat.lt_of_lt_of_le (Heap.lt_size z) (Nat.le_trans I.sz hT)) (Nat.lt_irrefl _)
 refine ⟨.ref T,upd H T (.tup vs),I1.trackO nT new (Nat.ne_of_gt (Nat.lt_of_lt_of_le I.lt hT)) (λx c e z=>?_) (λp hp z=>?_) ⟨hz,vals.toList,hv vals hP,(by rw [Array.toArray_toList];exact tup)⟩,rfl,⟨T,vs,nT,rfl,rfl,hsrc⟩,htn _ hst,λb hb=>?_⟩
 ·obtain ⟨v,o,ho,_⟩:=I.cell x c e;exact absurd (Nat.lt_of_lt_of_le (Heap.lt_size ho) (by rw [z];exact hT)) (Nat.lt_irrefl _)
 ·exact absurd (Nat.lt_of_lt_of_le (Heap.lt_size (I.pin p hp).1) (by rw [z];exact hT)) (Nat.lt_irrefl _)
 ·have e0:=(hf b hb).1;obtain ⟨o,ho⟩:=hob b hb;have bT:b≠T:=λz=>absurd (Nat.lt_of_lt_of_le (Heap.lt_size ho) (by rw [z];exact hT)) (Nat.lt_irrefl _);rw [au bT];exact e0
def srcE (K:W.Frag) (a:Addr):Nat->Hp->List V->Prop:=λi H vs=>∃ x,vs=[.int i,x]/\∀ xs,SqL K H a xs->xs[i]?=some x
def ItE (K:W.Frag) (a:Addr):It:=ItT (λi H=>∃ xs x,SqL K H a xs/\xs[i]?=some x) (srcE K a) λi H=>∃ xs,SqL K H a xs/\xs.length<=i
theorem sI {h:Heap} {a b:Addr} {its:Array Value} {o:Obj} {T:String} (l:h.IsList a its) (e:h.get? b=some o) (c:o.cls=.type T) (n:T≠"list"):a≠b:=λz=>by
 obtain ⟨o',e',c',_⟩:=l;rw [z,e] at e';cases e'
 rw [c] at c';exact n (Value.type.inj c')
theorem Ao {P:Program} {w:World} {K:W.Frag} {elts:List Expr} {kk:Nat} {tpos:Pos} (a e it:Addr) (hei:e≠it) :
  Turn P w K (.Tuple elts kk tpos) (ItE K a) [e,it] e (λi h=>(∃ old,IsEnum h e it i old)/\h.IsListIter it a i) where
 mem:=by simp
 obj:=λi h st b hb=>by
  obtain ⟨⟨old,he⟩,o,ho,_,hd⟩:=st;rcases List.mem_cons.mp hb with rfl | hb
  ·exact ⟨_,he,λv z=>by cases z⟩
  ·rw [List.mem_singleton.mp hb];exact ⟨o,ho,λv z=>by rw [hd] at z;cases z⟩
 keep:=λi h h' st k=>by
  obtain ⟨⟨old,he⟩,l⟩:=st;exact ⟨⟨old,k e (by simp) _ he⟩,l.at λo z=>k it (by simp) o z⟩
 item:=by
  intro X hP hw hK hc i pins s σ H E I hf st hg;subst hP hw hK;obtain ⟨xs,x,hq,hx⟩:=hg;obtain ⟨its,rv,p,hz⟩:=I.list hq;obtain ⟨u,hu,ru⟩:=rv.get hx;obtain ⟨⟨old,he⟩,hit⟩:=st;have hL:=p.isList;have ne1:a≠e:=sI hL he rfl (by decide)
  have ne2:a≠it:=by
   obtain ⟨o,ho,hc',_⟩:=id hit;exact sI hL ho hc' (by decide)
  have W:=WalksT.enumerateD (A:=X.A) (Draws.list (prog:=X.prog) (w:=X.w) (A:=X.A.in1) (I.ok.hd hc) it a ne2 its.toArray) e hei (by simp;exact ⟨hei,Ne.symm ne1⟩) (by simp);refine rC (fp:=[e,it]) (vs:=[.int i,x]) (src:=srcE X.K a) (tn:=λi h=>(∃ old,IsEnum h e it i old)/\h.IsListIter it a i) W I hf (λb hb=>?_) (λb hb=>hb) (by have:=(List.getElem?_eq_some_iff.mp hu).1;simpa using this) ⟨⟨old,he⟩,hit,hL⟩ (λvals hP=>?_) (by show 2<=sizeLine;decide) ⟨x,rfl,λys hy=>by rw [I.list_inj hy hq];exact hx⟩ λh st=>⟨?_,st.2.1⟩
  ·rcases List.mem_cons.mp hb with rfl | hb
   ·exact ⟨_,he⟩
   ·rw [List.mem_singleton.mp hb];obtain ⟨o,ho,_⟩:=id hit;exact ⟨o,ho⟩
  ·obtain ⟨t,y,hy,rfl⟩:=hP
   have ey:y=u:=by
    have:its[i]?=some y:=by simpa using hy
    rw [hu] at this;exact (Option.some.inj this).symm
   subst ey;exact .cons ⟨t,rfl⟩ (.cons ru .nil)
  ·obtain ⟨old',z⟩:=st.1;exact ⟨old',z⟩
 done:=by
  intro X hP hw hK hc i pins s σ H E I hf st hg;subst hP hw hK;obtain ⟨xs,hq,hx⟩:=hg;obtain ⟨its,rv,p,hz⟩:=I.list hq;obtain ⟨⟨old,he⟩,hit⟩:=st;have hl:=rv.length;obtain ⟨f0,f1,f2,f3,f4,f5⟩:=hf it (by simp);exact wpAny_pyNext_enum_end (I.ok.hd hc) he hit p.isList (by simp;omega) λh' eb=>⟨rfl,I.turned (t':=s.toks) (λb o hb e=>eb b o hb e) f0 f1 f3 f4 f5⟩
 self:=λ_ _ _ _ _ st h=>by
  obtain ⟨⟨old,he⟩,_⟩:=st;exact wpAny_pyIter_enum he h
section
variable {X:Cx}
def iEnum (K:W.Frag) (tl:TE):TI:=λσ H R=>tl σ H λx H1=>∃ a,x=.ref a/\(∃ xs,SqL K H1 a xs)/\R (ItE K a) H1
theorem tX {elts:List Expr} {kk:Nat} {tpos p pos:Pos} {e:Expr} {te:TE} (hg:Gl X "enumerate") (hm:X.mg "enumerate"=none) (he:PE X e te)
  (hs:starEach [e] X.env=[(false,eval e X.env)]:=by rfl):PI X (.Tuple elts kk tpos) (.Call (.Name "enumerate" p) [e] [] pos) (iEnum X.K te):=by
 intro pins s σ H R I h;have b1:bootBuiltins "enumerate"=some (.type "enumerate"):=by decide+kernel
 refine wpAny_Call_Name_kw (nK I hg hm b1 ?_ (by decide) (by decide));refine PyProof.Rows.callWith_type1 ?_ hs (by rfl);rw [hs];refine Calls.spliced_cons (thn (he pins s σ H _ I h) λu s1 zz=>?_);obtain ⟨y,H1,I1,ry,a,ey,⟨xs,hq⟩,q⟩:=zz;subst ey;have eu:u=Value.ref a:=ry;subst eu;refine Calls.spliced_nil ?_;obtain ⟨its,rv,pl,hz⟩:=I1.list hq;refine call_enumerate_list pl.isList λh' e1 e2 e3 kp=>?_;have I2:Inv X pins σ H1 {s1 with heap:=h' }:=I1.kept (t':=s1.toks) kp
 refine wpAny_pyIter_enum (s:={s1 with heap:=h' }) e1 ?_
 refine ⟨_,[s1.heap.objs.size+1,s1.heap.objs.size],_,ItE X.K a,H1,rfl,I2,Ao a _ _ (Nat.ne_of_gt (Nat.lt_succ_self _)),⟨⟨_,e1⟩,e2⟩,λb hb=>?_,q⟩
 have nb:s1.heap.objs.size<=b:=by
  rcases List.mem_cons.mp hb with rfl | hb
  ·exact Nat.le_succ _
  ·rw [List.mem_singleton.mp hb];exact Nat.le_refl _
 exact I1.fpOk nb (I1.hok.fresh nb)
end
theorem qF {K:W.Frag} {a:Addr} {xs:List V} {g:TG} {tb:TS} {D:Ends} {σ:St} {H:Hp} (Pv:Nat->St->Hp->Prop) (h0:Pv 0 σ H) (hl:∀ i σ H,i<=xs.length->Pv i σ H->SqL K H a xs)
  (hs:∀ i x T σ H,xs[i]?=some x->Pv i σ H->H T=none->g (.ref T) σ (upd H T (.tup [.int i,x])) λσ2 H2=>tb {D with nx:=Pv (i+1),ct:=Pv (i+1),bk:=D.nx} σ2 H2) (hd:∀ σ H,Pv xs.length σ H->D.nx σ H) :
  ∃ W:Nat->Nat->St->Hp->Prop,(∃ m,W 0 m σ H)/\∀ i m σ H,W i m σ H->
   ((ItE K a).stop i H/\D.nx σ H)\/((ItE K a).go i H/\∃ N:St->Hp->Prop,(∀ σ' H',N σ' H'->∃ m',m' < m/\W (i+1) m' σ' H')/\∀ x H',(ItE K a).yld i H x H'->g x σ H' λσ2 H2=>tb {D with nx:=N,ct:=N,bk:=D.nx} σ2 H2):=by
 refine ⟨λi m σ H=>m=xs.length - i/\i<=xs.length/\Pv i σ H,⟨xs.length,by simp,Nat.zero_le _,h0⟩,?_⟩;rintro i m σ H ⟨rfl,hi,p⟩
 have q:=hl i σ H hi p
 by_cases hlt:i < xs.length
 ·refine .inr ⟨⟨xs,xs[i],q,by simp [hlt]⟩,Pv (i+1),λσ' H' p'=>⟨xs.length - (i+1),by omega,rfl,hlt,p'⟩,λx H' y=>?_⟩;obtain ⟨T,vs,nT,rfl,rfl,x,rfl,hx⟩:=y;exact hs i x T σ H (hx xs q) p nT
 ·have e:i=xs.length:=by omega
  subst e;exact .inl ⟨⟨xs,q,Nat.le_refl _⟩,hd σ H p⟩
open PySem.AutoSeq1
abbrev xA (t:Addr):Obj:={cls:=.type "tuple_iterator",data:=.fields #[.ref t,.int 0 0] }
section
variable {prog:Program} {w:World} {A:Around} {E:Value->Shared->Prop} {s:Shared}
theorem qt {it t:Addr} {i:Nat} {ys:Array Value} {x:Value} {Q:Value->Shared->Prop} (st:s.heap.IsTupleIter it t i) (tp:s.heap.IsTuple t ys) (e:ys[i]?=some x)
  (k:∀ h',h'.IsTupleIter it t (i+1)->Heap.SameBut it s.heap h'->Q x {s with heap:=h' }):wpAny (model prog w) A (Builtin.SmallTypes.nextOf (.ref it)) Q E s:=by
 obtain ⟨ob,gb,cb,db⟩:=id st;obtain ⟨ot,gt,_,nt,dt⟩:=tp;unfold Builtin.SmallTypes.nextOf;refine wpAny_bind (wpAny_callSpecial?_slot (name:=Str.ofString "__next__") st.typeIs F.slot_tuple_iterator_next (wpAny_call_entry F.slot_tuple_iterator_next st.typeIs F.entry_tuple_iterator_next ?_ (F.args_tuple_iterator_next_1 _)));show wpAny _ _ (field (.ref it) 0 >>= _) _ _ s;refine wpAny_bind (wpAny_field gb db (x:=.ref t) rfl ?_);show wpAny _ _ (if (Value.ref t == Value.none)=true then _ else _) _ _ s;rw [if_neg (show ¬ ((Value.ref t == Value.none)=true) from Bool.false_ne_true)];show wpAny _ _ (field (.ref it) 1 >>= _) _ _ s;refine wpAny_bind (wpAny_field gb db (x:=.int i 0) rfl ?_);show wpAny _ _ (seqItems? (.ref t) >>= _) _ _ s;refine wpAny_bind (wpAny_seqItems gt dt ?_);simp only [Int.toNat_natCast,e];refine wpAny_bind (wpAny_setField gb db (by simp) (wpAny_pure ⟨x,rfl,wpAny_pure (k _ ?_ (Heap.SameBut.update ..))⟩));exact ⟨_,Heap.get?_update_self _ gb (Obj.isFreed_of_fields (Obj.data_mapFields db _)),(Obj.cls_mapFields ..).trans cb,by rw [Obj.data_mapFields db];simp [rawInt]⟩
theorem rh {it t:Addr} {i:Nat} {ys:Array Value} {Q:Value->Shared->Prop} (hd:A.handled=none) (st:s.heap.IsTupleIter it t i) (tp:s.heap.IsTuple t ys) (e:ys[i]?=none)
  (k:∀ h' x,Heap.ExtBut it s.heap h'->(∃ o,h'.get? x=some o/\o.cls=.type "StopIteration")->E (.ref x) {s with heap:=h' }):wpAny (model prog w) A (Builtin.SmallTypes.nextOf (.ref it)) Q E s:=by
 obtain ⟨ob,gb,cb,db⟩:=id st;obtain ⟨ot,gt,_,nt,dt⟩:=tp;unfold Builtin.SmallTypes.nextOf;refine wpAny_bind (wpAny_callSpecial?_slot (name:=Str.ofString "__next__") st.typeIs F.slot_tuple_iterator_next (wpAny_call_entry F.slot_tuple_iterator_next st.typeIs F.entry_tuple_iterator_next ?_ (F.args_tuple_iterator_next_1 _)));show wpAny _ _ (field (.ref it) 0 >>= _) _ _ s;refine wpAny_bind (wpAny_field gb db (x:=.ref t) rfl ?_);show wpAny _ _ (if (Value.ref t == Value.none)=true then _ else _) _ _ s;rw [if_neg (show ¬ ((Value.ref t == Value.none)=true) from Bool.false_ne_true)];show wpAny _ _ (field (.ref it) 1 >>= _) _ _ s;refine wpAny_bind (wpAny_field gb db (x:=.int i 0) rfl ?_);show wpAny _ _ (seqItems? (.ref t) >>= _) _ _ s;refine wpAny_bind (wpAny_seqItems gt dt ?_);simp only [Int.toNat_natCast,e];refine wpAny_bind (wpAny_rule (wpAny_bind (wpAny_setField gb db (by simp) ?_)));show wpAny _ _ (newExc (.type "StopIteration") [] >>= _) _ _ _;refine wpAny_bind ?_;simp only [newExc,newTuple];refine wpAny_bind (wpAny_newObj_type ?_ (by size_fits));refine wpAny_bind (m:=firstArgMember _ _) (wpAny_of_eq (a:=Value.none) (by first | rfl | (simp only [firstArgMember];rfl)) ?_);refine wpAny_newObj_type ?_ (by size_fits);simp only [raiseNew];refine wpAny_bind (wpAny_handled ?_);first | rw [show A.in1.handled=none from hd] | rw [hd]
 refine wpAny_bind (wpAny_pure (wpAny_throw ?_));exact k _ _ (((Heap.SameBut.update ..).extBut.push _).push _) ⟨_,Heap.get?_push_size _ rfl,rfl⟩
end
section
variable {X:Cx}
end
structure ZOwn (z TI TO i1 i2:Addr):Prop where
 a1:TI≠z
 a2:TO≠z
 a3:i1≠z
 a4:i2≠z
 a5:TI≠TO
 a6:TI≠i1
 a7:TI≠i2
 a8:TO≠i1
 a9:TO≠i2
 a10:i1≠i2
section
variable {X:Cx}
end
section
variable {X:Cx}
end
section
variable {X:Cx}
def rInD (K:W.Frag) (no:Bool):R2:=λx y H Q=>∃ d ds a ys,uN K H d x/\y=.ref a/\SqL K H a ys/\DatAll K H ds ys/\PyData.canLayAll0 ds=true/\d.canLay0=true/\PyData.depthAll ds<=60/\Q (.bl (Bool.xor no (ds.any λe=>PyData.eqv e d))) H
theorem op_inD (hu:X.A.units+64 < cLine):OpR X (compareOp .In) (rInD X.K false):=by
 intro pins s σ H x y u v Q I rx ry h;obtain ⟨d,ds,a,ys,hx,rfl,hl,hd,c1,c2,c3,q⟩:=h;obtain ⟨bs,r1⟩:=hx.reads I rx;obtain ⟨as,r2⟩:=uN.reads I (d:=.list ds) (v:=.ref a) (.inr ⟨ds,a,ys,rfl,rfl,hl,hd⟩) ry;refine PySem.SeqAt.in_list_reads r2 r1 c1 c2 (by have:=Nat.min_le_left (PyData.depthAll ds) d.depth;omega) ⟨_,H,I,?_,q⟩;exact congrArg Value.bool (Bool.false_xor _).symm
theorem AL (hu:X.A.units+64 < cLine):OpR X (compareOp .NotIn) (rInD X.K true):=by
 intro pins s σ H x y u v Q I rx ry h;obtain ⟨d,ds,a,ys,hx,rfl,hl,hd,c1,c2,c3,q⟩:=h;obtain ⟨bs,r1⟩:=hx.reads I rx;obtain ⟨as,r2⟩:=uN.reads I (d:=.list ds) (v:=.ref a) (.inr ⟨ds,a,ys,rfl,rfl,hl,hd⟩) ry;refine PySem.SeqAt.notIn_list_reads r2 r1 c1 c2 (by have:=Nat.min_le_left (PyData.depthAll ds) d.depth;omega) ⟨_,H,I,?_,q⟩;exact congrArg Value.bool (Bool.true_xor _).symm
end
section
variable {X:Cx}
def zu (K:W.Frag):V->List V->Hp->VK->Prop:=λx vs H Q=>∃(l:Addr) (ys:List V) (y:V) (ds:List PyData) (d:PyData) (j:Nat) (e0:PyData),x=.ref l/\vs=[y]/\H l=some (.lst ys)/\DatAll K H ds ys/\Dat K H d y/\PyData.canLayAll0 ds=true/\d.canLay0=true/\PyData.depthAll ds<=60/\
 ds[j]?=some e0/\PyData.eqv e0 d=true/\(∀ m e,m < j->ds[m]?=some e->PyData.eqv e d=false)/\Q (.int (j:Int)) H
theorem Bm (hu:X.A.units+64 < cLine):MtM X "list.index" (zu X.K):=by
 intro pins s σ H x vs v us Q I rx rv h;obtain ⟨l,ys,y,ds,d,j,e0,rfl,rfl,hH,hds,hd,c1,c2,c3,hj,hit,hno,q⟩:=h;cases rx
 obtain ⟨u,rfl,ru⟩:=vals1 rv;obtain ⟨z,its,n,r,hl,e⟩:=I.lstM hH;obtain ⟨as,ra⟩:=DatAll.reads I ds hds r;obtain ⟨bs,rd⟩:=Dat.reads I d hd ru;have hmap:=PySem.SeqAt.readsAll_map ds its as c1 ra;have hlen:its.length=ds.length:=by rw [<- hmap,List.length_map]
 have hjl:j < ds.length:=(List.getElem?_eq_some_iff.mp hj).1
 have at_:∀ m (hm:m < its.length),ds[m]?=some (PySem.SeqAt.readOf s.heap its[m]):=λm hm=>by
  rw [<- hmap,List.getElem?_map,List.getElem?_eq_getElem hm];rfl
 refine call_meets F.slot_list_index ⟨_,e,rfl⟩ F.entry_list_index (F.args_list_index_2 _ _)
  (PySem.SeqAt.list_indexAt l its.toArray n _ _ u (λy=>PyData.eqv (PySem.SeqAt.readOf s.heap y) d) j (by rw [List.size_toArray];omega) ?_ ?_ ?_) ⟨e,PySem.SeqAt.items_eqAt (as:=as) (by simpa using ra) rd c1 c2 (by have:=Nat.min_le_left (PyData.depthAll ds) d.depth;omega),⟨.int (j:Int),H,I.tok _,⟨_,rfl⟩,q⟩⟩
 ·have:its.length<=sizeLine:=by omega
  have:sizeLine < 2 ^ 62:=by decide
  omega
 ·have h1:=at_ j (by omega);rw [hj] at h1;show PyData.eqv (PySem.SeqAt.readOf s.heap its[j]) d=true;rw [<- Option.some.inj h1];exact hit
 ·intro m hm hlt;have hm':m < its.length:=by simpa using hm
  exact hno m _ hlt (at_ m hm')
end
end L2
namespace Mine
open PySem L2
def kD:Key->PyData
 | .inl i=>.int i
 | .inr x=>.str x
def rwD (r:Rw):PyData:=.tuple (r.map kD)
theorem kD_eqv (a b:Key):PyData.eqv (kD a) (kD b)=decide (a=b):=by
 cases a <;> cases b <;> simp [kD,PyData.eqv] <;> (rw [Bool.eq_iff_iff];simp)
theorem tO (a b:Rw):PyData.eqv (rwD a) (rwD b)=decide (a=b):=by
 simp only [rwD,PyData.eqv];exact zT kD_eqv a b
theorem kD_dat {K:W.Frag} {H:Hp} (k:Key):Dat K H (kD k) (kV k):=by cases k <;> rfl
theorem Em {K:W.Frag} {H:Hp}:∀ r:Rw,DatAll K H (r.map kD) (r.map kV)
 | []=>rfl
 | k::r=>⟨_,_,rfl,kD_dat k,Em r⟩
theorem RwV.dat {K:W.Frag} {H:Hp} {v:V} {r:Rw} (h:RwV H v r):Dat K H (rwD r) v:=by
 obtain ⟨a,rfl,e⟩:=h;exact ⟨a,_,rfl,SqT.of e,Em r⟩
theorem RwV.all {K:W.Frag} {H:Hp} {vs:List V} {rs:List Rw} (h:bW (RwV H) vs rs):DatAll K H (rs.map rwD) vs:=by
 induction h with
 | nil=>rfl
 | cons r _ ih=>exact ⟨_,_,rfl,r.dat,ih⟩
def KOk:Key->Prop
 | .inl _=>True
 | .inr x=>PyData.strOk x=true
def nR (r:Rw):Prop:=∀ k∈r,KOk k
theorem kD_lay {k:Key} (h:KOk k):(kD k).canLay0=true:=by
 cases k with
 | inl _=>rfl
 | inr x=>simp only [kD,PyData.canLay0];exact h
theorem zN:∀{r:Rw},nR r->PyData.canLayAll0 (r.map kD)=true
 | [],_=>rfl
 | k::r,h=>by simp [PyData.canLayAll0,kD_lay (h k (by simp)),zN (r:=r) λx hx=>h x (List.mem_cons_of_mem _ hx)]
theorem iY {x:Str} {is:List Nat} (h:PyData.strOk x=true):nR (dj x is):=λk hk=>by
 rcases List.mem_cons.mp hk with rfl | hk
 ·exact h
 ·obtain ⟨i,_,rfl⟩:=List.mem_map.mp hk;exact True.intro
theorem ja {rs:List Rw} {r:Rw} (h:∀ x∈rs,nR x) (hr:nR r):∀ x∈(aN rs r).1,nR x:=by
 unfold aN;cases idx rs r with
 | some i=>exact h
 | none =>
  intro x hx;rcases List.mem_append.mp hx with hx | hx
  ·exact h x hx
  ·rw [List.mem_singleton.mp hx];exact hr
theorem w5_ok (w:W5):PyData.strOk w.str=true:=by cases w <;> decide+kernel
theorem word_ok (t:Tr):PyData.strOk t.word=true:=by
 cases t with
 | fold w a b=>exact w5_ok w
 | never=>show PyData.strOk "never"=true;decide+kernel
 | always=>show PyData.strOk "always"=true;decide+kernel
 | lp=>show PyData.strOk "p"=true;decide+kernel
 | lq=>show PyData.strOk "q"=true;decide+kernel
 | no t=>show PyData.strOk "not"=true;decide+kernel
theorem mf:∀(t:Tr) (rs:List Rw),(∀ x∈rs,nR x)->∀ x∈(t.putR rs).1,nR x
 | .no t,rs,h=>ja (mf t rs h) (iY (by decide+kernel))
 | .fold w a b,rs,h=>ja (mf b _ (mf a rs h)) (iY (w5_ok w))
 | .never,rs,h=>ja h (iY (by decide+kernel))
 | .always,rs,h=>ja h (iY (by decide+kernel))
 | .lp,rs,h=>ja h (iY (by decide+kernel))
 | .lq,rs,h=>ja h (iY (by decide+kernel))
theorem sF:∀ r:Rw,PyData.depthAll (r.map kD)=0
 | []=>rfl
 | k::r=>by
  rw [List.map_cons];show max (kD k).depth (PyData.depthAll (r.map kD))=0;rw [sF r];cases k <;> rfl
theorem xM {r:Rw} (h:nR r):(rwD r).canLay0=true:=by simp only [rwD,PyData.canLay0];exact zN h
theorem tN:∀{rs:List Rw},(∀ x∈rs,nR x)->PyData.canLayAll0 (rs.map rwD)=true
 | [],_=>rfl
 | r::rs,h=>by simp [PyData.canLayAll0,xM (h r (by simp)),tN (rs:=rs) λx hx=>h x (List.mem_cons_of_mem _ hx)]
theorem Dc (r:Rw):(rwD r).depth<=1:=by
 show PyData.depthAll (r.map kD)+1<=1;rw [sF];exact Nat.le_refl _
theorem nv:∀ rs:List Rw,PyData.depthAll (rs.map rwD)<=1
 | []=>Nat.zero_le _
 | r::rs=>by
  rw [List.map_cons];show max (rwD r).depth (PyData.depthAll (rs.map rwD))<=1;exact Nat.max_le.mpr ⟨Dc r,nv rs⟩
theorem rws_any (rs:List Rw) (r:Rw):((rs.map rwD).any λy=>PyData.eqv y (rwD r))=(idx rs r).isSome:=by
 induction rs with
 | nil=>rfl
 | cons x t ih =>
  rw [List.map_cons,List.any_cons,ih,tO];show _=(if x=r then some 0 else (idx t r).map (·+1)).isSome
  by_cases z:x=r
  ·rw [if_pos z,decide_eq_true z];rfl
  ·rw [if_neg z,decide_eq_false z];cases idx t r <;> rfl
theorem sJ:∀{rs:List Rw} {r:Rw} {i:Nat},idx rs r=some i->∀ m x,m < i->rs[m]?=some x->x≠r
 | [],_,_,h=>by cases h
 | y::t,r,i,h=>by
  intro m x hm hx;unfold idx at h;split at h
  ·cases h;omega
  ·rename_i z;cases e:idx t r with
   | none=>rw [e] at h;cases h
   | some j =>
    rw [e] at h;have h':j+1=i:=Option.some.inj h;subst h';cases m with
    | zero=>cases hx;exact z
    | succ m=>exact sJ e m x (by omega) hx
inductive Gr where
 | ne | al | p | q
 | no (i:Nat)
 | fold (u:W5) (i j:Nat)
def Gr.word:Gr->Str
 | .ne=>"never" | .al=>"always" | .p=>"p" | .q=>"q" | .no _=>"not" | .fold u _ _=>u.str
def Gr.nums:Gr->List Nat
 | .no i=>[i]
 | .fold _ i j=>[i,j]
 | _=>[]
def Gr.rw (g:Gr):Rw:=dj g.word g.nums
def GrOk (k:Nat) (g:Gr):Prop:=∀ i∈g.nums,i < k
def GrsOk (gs:List Gr):Prop:=∀ k g,gs[k]?=some g->GrOk k g
def GrT (ts:List Tr):Gr->Tr->Prop
 | .ne,.never=>True
 | .al,.always=>True
 | .p,.lp=>True
 | .q,.lq=>True
 | .no i,.no t=>ts[i]?=some t
 | .fold u i j,.fold v a b=>u=v/\ts[i]?=some a/\ts[j]?=some b
 | _,_=>False
theorem kC {α:Type} {ts e:List α} {i:Nat} {t:α} (h:ts[i]?=some t):(ts++e)[i]?=some t:=by
 rw [List.getElem?_append_left (List.getElem?_eq_some_iff.mp h).1];exact h
theorem GrT.more {ts e:List Tr} {g:Gr} {t:Tr} (h:GrT ts g t):GrT (ts++e) g t:=by
 cases g <;> cases t <;> first | exact h | exact kC h | exact ⟨h.1,kC h.2.1,kC h.2.2⟩
theorem mX {α:Type} {o:Option α} {a b:α} (h:o=some a) (k:o=some b):a=b:=by rw [h] at k;exact Option.some.inj k
theorem GrT.uniq {ts:List Tr} {g:Gr} {t t':Tr} (h:GrT ts g t) (k:GrT ts g t'):t=t':=by
 cases g with
 | no i =>
  cases t <;> first | exact h.elim | skip
  cases t' <;> first | exact k.elim | skip
  exact congrArg Tr.no (mX h k)
 | fold u i j =>
  cases t <;> first | exact h.elim | skip
  cases t' <;> first | exact k.elim | skip
  obtain ⟨rfl,h1,h2⟩:=h;obtain ⟨rfl,k1,k2⟩:=k;rw [mX h1 k1,mX h2 k2]
 | ne=>cases t <;> first | exact h.elim | (cases t' <;> first | exact k.elim | rfl)
 | al=>cases t <;> first | exact h.elim | (cases t' <;> first | exact k.elim | rfl)
 | p=>cases t <;> first | exact h.elim | (cases t' <;> first | exact k.elim | rfl)
 | q=>cases t <;> first | exact h.elim | (cases t' <;> first | exact k.elim | rfl)
theorem w5_inj {u v:W5} (h:u.str=v.str):u=v:=by
 cases u <;> cases v <;> first | rfl | exact absurd h (by decide+kernel)
theorem vY:∀{a b:List Nat},(a.map λi:Nat=>(Sum.inl (i:Int):Key))=b.map (λi:Nat=>(Sum.inl (i:Int):Key))->a=b
 | [],[],_=>rfl
 | [],_::_,h=>nomatch h
 | _::_,[],h=>nomatch h
 | x::a,y::b,h=>by
  have e1:=(List.cons.inj h).1;have e2:=vY (List.cons.inj h).2;have:(x:Int)=(y:Int):=Sum.inl.inj e1;rw [e2,show x=y by omega]
theorem CZ {g k:Gr} (h:g.rw=k.rw):g=k:=by
 have e1:g.word=k.word:=Sum.inr.inj (List.cons.inj h).1;have e2:g.nums=k.nums:=vY (List.cons.inj h).2;cases g with
 | no i =>
  cases k with
  | no j=>rw [show i=j from (List.cons.inj e2).1]
  | fold u a b=>exact absurd (congrArg List.length e2) (by show 1≠2;decide)
  | _=>exact nomatch e2
 | fold u a b =>
  cases k with
  | no j=>exact absurd (congrArg List.length e2) (by show 2≠1;decide)
  | fold v c d =>
   have z:=List.cons.inj e2;rw [w5_inj e1,z.1,(List.cons.inj z.2).1]
  | _=>exact nomatch e2
 | ne=>cases k <;> first | rfl | exact absurd e1 (by decide+kernel) | exact absurd (congrArg List.length e2) (by show 0≠1;decide) | exact absurd (congrArg List.length e2) (by show 0≠2;decide)
 | al=>cases k <;> first | rfl | exact absurd e1 (by decide+kernel) | exact absurd (congrArg List.length e2) (by show 0≠1;decide) | exact absurd (congrArg List.length e2) (by show 0≠2;decide)
 | p=>cases k <;> first | rfl | exact absurd e1 (by decide+kernel) | exact absurd (congrArg List.length e2) (by show 0≠1;decide) | exact absurd (congrArg List.length e2) (by show 0≠2;decide)
 | q=>cases k <;> first | rfl | exact absurd e1 (by decide+kernel) | exact absurd (congrArg List.length e2) (by show 0≠1;decide) | exact absurd (congrArg List.length e2) (by show 0≠2;decide)
inductive Tab:List Gr->List Tr->Prop where
 | nil:Tab [] []
 | snoc {gs:List Gr} {ts:List Tr} {g:Gr} {t:Tr}:Tab gs ts->GrT ts g t->Tab (gs++[g]) (ts++[t])
theorem Tab.len {gs:List Gr} {ts:List Tr} (h:Tab gs ts):gs.length=ts.length:=by
 induction h with
 | nil=>rfl
 | snoc _ _ ih=>rw [List.length_append,List.length_append,ih];rfl
theorem Tab.at {gs:List Gr} {ts:List Tr} (h:Tab gs ts):∀{i:Nat} {g:Gr},gs[i]?=some g->∃ t,ts[i]?=some t/\GrT ts g t:=by
 induction h with
 | nil=>intro i g e;cases e
 | @snoc gs ts g0 t0 h0 r ih =>
  intro i g e
  by_cases z:i < gs.length
  ·rw [List.getElem?_append_left z] at e;obtain ⟨t,e1,e2⟩:=ih e;exact ⟨t,kC e1,e2.more⟩
  ·have z0:i=gs.length:=by
    have:=(List.getElem?_eq_some_iff.mp e).1;rw [List.length_append] at this;simp at this;omega
   subst z0;rw [List.getElem?_concat_length] at e;cases e
   refine ⟨t0,?_,r.more⟩;rw [h0.len,List.getElem?_concat_length]
theorem Tab.push {gs:List Gr} {ts:List Tr} {g:Gr} {t:Tr} (h:Tab gs ts) (r:GrT ts g t):∃ gs' ts',(aN (gs.map Gr.rw) g.rw).1=gs'.map Gr.rw/\Tab gs' ts'/\ts'[(aN (gs.map Gr.rw) g.rw).2]?=some t/\((t∈ts/\ts'=ts)\/ts'=ts++[t]):=by
 unfold aN;cases z:idx (gs.map Gr.rw) g.rw with
 | some i =>
  have e:=ur z;rw [List.getElem?_map] at e;cases y:gs[i]? with
  | none=>rw [y] at e;cases e
  | some k =>
   rw [y] at e;have ek:k=g:=CZ (Option.some.inj e);subst ek;obtain ⟨t',e1,e2⟩:=h.at y;have et:=e2.uniq r;subst et;exact ⟨gs,ts,rfl,h,e1,.inl ⟨List.mem_of_getElem? e1,rfl⟩⟩
 | none =>
  refine ⟨gs++[g],ts++[t],by rw [List.map_append];rfl,.snoc h r,?_,.inr rfl⟩;show (ts++[t])[(gs.map Gr.rw).length]?=some t;rw [List.length_map,h.len,List.getElem?_concat_length]
theorem GrT.ok {ts:List Tr} {g:Gr} {t:Tr} (h:GrT ts g t):GrOk ts.length g:=by
 intro k hk;cases g with
 | no i =>
  cases t <;> first | exact h.elim | skip
  rw [show k=i by simpa [Gr.nums] using hk];exact (List.getElem?_eq_some_iff.mp h).1
 | fold u i j =>
  cases t <;> first | exact h.elim | skip
  obtain ⟨_,h1,h2⟩:=h;have z:k=i\/k=j:=by simpa [Gr.nums] using hk
  rcases z with rfl | rfl
  ·exact (List.getElem?_eq_some_iff.mp h1).1
  ·exact (List.getElem?_eq_some_iff.mp h2).1
 | ne=>exact nomatch hk
 | al=>exact nomatch hk
 | p=>exact nomatch hk
 | q=>exact nomatch hk
theorem Tab.ok {gs:List Gr} {ts:List Tr} (h:Tab gs ts):GrsOk gs:=by
 induction h with
 | nil=>intro k g e;cases e
 | @snoc gs ts g0 t0 h0 r ih =>
  intro k g e
  by_cases z:k < gs.length
  ·rw [List.getElem?_append_left z] at e;exact ih k g e
  ·have z0:k=gs.length:=by
    have:=(List.getElem?_eq_some_iff.mp e).1;rw [List.length_append] at this;simp at this;omega
   subst z0;rw [List.getElem?_concat_length] at e;cases e
   rw [h0.len];exact r.ok
theorem nF (t:Tr):t∈t.post:=by cases t <;> simp [Tr.post]
theorem dY:∀(t x:Tr),x∈t.post->x.size<=t.size
 | .no t,x,h=>by
  rcases List.mem_append.mp (show x∈t.post++[.no t] from h) with h | h
  ·exact Nat.le_succ_of_le (dY t x h)
  ·rw [List.mem_singleton.mp h];exact Nat.le_refl _
 | .fold u a b,x,h=>by
  rcases List.mem_append.mp (show x∈a.post++b.post++[.fold u a b] from h) with h | h
  ·rcases List.mem_append.mp h with h | h
   ·have:=dY a x h;show _<=a.size+b.size+1;omega
   ·have:=dY b x h;show _<=a.size+b.size+1;omega
  ·rw [List.mem_singleton.mp h];exact Nat.le_refl _
 | .never,x,h=>by rw [List.mem_singleton.mp h];exact Nat.le_refl _
 | .always,x,h=>by rw [List.mem_singleton.mp h];exact Nat.le_refl _
 | .lp,x,h=>by rw [List.mem_singleton.mp h];exact Nat.le_refl _
 | .lq,x,h=>by rw [List.mem_singleton.mp h];exact Nat.le_refl _
theorem qk:∀(t:Tr) {gs:List Gr} {ts:List Tr},Tab gs ts->∃ gs' e,(t.putR (gs.map Gr.rw)).1=gs'.map Gr.rw/\Tab gs' (ts++e)/\(ts++e)[(t.putR (gs.map Gr.rw)).2]?=some t/\(∀ x∈e,x∈t.post)/\(t ∉ ts->∃ e',e=e'++[t]):=by
 have leaf:∀(t:Tr) (g:Gr) {gs:List Gr} {ts:List Tr},Tab gs ts->GrT ts g t->∃ gs' e,(aN (gs.map Gr.rw) g.rw).1=gs'.map Gr.rw/\Tab gs' (ts++e)/\(ts++e)[(aN (gs.map Gr.rw) g.rw).2]?=some t/\(∀ x∈e,x∈t.post)/\(t ∉ ts->∃ e',e=e'++[t]):=by
  intro t g gs ts h r;obtain ⟨gs',ts',e1,e2,e3,e4⟩:=h.push r;rcases e4 with ⟨m,rfl⟩ | rfl
  ·exact ⟨gs',[],e1,by rw [List.append_nil];exact e2,by rw [List.append_nil];exact e3,(λ_ z=>by cases z),λz=>absurd m z⟩
  ·exact ⟨gs',[t],e1,e2,e3,λx z=>by rw [List.mem_singleton.mp z];exact nF t,λ_=>⟨[],rfl⟩⟩
 intro t
 induction t with
 | never=>intro gs ts h;exact leaf .never .ne h trivial
 | always=>intro gs ts h;exact leaf .always .al h trivial
 | lp=>intro gs ts h;exact leaf .lp .p h trivial
 | lq=>intro gs ts h;exact leaf .lq .q h trivial
 | no t ih =>
  intro gs ts h;obtain ⟨gs1,e,a1,a2,a3,a4,_⟩:=ih h;obtain ⟨gs2,ts2,b1,b2,b3,b4⟩:=a2.push (g:=.no (t.putR (gs.map Gr.rw)).2) (t:=.no t) a3;have key:(Tr.no t).putR (gs.map Gr.rw)=aN (gs1.map Gr.rw) (Gr.rw (.no (t.putR (gs.map Gr.rw)).2)):=by rw [<- a1];rfl
  rw [key];have up:∀ x∈t.post,x∈(Tr.no t).post:=λx z=>List.mem_append.mpr (.inl z);rcases b4 with ⟨m,rfl⟩ | rfl
  ·refine ⟨gs2,e,b1,b2,b3,λx z=>up x (a4 x z),λz=>?_⟩;rcases List.mem_append.mp m with m | m
   ·exact absurd m z
   ·exact absurd (dY _ _ (a4 _ m)) (by show ¬t.size+1<=t.size;omega)
  ·refine ⟨gs2,e++[.no t],b1,by rw [<- List.append_assoc];exact b2,by rw [<- List.append_assoc];exact b3,λx z=>?_,λ_=>⟨e,rfl⟩⟩;rcases List.mem_append.mp z with z | z
   ·exact up x (a4 x z)
   ·rw [List.mem_singleton.mp z];exact nF _
 | fold u a b iha ihb =>
  intro gs ts h;obtain ⟨gs1,e,a1,a2,a3,a4,_⟩:=iha h;obtain ⟨gs2,f,c1,c2,c3,c4,_⟩:=ihb a2;have a3':=kC (e:=f) a3;obtain ⟨gs3,ts3,b1,b2,b3,b4⟩:=c2.push (g:=.fold u (a.putR (gs.map Gr.rw)).2 (b.putR (gs1.map Gr.rw)).2) (t:=.fold u a b) ⟨rfl,a3',c3⟩
  have key:(Tr.fold u a b).putR (gs.map Gr.rw)=aN (gs2.map Gr.rw) (Gr.rw (.fold u (a.putR (gs.map Gr.rw)).2 (b.putR (gs1.map Gr.rw)).2)):=by
   show aN (b.putR (a.putR (gs.map Gr.rw)).1).1 (dj u.str [(a.putR (gs.map Gr.rw)).2,(b.putR (a.putR (gs.map Gr.rw)).1).2])=_;rw [a1,c1];rfl
  rw [key];have ua:∀ x∈a.post,x∈(Tr.fold u a b).post:=λx z=>List.mem_append.mpr (.inl (List.mem_append.mpr (.inl z)));have ub:∀ x∈b.post,x∈(Tr.fold u a b).post:=λx z=>List.mem_append.mpr (.inl (List.mem_append.mpr (.inr z)))
  have sz:∀ x∈e++f,x.size<=a.size+b.size/\x∈(Tr.fold u a b).post:=λx z=>by
   rcases List.mem_append.mp z with z | z
   ·exact ⟨Nat.le_trans (dY _ _ (a4 x z)) (Nat.le_add_right _ _),ua x (a4 x z)⟩
   ·exact ⟨Nat.le_trans (dY _ _ (c4 x z)) (Nat.le_add_left _ _),ub x (c4 x z)⟩
  rw [List.append_assoc] at b4;rcases b4 with ⟨m,rfl⟩ | rfl
  ·refine ⟨gs3,e++f,b1,b2,b3,λx z=>(sz x z).2,λz=>?_⟩;rcases List.mem_append.mp m with m | m
   ·exact absurd m z
   ·exact absurd (sz _ m).1 (by show ¬a.size+b.size+1<=a.size+b.size;omega)
  ·refine ⟨gs3,e++f++[.fold u a b],b1,by rw [<- List.append_assoc];exact b2,by rw [<- List.append_assoc];exact b3,λx z=>?_,λ_=>⟨e++f,rfl⟩⟩;rcases List.mem_append.mp z with z | z
   ·exact (sz x z).2
   ·rw [List.mem_singleton.mp z];exact nF _
theorem Di (t:Tr):∃ gs ts,t.rows=gs.map Gr.rw/\Tab gs (ts++[t])/\(∀ x∈ts++[t],x∈t.post)/\gs.length<=t.size:=by
 obtain ⟨gs,e,a1,a2,a3,a4,a5⟩:=qk t (gs:=[]) (ts:=[]) .nil;obtain ⟨e',rfl⟩:=a5 (λz=>nomatch z);have hl:=eQ t [];rw [show (t.putR []).1=gs.map Gr.rw from a1,List.length_map] at hl;exact ⟨gs,e',a1,by simpa using a2,a4,by simpa using hl⟩
end Mine
namespace L2
open PySem PySem.Spec PyProof.Rows
variable {X:Cx}
theorem pe_bm0K {K:W.Frag} {T id:String} {name:Str} {r:V->List V->Hp->VK->Prop} {o:Expr} {to:TE} {apos cpos:Pos} (eK:X.K=K) (pa:PlainAttrs T) (slot:Slot T name id) (hty:typeOf (.builtin id)=pure (.type "method_descriptor")) (hm:MtR X id r) (ho:PE X o to)
  (hbase:attributeBase o name X.env (eval o X.env)=eval o X.env:=by rfl) (hline:(apos.endLine == cpos.line)=true:=by rfl):PE X (.Call (.Attribute o name apos) [] [] cpos) (tBM0 K T r to):=eK ▸ gY pa slot hty hm ho hbase hline
def bQ (X:Cx) (xs:List Str) (js:List Nat):List Str:=xs++js.map λj=>X.N.getD j ""
section
variable {X:Cx} {pins:List (Addr×Obj)} {σ:St} {H:Hp} {s:Shared} {scope:Scope} {cl:List (Str×Addr)} {xs:List Str} {js:List Nat} {fp:List Addr} {N:List Str}
theorem EU (I:Inv X pins σ H s) (hk:scope.kind=.function) (hcell:∀ y∈scope.names,y.2≠.cell)
  (hcl1:∀ y c,cl.lookup y=some c->X.env.cells.lookup y=some c) (hcl2:∀ y,(y,NameKind.free)∈scope.names->∃ c,cl.lookup y=some c)
  (hf:∀ b∈fp,iT X pins H b) (hlt:∀ b∈fp,b < s.heap.objs.size):(bo X scope cl N s H fp).Ok where
 mod:=I.ok.mod
 kind:=hk
 glob:=I.ok.glob
 blt:=I.ok.blt
 above:=Nat.le_refl _
 inj:=λy z c h1 h2=>I.ok.inj y z c (hcl1 y c h1) (hcl1 z c h2)
 has:=λy hy=>by
  have hy':(relabel scope X.env).names.lookup y=some .cell\/(relabel scope X.env).names.lookup y=some .free:=hy;rcases hy' with h | h
  ·obtain ⟨k',m,q⟩:=cR h;rcases q with q | ⟨_,q⟩
   ·exact absurd q (hcell _ m)
   ·subst q;exact hcl2 y m
  ·obtain ⟨k',m,q⟩:=cR h;rcases q with q | ⟨q,_⟩
   ·subst q;exact hcl2 y m
   ·cases q
 cab:=λy c h _=>by cases h
 hd:=I.ok.hd
 frames:=I.ok.frames
 stk:=.inl rfl
 exf:=λb hb=>⟨Nat.ne_of_lt (hlt b hb),λy c h=>(hf b hb).2.2.2.2.1 y c (hcl1 y c h)⟩
 bs:=I.bs
 bsz:=Nat.le_trans I.ok.bsz I.sz
 noex:=λb o e hb=>by
  rcases (hf b hb).2.2.2.1 with z | z
  ·exact I.ok.noex b o e z
  ·exact absurd (Nat.lt_of_lt_of_le (Heap.lt_size e) (Nat.le_trans I.ok.bsz z)) (Nat.lt_irrefl _)
 exfs:=λb hb hz=>(List.mem_cons.mp (I.stkSub b hz)).elim (hf b hb).2.1 (hf b hb).2.2.1
 funs:=I.stack
 frf:=I.stkFree
theorem wL {h₁:Heap} {tk:Nat} (I:Inv X pins σ H s) (hk:scope.kind=.function) (hcell:∀ y∈scope.names,y.2≠.cell)
  (hcl1:∀ y c,cl.lookup y=some c->X.env.cells.lookup y=some c) (hcl2:∀ y,(y,NameKind.free)∈scope.names->∃ c,cl.lookup y=some c) (hjs:fh X scope js)
  (hf:∀ b∈fp,iT X pins H b) (hlt:∀ b∈fp,b < s.heap.objs.size) {m:Str->Option Value} (hn:h₁.Ns s.heap.objs.size m) (hkeep:∀ b o,s.heap.get? b=some o->h₁.get? b=some o) :
  Inv (bo X scope cl (bQ X xs js) s H fp) [] (List.replicate xs.length none++bL js σ) H {s with heap:=h₁,toks:=tk} where
 ok:=EU I hk hcell hcl1 hcl2 hf hlt
 os:=rfl
 bare:=I.bare
 base:=Un.kept hkeep
 loc:=by
  refine ⟨m,hn,λi y v h1 h2 h3=>?_⟩
  by_cases hik:i < xs.length
  ·rw [List.getElem?_append_left (by simpa using hik),List.getElem?_replicate_of_lt hik] at h2;cases h2
  ·generalize hkk:i - xs.length=k
   have h1':(js.map λj=>X.N.getD j "")[k]?=some y:=by
    have q:(xs++js.map λj=>X.N.getD j "")[i]?=some y:=h1;rw [List.getElem?_append_right (by omega),hkk] at q;exact q
   have h2':(js.map λj=>(σ[j]?).getD none)[k]?=some (some v):=by
    rw [List.getElem?_append_right (by simp;omega),List.length_replicate,hkk] at h2;exact h2
   rw [List.getElem?_map] at h1' h2';cases hj:js[k]? with
   | none=>rw [hj] at h1';cases h1'
   | some j =>
    rw [hj] at h1' h2';have e1:X.N.getD j ""=y:=Option.some.inj h1';have e2:(σ[j]?).getD none=some v:=Option.some.inj h2';obtain ⟨y',n1,n2,n3,n4⟩:=hjs.all j (List.mem_of_getElem? hj);have e3:y'=y:=by rw [<- e1,List.getD_eq_getElem?_getD,n1];rfl
    subst e3
    have e4:σ[j]?=some (some v):=by
     cases q:σ[j]? with
     | none=>rw [q] at e2;cases e2
     | some a=>rw [q] at e2;exact congrArg some e2
    obtain ⟨m0,_,hl⟩:=I.loc;obtain ⟨u,r,l⟩:=hl j y' v n1 e4 (n2.elim (λz=>Or.inr (Or.inl z)) λz=>Or.inr (Or.inr z));refine ⟨u,r,.inr ⟨n4,?_⟩⟩;rcases l with ⟨l,_⟩ | ⟨_,c,hc,hi⟩
    ·exfalso;rcases n2 with z | z <;> (rw [z] at l;cases l)
    ·obtain ⟨c',hc'⟩:=hcl2 y' n3;have e5:=hcl1 y' c' hc';rw [hc] at e5;have e6:=Option.some.inj e5;subst e6;obtain ⟨o,ho,hd⟩:=hi;exact ⟨c,hc',o,hkeep c o ho,hd⟩
 cell:=λy c h=>by
  obtain ⟨v,o,ho,hd⟩:=I.cell y c (hcl1 y c h);exact ⟨v,o,hkeep c o ho,hd⟩
 free:=I.hok.fresh (Nat.le_refl _)
 freeC:=λy c h=>I.freeC y c (hcl1 y c h)
 pin:=λp hp=>absurd (show p∈([]:List (Addr×Obj)) from hp) (by simp)
 hok:=I.hok.kept hkeep
 len:=by
  show (List.replicate xs.length none++bL js σ).length=(bQ X xs js).length;simp [bL,bQ]
end
def sV (n:Nat) (wi:TI) (g:TG) (te:TE) (js:List Nat):TE:=λσ H Q=>wi σ H λJ H1=>∀ D,H1 D=none->
 ∃ W:Nat->Nat->Hp->Prop,(∃ m,W 0 m (upd H1 D (.lst [])))/\∀ i m H2,W i m H2->(J.stop i H2/\Q (.ref D) H2)\/
  (J.go i H2/\∀ o:St,o.length=n->∀ v H3,J.yld i H2 v H3->g v (o++bL js σ) H3 λσ4 H4=>∃ o',o'.length=n/\σ4=o'++bL js σ/\te (o'++bL js σ) H4 λy H5 =>
   ∃ ys,H5 D=some (.lst ys)/\ys.length < sizeLine/\∃ m',m' < m/\W (i+1) m' (upd H5 D (.lst (ys++[y]))))
section
variable {X:Cx} {elt iter:Expr} {xs:List Str} {elts:List Expr} {kk:Nat} {tp pos:Pos} {scope:Scope} {cl:List (Str×Addr)} {wi:TI} {g:TG} {te:TE} {js:List Nat}
theorem qQ {use:Option (Value->Sem Unit)} {Qv:Value->Shared->Prop} {pins:List (Addr×Obj)} {s:Shared} {σ:St} {H:Hp} {Q:VK}
  (hc:X.calm=true) (hi:PI X (.Tuple elts kk tp) iter wi) (hk:scope.kind=.function) (hcell:∀ y∈scope.names,y.2≠.cell)
  (hcl1:∀ y c,cl.lookup y=some c->X.env.cells.lookup y=some c) (hcl2:∀ y,(y,NameKind.free)∈scope.names->∃ c,cl.lookup y=some c) (hjs:fh X scope js) (hnd:(bQ X xs js).Nodup)
  (hg:∀ s' H' fp,PG (bo X scope cl (bQ X xs js) s' H' fp) (.Tuple elts kk tp) g) (he:∀ s' H' fp,PE (bo X scope cl (bQ X xs js) s' H' fp) elt te)
  (I:Inv X pins σ H s) (h:sV xs.length wi g te js σ H Q)
  (fin:∀(D C:Addr) (H':Hp) (s':Shared),Inv X pins σ H' s'->iT X pins H' C->(∃ m,s'.heap.Ns C m)->Q (.ref D) H'->compPost (model X.prog X.w) X.A X.xe use Qv (.ref D) C (.ok .next) s') :
  wpAny (model X.prog X.w) X.A (eval iter X.env) (λxv s₁=>wpAny (model X.prog X.w) X.A (pyIter xv) (λit s₂=>wpAny (model X.prog X.w) X.A (newList []) (λacc s₃ =>
   wpAny (model X.prog X.w) X.A (newFunctionEnv scope X.env.globals cl [] X.env.qual none .none (some X.env)) (λcenv s₄ =>
    codeAny (model X.prog X.w) X.A (.compStart (.ListComp elt [⟨.Tuple elts kk tp,iter,[],0⟩] scope pos) 0 it acc {cenv with scope:=relabel scope X.env})
     (compPost (model X.prog X.w) X.A X.xe use Qv acc cenv.locals) s₄) X.xe s₃) X.xe s₂) X.xe s₁) X.xe s:=by
 refine thn (hi pins s σ H _ I h) λv s1 h1=>thn h1 λitv s2 h2=>?_;obtain ⟨it,fp,tn,J,H2,e,I2,T,st2,f2,hW⟩:=h2;subst e;obtain ⟨W,⟨m0,w0⟩,turn⟩:=hW s2.heap.objs.size (I2.hok.fresh (Nat.le_refl _));have hlt2:∀ b∈fp,b < s2.heap.objs.size:=λb hb=>let ⟨_,e,_⟩:=T.obj _ _ st2 b hb;Heap.lt_size e
 have I3:Inv X pins σ (upd H2 s2.heap.objs.size (.lst [])) {s2 with heap:=s2.heap.push {cls:=.type "list",data:=.seq ([]:List Value).toArray} }:=
  I2.lnew (t':=s2.toks) (its:=[]) .nil (Nat.zero_le _)
 refine wpAny_newObj_type ?_;have k23:∀ b o,s2.heap.get? b=some o->(s2.heap.push {cls:=.type "list",data:=.seq ([]:List Value).toArray}).get? b=some o:=λb o e=>Heap.get?_push_of_some _ e;have sz3:(s2.heap.push {cls:=.type "list",data:=.seq ([]:List Value).toArray}).objs.size=s2.heap.objs.size+1:=Heap.size_push ..;generalize hs3:({s2 with heap:=s2.heap.push {cls:=.type "list",data:=.seq ([]:List Value).toArray} }:Shared)=s3 at I3
 have hs3':s3.heap=s2.heap.push {cls:=.type "list",data:=.seq ([]:List Value).toArray}:=by rw [<- hs3]
 have hlt3:∀ b∈fp,b < s3.heap.objs.size:=λb hb=>by rw [hs3',sz3];exact Nat.lt_succ_of_lt (hlt2 b hb)
 have f3:∀ b∈fp,iT X pins (upd H2 s2.heap.objs.size (.lst [])) b:=λb hb=>⟨by rw [au (Nat.ne_of_lt (hlt2 b hb))];exact (f2 b hb).1,(f2 b hb).2⟩;refine wpAny_newFunctionEnv hcell (by intro y hy;simp at hy) (λh₁ hns hsb=>?_) hk;have k34:∀ b o,s3.heap.get? b=some o->h₁.get? b=some o:=λb o e=>hsb.extBut b o (Nat.ne_of_lt (Heap.lt_size e)) (Heap.get?_push_of_some _ e);have I4:=wL (xs:=xs) (js:=js) (tk:=s3.toks+([]:List (Str×Value)).length) I3 hk hcell hcl1 hcl2 hjs f3 hlt3 hns k34;have st4:tn 0 h₁:=T.keep 0 _ _ st2 λb hb o e=>k34 b o (by rw [hs3'];exact k23 b o e)
 have stat:∀{H':Hp},(∀ b∈fp,H' b=none)->∀ b∈fp,iT (bo X scope cl (bQ X xs js) s3 (upd H2 s2.heap.objs.size (.lst [])) fp) [] H' b:=λhn b hb =>
  ⟨hn b hb,Nat.ne_of_lt (hlt3 b hb),λhz=>(List.mem_cons.mp (I3.stkSub b hz)).elim (f2 b hb).2.1 (f2 b hb).2.2.1,.inl hb,λy c q=>(f2 b hb).2.2.2.2.1 y c (hcl1 y c q),λp hp=>absurd (show p∈([]:List (Addr×Obj)) from hp) (by simp)⟩
 have back:∀{σ':St} {H':Hp} {s':Shared},Inv (bo X scope cl (bQ X xs js) s3 (upd H2 s2.heap.objs.size (.lst [])) fp) [] σ' H' s'->Inv X pins σ H' s':=λ{σ' H' s'} J' =>
  I3.call' (ch:=fp) J'.os J'.base J'.hok J'.bare λb hb=>⟨(f2 b hb).2.2.2.1,(f2 b hb).2.1,(f2 b hb).2.2.2.2.1,(f2 b hb).2.2.2.2.2⟩
 have loop:codeAny (model X.prog X.w) X.A (.compLoop (.ListComp elt [⟨.Tuple elts kk tp,iter,[],0⟩] scope pos) 0 (.ref it) (.ref s2.heap.objs.size) (compEnvC scope cl s3.heap.objs.size X.env))
   (compPost (model X.prog X.w) X.A X.xe use Qv (.ref s2.heap.objs.size) s3.heap.objs.size) {s3 with heap:=h₁,toks:=s3.toks+([]:List (Str×Value)).length}:=by
  refine PyProof.Rows.LCp.codeAny_compLoop_pair (λn s'=>∃(i:Nat) (o:St) (H':Hp),o.length=xs.length/\Inv (bo X scope cl (bQ X xs js) s3 (upd H2 s2.heap.objs.size (.lst [])) fp) [] (o++bL js σ) H' s'/\tn i s'.heap/\(∀ b∈fp,H' b=none)/\W i n H') ?_ m0
   ⟨0,_,_,List.length_replicate,I4,st4,λb hb=>(f3 b hb).1,w0⟩
  rintro n s5 ⟨i,o,H5,ho,I5,st5,fr5,w5⟩
  rcases turn i n H5 w5 with ⟨stop,q⟩ | ⟨go,step⟩
  ·refine thn (T.done (bo X scope cl (bQ X xs js) s3 (upd H2 s2.heap.objs.size (.lst [])) fp) rfl rfl rfl hc i [] s5 _ H5 _ I5 (stat fr5) st5 stop) λr s6 zz=>?_;obtain ⟨hr,I6⟩:=zz;subst hr;exact fin _ _ H5 s6 (back I6) (I3.fpOk (Nat.le_refl _) I6.free) (let ⟨m,hm,_⟩:=I6.loc;⟨m,hm⟩) q
  ·refine thn (T.item (bo X scope cl (bQ X xs js) s3 (upd H2 s2.heap.objs.size (.lst [])) fp) rfl rfl rfl hc i [] s5 _ H5 _ I5 (stat fr5) st5 go) λr s6 zz=>?_;obtain ⟨u,hr,h6⟩:=zz;subst hr;refine wpAny_mono h6 (λ_ s6' q6=>?_) (λ_ _ f=>f);obtain ⟨v,H6,I6,r6,y6,st6,fr6⟩:=q6;have I6':=I6.pinned (stat fr6) (T.obj _ _ st6);refine wpAny_mono (hg s3 _ fp _ s6' _ H6 v u _ I6' r6 (step o ho v H6 y6)) (λ_ s7 q7=>?_) (λ_ _ f=>False.elim f);obtain ⟨σ7,H7,I7,o7,ho7,e7,q7⟩:=q7;subst e7;refine wpAny_mono (he s3 _ fp _ s7 _ H7 _ I7 q7) (λy s9 q9=>?_) (λ_ _ f=>False.elim f);obtain ⟨yv,H9,I9,r9,ys,hD,hl,m',hm,w9⟩:=q9;refine wpAny_mono (aW (X:=bo X scope cl (bQ X xs js) s3 (upd H2 s2.heap.objs.size (.lst [])) fp) _ s9 _ H9 (.ref s2.heap.objs.size) [yv] (.ref s2.heap.objs.size) [y] (λ_ H'=>H'=upd H9 s2.heap.objs.size (.lst (ys++[yv]))) I9 rfl (.cons r9 .nil) ⟨_,ys,yv,rfl,rfl,hD,hl,rfl⟩) (λ_ s10 q10=>?_) (λ_ _ f=>False.elim f);obtain ⟨_,H10,I10,_,e10⟩:=q10;subst e10;refine ⟨m',hm,i+1,o7,_,ho7,I10.unpinned,T.keep _ _ _ st6 λb hb o e=>(I10.pin (b,o) (List.mem_append_right _ (List.mem_append_right _ (fD hb e)))).1,λb hb=>?_,w9⟩;obtain ⟨o,e,d⟩:=T.obj _ _ st6 b hb;exact (I10.pin (b,o) (List.mem_append_right _ (List.mem_append_right _ (fD hb e)))).2.1
 exact codeAny_compStart_list loop (T.self _ 0 _ _ _ st4 loop)
theorem DG (hc:X.calm=true) (hi:PI X (.Tuple elts kk tp) iter wi) (hk:scope.kind=.function) (hcell:∀ y∈scope.names,y.2≠.cell) (hnames:∀ y∈scope.names,y.2=.local->scope.names.lookup y.1=some .local)
  (hclos:closureFor scope X.env=pure cl) (hcl1:∀ y c,cl.lookup y=some c->X.env.cells.lookup y=some c) (hcl2:∀ y,(y,NameKind.free)∈scope.names->∃ c,cl.lookup y=some c) (hjs:fh X scope js) (hnd:(bQ X xs js).Nodup)
  (hg:∀ s' H' fp,PG (bo X scope cl (bQ X xs js) s' H' fp) (.Tuple elts kk tp) g) (he:∀ s' H' fp,PE (bo X scope cl (bQ X xs js) s' H' fp) elt te)
  (hs:∀ x,foldedSetIterable iter X.env x=pure x:=by intro _;rfl):PE X (.ListComp elt [⟨.Tuple elts kk tp,iter,[],0⟩] scope pos) (sV xs.length wi g te js):=by
 intro pins s σ H Q I h;rw [eval_ListComp];refine wpAny_comprehension_free (use:=none) rfl hs hclos hk hnames (qQ hc hi hk hcell hcl1 hcl2 hjs hnd hg he I h λD C H' s' I' fC hC q=>?_);obtain ⟨m,hm⟩:=hC;refine ⟨m,hm,λh' sb=>?_⟩;obtain ⟨f0,f1,f2,f3,f4,f5⟩:=fC;exact ⟨.ref D,H',I'.turned (t':=s'.toks) (λb o hb e=>(sb.2 b hb).trans e) f0 f1 f3 f4 f5,rfl,q⟩
theorem ko (hc:X.calm=true) (hi:PI X (.Tuple elts kk tp) iter wi) (hk:scope.kind=.function) (hcell:∀ y∈scope.names,y.2≠.cell) (hnames:∀ y∈scope.names,y.2=.local->scope.names.lookup y.1=some .local)
  (hf:∀ p∈scope.names,p.2=.free->X.env.kindOf p.1=some .cell\/X.env.kindOf p.1=some .free) (hjs:fh X scope js) (hnd:(bQ X xs js).Nodup)
  (hg:∀ cl s' H' fp,PG (bo X scope cl (bQ X xs js) s' H' fp) (.Tuple elts kk tp) g) (he:∀ cl s' H' fp,PE (bo X scope cl (bQ X xs js) s' H' fp) elt te)
  (hs:∀ x,foldedSetIterable iter X.env x=pure x:=by intro _;rfl):PE X (.ListComp elt [⟨.Tuple elts kk tp,iter,[],0⟩] scope pos) (sV xs.length wi g te js):=by
 intro pins s σ H Q I h;obtain ⟨cl,e,p1,p2⟩:=uC (pw (js:=js) I λy hy=>hf (y,.free) hy rfl);exact DG hc hi hk hcell hnames e p1 p2 hjs hnd (hg cl) (he cl) hs pins s σ H Q I h
end
open PySem.AutoSeq1
theorem ft {h h':Heap} {it t:Addr} {i:Nat} (z:h.IsTupleIter it t i) (k:∀ o,h.get? it=some o->h'.get? it=some o):h'.IsTupleIter it t i:=let ⟨o,e,r⟩:=z;⟨o,k o e,r⟩
theorem iu {h h':Heap} {t:Addr} {ys:Array Value} (z:h.IsTuple t ys) (k:∀ o,h.get? t=some o->h'.get? t=some o):h'.IsTuple t ys:=let ⟨o,e,r⟩:=z;⟨o,k o e,r⟩
section
variable {prog:Program} {w:World} {A:Around} {E:Value->Shared->Prop} {s:Shared}
theorem Aj {z TI TO i1 i2 l1 l2:Addr} {k1 k2:Nat} {xs ys:Array Value} {x y a b:Value} {Q:Value->Shared->Prop} (D:ZipApart z TI TO i1 i2 l1 l2)
  (gz:IsZip s.heap z TI TO .none) (gI:IsPair s.heap TI (.ref i1) (.ref i2)) (gO:IsPair s.heap TO a b) (t1:s.heap.IsTupleIter i1 l1 k1) (t2:s.heap.IsTupleIter i2 l2 k2) (p1:s.heap.IsTuple l1 xs) (p2:s.heap.IsTuple l2 ys) (ex:xs[k1]?=some x) (ey:ys[k2]?=some y)
  (k:∀ h',IsZip h' z TI TO (rawInt s.heap.objs.size)->IsPair h' TO x y->h'.IsTupleIter i1 l1 (k1+1)->h'.IsTupleIter i2 l2 (k2+1)->IsPair h' s.heap.objs.size x y->(∀ c o,c≠z->c≠TO->c≠i1->c≠i2->s.heap.get? c=some o->h'.get? c=some o)->Q (.ref s.heap.objs.size) {s with heap:=h' }) :
  wpAny (model prog w) A (Builtin.«zip.__next__» ⟨[.ref z],[]⟩) (λfin s'=>∃ v,fin=.done (.ret v)/\Q v s') E s:=by
 show wpAny _ _ (field (.ref z) 2 >>= _) _ _ _;refine wpAny_bind (wpAny_field gz rfl (x:=.bool false) rfl ?_);show wpAny _ _ (field (.ref z) 3 >>= _) _ _ _;refine wpAny_bind (wpAny_field gz rfl (x:=.ref TI) rfl ?_);refine wpAny_bind (wpAny_seqItems gI rfl ?_);show wpAny _ _ (Builtin.SmallTypes.ownedTupleIsFree (.ref z) >>= _) _ _ _;refine wpAny_bind ?_;unfold Builtin.SmallTypes.ownedTupleIsFree;refine wpAny_bind (wpAny_field gz rfl (x:=.none) rfl (wpAny_pure ?_));simp only [if_true];refine wpAny_bind (wpAny_rule ?_);refine wpAny_bind (wpAny_field gz rfl (x:=.ref TO) rfl ?_);refine wpAny_bind (wpAny_setField_rec gz (by simp) λm1 gz1 b1=>?_);replace gz1:IsZip m1 z TI TO .ellipsis:=gz1;refine wpAny_bind ?_;simp only [List.zipIdx_cons,List.zipIdx_nil,List.forIn_cons,List.forIn_nil];refine wpAny_bind (wpAny_bind (wpAny_onRaise ?_));show wpAny _ _ (Builtin.SmallTypes.nextOf (.ref i1) >>= _) _ _ _;refine wpAny_bind (qt (ft t1 λo e=>b1.extBut _ _ D.i1z e) (iu p1 λo e=>b1.extBut _ _ D.l1z e) ex λm2 u2 b2=>wpAny_pure ?_);have gO2:IsPair m2 TO a b:=b2.extBut _ _ D.TOi1 (b1.extBut _ _ D.TOz gO);refine wpAny_bind (wpAny_seqItems gO2 rfl ?_);refine wpAny_bind (wpAny_updateSeq_pair gO2 λm3 gO3 b3=>?_);replace gO3:IsPair m3 TO x b:=gO3;refine wpAny_bind (wpAny_letGo (wpAny_pure ?_));refine wpAny_bind (wpAny_bind (wpAny_onRaise ?_));show wpAny _ _ (Builtin.SmallTypes.nextOf (.ref i2) >>= _) _ _ _;have e3:∀ c o,c≠z->c≠TO->c≠i1->s.heap.get? c=some o->m3.get? c=some o:=λc o n1 n2 n3 e=>b3.extBut _ _ n2 (b2.extBut _ _ n3 (b1.extBut _ _ n1 e));refine wpAny_bind (qt (ft t2 λo e=>e3 _ o D.i2z D.TOi2.symm D.i12.symm e) (iu p2 λo e=>e3 _ o D.l2z D.l2TO D.l2i1 e) ey λm4 u4 b4=>wpAny_pure ?_);have gO4:IsPair m4 TO x b:=b4.extBut _ _ D.TOi2 gO3;refine wpAny_bind (wpAny_seqItems gO4 rfl ?_);refine wpAny_bind (wpAny_updateSeq_pair gO4 λm5 gO5 b5=>?_);replace gO5:IsPair m5 TO x y:=gO5;refine wpAny_bind (wpAny_letGo (wpAny_pure (wpAny_pure ?_)));refine wpAny_bind (wpAny_seqItems gO5 rfl ?_);refine wpAny_bind (wpAny_newTuple ?_);have sz5:m5.objs.size=s.heap.objs.size:=by rw [b5.1,b4.1,b3.1,b2.1,b1.1]
 have e5:∀ c o,c≠TO->c≠i2->m3.get? c=some o->m5.get? c=some o:=λc o n1 n2 e=>b5.extBut _ _ n1 (b4.extBut _ _ n2 e);have gz5:IsZip m5 z TI TO .ellipsis:=e5 _ _ D.TOz.symm D.i2z.symm (b3.extBut _ _ D.TOz.symm (b2.extBut _ _ D.i1z.symm gz1));have u5:m5.IsTupleIter i1 l1 (k1+1):=ft u2 λo e=>e5 _ o D.TOi1.symm D.i12 (b3.extBut _ _ D.TOi1.symm e);have v5:m5.IsTupleIter i2 l2 (k2+1):=ft u4 λo e=>b5.extBut _ _ D.TOi2.symm e;have zl:z < m5.objs.size:=Heap.lt_size gz5;show wpAny _ _ (Builtin.SmallTypes.ownedTupleHandOut (.ref z) (.ref m5.objs.size) >>= _) _ _ _;refine wpAny_bind ?_;unfold Builtin.SmallTypes.ownedTupleHandOut;have gz6:IsZip (m5.push {cls:=.type "tuple",data:=.seq #[x,y] }) z TI TO .ellipsis:=Heap.get?_push_of_some _ gz5;refine wpAny_bind (wpAny_setField_rec gz6 (by simp) λm7 gz7 b7=>?_);replace gz7:IsZip m7 z TI TO (rawInt m5.objs.size):=gz7;refine wpAny_setField_rec gz7 (by simp) λm8 gz8 b8=>?_;replace gz8:IsZip m8 z TI TO (rawInt m5.objs.size):=gz8;have e8:∀ c o,c≠z->m5.get? c=some o->m8.get? c=some o:=λc o n1 e=>b8.extBut _ _ n1 (b7.extBut _ _ n1 (Heap.get?_push_of_some _ e));have gT:IsPair m8 m5.objs.size x y:=b8.extBut _ _ (Nat.ne_of_gt zl) (b7.extBut _ _ (Nat.ne_of_gt zl) (Heap.get?_push_size _ rfl));rw [sz5] at gz8 gT;refine wpAny_pure ⟨_,rfl,?_⟩;show Q (.ref m5.objs.size) _;rw [sz5];exact k m8 gz8 (e8 _ _ D.TOz gO5) (ft u5 λo e=>e8 _ o D.i1z e) (ft v5 λo e=>e8 _ o D.i2z e) gT λc o n1 n2 n3 n4 e=>e8 c o n1 (e5 c o n2 n4 (e3 c o n1 n2 n3 e))
theorem uO {z TI TO i1 i2 l1 l2:Addr} {k1:Nat} {xs:Array Value} {a b:Value} {Q:Fin->Shared->Prop} (hd:A.handled=none) (D:ZipApart z TI TO i1 i2 l1 l2)
  (gz:IsZip s.heap z TI TO .none) (gI:IsPair s.heap TI (.ref i1) (.ref i2)) (gO:IsPair s.heap TO a b) (t1:s.heap.IsTupleIter i1 l1 k1) (p1:s.heap.IsTuple l1 xs) (ex:xs[k1]?=none)
  (k:∀ h' e,(∀ c o,c≠z->c≠TO->c≠i1->c≠i2->s.heap.get? c=some o->h'.get? c=some o)->(∃ o,h'.get? e=some o/\o.cls=.type "StopIteration")->E (.ref e) {s with heap:=h' }) :
  wpAny (model prog w) A (Builtin.«zip.__next__» ⟨[.ref z],[]⟩) Q E s:=by
 show wpAny _ _ (field (.ref z) 2 >>= _) _ _ _;refine wpAny_bind (wpAny_field gz rfl (x:=.bool false) rfl ?_);show wpAny _ _ (field (.ref z) 3 >>= _) _ _ _;refine wpAny_bind (wpAny_field gz rfl (x:=.ref TI) rfl ?_);refine wpAny_bind (wpAny_seqItems gI rfl ?_);show wpAny _ _ (Builtin.SmallTypes.ownedTupleIsFree (.ref z) >>= _) _ _ _;refine wpAny_bind ?_;unfold Builtin.SmallTypes.ownedTupleIsFree;refine wpAny_bind (wpAny_field gz rfl (x:=.none) rfl (wpAny_pure ?_));simp only [if_true];refine wpAny_bind (wpAny_rule ?_);refine wpAny_bind (wpAny_field gz rfl (x:=.ref TO) rfl ?_);refine wpAny_bind (wpAny_setField_rec gz (by simp) λm1 gz1 b1=>?_);replace gz1:IsZip m1 z TI TO .ellipsis:=gz1;refine wpAny_bind ?_;simp only [List.zipIdx_cons,List.zipIdx_nil,List.forIn_cons,List.forIn_nil];refine wpAny_bind (wpAny_bind (wpAny_onRaise ?_));show wpAny _ _ (Builtin.SmallTypes.nextOf (.ref i1) >>= _) _ _ _;refine wpAny_bind (rh hd (ft t1 λo e=>b1.extBut _ _ D.i1z e) (iu p1 λo e=>b1.extBut _ _ D.l1z e) ex λm2 e b2 he=>?_);obtain ⟨oe,ge,ce⟩:=he;have gz2:IsZip m2 z TI TO .ellipsis:=b2 _ _ D.i1z.symm gz1;have ne:e≠z:=λq=>by subst q;rw [gz2] at ge;cases ge;simp at ce
 refine wpAny_setField_rec gz2 (by simp) λm3 _ b3=>k m3 e (λc o n1 _ n3 _ q=>b3.extBut _ _ n1 (b2 _ _ n3 (b1.extBut _ _ n1 q))) ⟨oe,b3.extBut _ _ ne ge,ce⟩
theorem Al (hd:A.handled=none) (z TI TO i1 i2 l1 l2:Addr) (D:ZipApart z TI TO i1 i2 l1 l2) (xs ys:Array Value) (hle:xs.size<=ys.size) :
  WalksT prog w A z [z,TI,TO,i1,i2,l1,l2] [z,TO,i1,i2] xs.size (λi vals=>∃ x y,xs[i]?=some x/\ys[i]?=some y/\vals=#[x,y])
   (λi h=>IsZip h z TI TO .none/\IsPair h TI (.ref i1) (.ref i2)/\(∃ a b,IsPair h TO a b)/\h.IsTupleIter i1 l1 i/\h.IsTupleIter i2 l2 i/\h.IsTuple l1 xs/\h.IsTuple l2 ys)
   (λi T h=>IsZip h z TI TO (rawInt T)/\IsPair h TI (.ref i1) (.ref i2)/\(∃ a b,IsPair h TO a b)/\h.IsTupleIter i1 l1 (i+1)/\h.IsTupleIter i2 l2 (i+1)/\h.IsTuple l1 xs/\h.IsTuple l2 ys/\T≠z/\T≠TO/\T≠i1/\T≠i2) where
 sub:=λc hc=>by
  simp only [List.mem_cons,List.not_mem_nil,or_false] at hc ⊢;rcases hc with q | q | q | q <;> simp [q]
 frame:=λi h h' st kp=>by
  obtain ⟨q1,q2,⟨a,b,q3⟩,q4,q5,q6,q7⟩:=st;exact ⟨kp z (by simp) _ q1,kp TI (by simp) _ q2,⟨a,b,kp TO (by simp) _ q3⟩,ft q4 λo e=>kp i1 (by simp) o e,ft q5 λo e=>kp i2 (by simp) o e,iu q6 λo e=>kp l1 (by simp) o e,iu q7 λo e=>kp l2 (by simp) o e⟩
 item:=λi s Q E hi st k=>by
  obtain ⟨q1,q2,⟨a,b,q3⟩,q4,q5,q6,q7⟩:=st;have hx:xs[i]?=some xs[i]:=Array.getElem?_eq_getElem hi;have hy:ys[i]?=some (ys[i]'(by omega)):=Array.getElem?_eq_getElem (by omega);have hT:s.TypeIs (.ref z) "zip":=⟨_,q1,rfl⟩;have lt:∀{c o},s.heap.get? c=some o->s.heap.objs.size≠c:=λe=>Nat.ne_of_gt (Heap.lt_size e);unfold pyNext;refine wpAny_bind (wpAny_attempt (wpAny_callSpecial?_slot (name:=Str.ofString "__next__") hT F.slot_zip_next (wpAny_call_entry F.slot_zip_next hT F.entry_zip_next (Aj D q1 q2 q3 q4 q5 q6 q7 hx hy λh' a1 a2 a3 a4 a5 kp=>wpAny_pure ?_) (F.args_zip_next_1 _))))
  exact k s.heap.objs.size #[xs[i],ys[i]'(by omega)] h' s.toks ⟨_,_,hx,hy,rfl⟩ (Nat.le_refl _) ⟨_,a5,rfl,_,rfl⟩
   ⟨a1,kp _ _ D.TIz D.TITO D.TIi1 D.TIi2 q2,⟨_,_,a2⟩,a3,a4,iu q6 λo e=>kp _ o D.l1z D.l1TO D.l1i1 D.l1i2 e,iu q7 λo e=>kp _ o D.l2z D.l2TO D.l2i1 D.l2i2 e,lt q1,lt q3,(by obtain ⟨_,e,_⟩:=q4;exact lt e),(by obtain ⟨_,e,_⟩:=q5;exact lt e)⟩
   λc o hc e=>kp c o (λq=>hc (by simp [q])) (λq=>hc (by simp [q])) (λq=>hc (by simp [q])) (λq=>hc (by simp [q])) e
 go:=λelts kk pos i T s Q E hm k=>by
  obtain ⟨q1,q2,⟨a,b,q3⟩,q4,q5,q6,q7,_⟩:=hm;refine wpAny_letOwnedTupleGo_zip q1 λh' gz' b'=>k h' ⟨gz',b'.extBut _ _ D.TIz q2,⟨a,b,b'.extBut _ _ D.TOz q3⟩,ft q4 λo e=>b'.extBut _ _ D.i1z e,ft q5 λo e=>b'.extBut _ _ D.i2z e,iu q6 λo e=>b'.extBut _ _ D.l1z e,iu q7 λo e=>b'.extBut _ _ D.l2z e⟩ λc o hc e=>b'.extBut _ _ (λq=>hc (by simp [q])) e
 apart:=λi T h hm hT=>by
  obtain ⟨_,_,_,_,_,_,_,n1,n2,n3,n4⟩:=hm;simp only [List.mem_cons,List.not_mem_nil,or_false] at hT;rcases hT with q | q | q | q
  ·exact n1 q
  ·exact n2 q
  ·exact n3 q
  ·exact n4 q
 done:=λs Q E st k=>by
  obtain ⟨q1,q2,⟨a,b,q3⟩,q4,q5,q6,q7⟩:=st;have hT:s.TypeIs (.ref z) "zip":=⟨_,q1,rfl⟩;unfold pyNext;refine wpAny_bind (wpAny_attempt (wpAny_callSpecial?_slot (name:=Str.ofString "__next__") hT F.slot_zip_next (wpAny_call_entry F.slot_zip_next hT F.entry_zip_next (uO hd D q1 q2 q3 q4 q6 (Array.getElem?_eq_none (Nat.le_refl _)) λh' e kp ge=>?_) (F.args_zip_next_1 _))));obtain ⟨o,ho,hc⟩:=ge;refine wpAny_bind (wpAny_isInstance (T:="StopIteration") (b:=true) ⟨o,ho,hc⟩ isSubtype_stop ?_);exact wpAny_pure (k h' s.toks λc o hc e=>kp c o (λq=>hc (by simp [q])) (λq=>hc (by simp [q])) (λq=>hc (by simp [q])) (λq=>hc (by simp [q])) e)
 self:=λi s Q E st k=>wpAny_pyIter_zip st.1 k
end
abbrev tz1 (h:Heap) (a:Addr):Heap:=h.push (xA a)
abbrev tz2 (h:Heap) (a b:Addr):Heap:=(tz1 h a).push (xA b)
abbrev tz3 (h:Heap) (a b:Addr):Heap:=(tz2 h a b).push {cls:=.type "tuple",data:=.seq #[.ref h.objs.size,.ref (tz1 h a).objs.size] }
abbrev tz4 (h:Heap) (a b:Addr):Heap:=(tz3 h a b).push {cls:=.type "tuple",data:=.seq #[.none,.none] }
abbrev tz5 (h:Heap) (a b:Addr):Heap:=(tz4 h a b).push {cls:=.type "zip",data:=.fields #[.none,.bool false,.bool false,.ref (tz2 h a b).objs.size,.ref (tz3 h a b).objs.size] }
theorem Ca (a b:Addr) (xs ys:Array Value):Meets (Builtin.«zip.__new__» ⟨[.type "zip",.ref a,.ref b],[]⟩) (λ_ R s=>s.heap.IsTuple a xs/\s.heap.IsTuple b ys/\R (.ok (.ret (.ref (tz4 s.heap a b).objs.size))) {s with heap:=tz5 s.heap a b}):=
 .of_wp λprog w A R s h=>by
  obtain ⟨hp,g,d,tk,os⟩:=s;obtain ⟨q1,q2,h⟩:=h;have su:=sub_zip;have t1:Heap.IsTuple (Shared.heap ⟨hp,g,d,tk,os⟩) a xs:=q1;have t2:Heap.IsTuple (Shared.heap ⟨hp.push (xA a),g,d,tk,os⟩) b ys:=iu q2 λo e=>Heap.get?_push_of_some _ e
  wp_walk using wpAny_pyIter_tuple t1,wpAny_pyIter_tuple t2
  exact ⟨_,rfl,h⟩
theorem BD {prog:Program} {w:World} {A:Around} {E:Value->Shared->Prop} {s:Shared} {a b:Addr} {xs ys:Array Value} {Q:Value->Shared->Prop} (q1:s.heap.IsTuple a xs) (q2:s.heap.IsTuple b ys)
  (k:∀ h',IsZip h' (s.heap.objs.size+4) (s.heap.objs.size+2) (s.heap.objs.size+3) .none->IsPair h' (s.heap.objs.size+2) (.ref s.heap.objs.size) (.ref (s.heap.objs.size+1))->IsPair h' (s.heap.objs.size+3) .none .none->
   h'.IsTupleIter s.heap.objs.size a 0->h'.IsTupleIter (s.heap.objs.size+1) b 0->(∀ c o,s.heap.get? c=some o->h'.get? c=some o)->Q (.ref (s.heap.objs.size+4)) {s with heap:=h' }):wpAny (model prog w) A (call (.type "zip") [.ref a,.ref b]) Q E s:=by
 refine callType_new F.called_zip (by decide) (F.typeCall_zip_2 _ _) (F.newCall_zip_2 _ _) (λobj=>F.args_object_init_3 obj _ _) F.entry_zip_new (Ca a b xs ys) ⟨q1,q2,?_⟩;have z1:(tz1 s.heap a).objs.size=s.heap.objs.size+1:=Heap.size_push ..;have z2:(tz2 s.heap a b).objs.size=s.heap.objs.size+2:=by rw [Heap.size_push,z1]
 have z3:(tz3 s.heap a b).objs.size=s.heap.objs.size+3:=by rw [Heap.size_push,z2]
 have z4:(tz4 s.heap a b).objs.size=s.heap.objs.size+4:=by rw [Heap.size_push,z3]
 have up:∀{h:Heap} {o:Obj} {c:Addr} {q:Obj},h.get? c=some q->(h.push o).get? c=some q:=λe=>Heap.get?_push_of_some _ e;have g5:(tz5 s.heap a b).get? (tz4 s.heap a b).objs.size=some _:=Heap.get?_push_size _ rfl;have g4:(tz5 s.heap a b).get? (tz3 s.heap a b).objs.size=some _:=up (Heap.get?_push_size _ rfl);have g3:(tz5 s.heap a b).get? (tz2 s.heap a b).objs.size=some _:=up (up (Heap.get?_push_size _ rfl));have g2:(tz5 s.heap a b).get? (tz1 s.heap a).objs.size=some _:=up (up (up (Heap.get?_push_size _ rfl)));have g1:(tz5 s.heap a b).get? s.heap.objs.size=some _:=up (up (up (up (Heap.get?_push_size _ rfl))));show _/\_;rw [z2,z3,z4] at g5;rw [z1,z2] at g3;rw [z3] at g4;rw [z1] at g2;rw [z4];exact ⟨⟨_,g5,rfl⟩,k _ g5 g3 g4 ⟨_,g1,rfl,rfl⟩ ⟨_,g2,rfl,rfl⟩ λc o e=>up (up (up (up (up e))))⟩
def srcZT (K:W.Frag) (a b:Addr):Nat->Hp->List V->Prop:=λi H vs=>∃ x y,vs=[x,y]/\(∀ xs,SqT K H a xs->xs[i]?=some x)/\∀ ys,SqT K H b ys->ys[i]?=some y
def BW (K:W.Frag) (a b:Addr):It:=ItT (λi H=>∃ xs ys,SqT K H a xs/\SqT K H b ys/\i < xs.length/\xs.length<=ys.length) (srcZT K a b) λi H=>∃ xs ys,SqT K H a xs/\SqT K H b ys/\xs.length<=i/\xs.length<=ys.length
def tnZT (a b z TI TO i1 i2:Addr) (i:Nat) (h:Heap):Prop:=IsZip h z TI TO .none/\IsPair h TI (.ref i1) (.ref i2)/\(∃ u v,IsPair h TO u v)/\h.IsTupleIter i1 a i/\h.IsTupleIter i2 b i
theorem jv {X:Cx} {pins:List (Addr×Obj)} {σ:St} {H:Hp} {s:Shared} {a b:Addr} {xs:List V} (I:Inv X pins σ H s) (h:SqT X.K H a xs) (f:iT X pins H b):a≠b:=by
 intro e;subst e;obtain ⟨f0,_,_,f3,_⟩:=f;rcases h with (h | ⟨o,h⟩) | ⟨o,its,n,hk,_⟩
 ·rw [f0] at h;cases h
 ·rw [f0] at h;cases h
 ·have g:=I.ok.mod.kin a o hk;rcases f3 with z | z
  ·exact I.ok.noex a o g z
  ·exact absurd (Nat.lt_of_lt_of_le (Heap.lt_size g) (Nat.le_trans I.ok.bsz z)) (Nat.lt_irrefl _)
theorem yO {X:Cx} {pins:List (Addr×Obj)} {σ:St} {H:Hp} {s:Shared} {a b z TI TO i1 i2:Addr} {xs ys:List V} (I:Inv X pins σ H s) (o:ZOwn z TI TO i1 i2) (hf:∀ c∈[z,TI,TO,i1,i2],iT X pins H c) (la:SqT X.K H a xs) (lb:SqT X.K H b ys):ZipApart z TI TO i1 i2 a b:=
 ⟨o.a1,o.a2,o.a3,o.a4,o.a5,o.a6,o.a7,o.a8,o.a9,o.a10,jv I la (hf z (by simp)),jv I la (hf TO (by simp)),jv I la (hf i1 (by simp)),jv I la (hf i2 (by simp)),jv I lb (hf z (by simp)),jv I lb (hf TO (by simp)),jv I lb (hf i1 (by simp)),jv I lb (hf i2 (by simp))⟩
theorem zobjT {h:Heap} {a b z TI TO i1 i2:Addr} {i:Nat} (st:tnZT a b z TI TO i1 i2 i h):∀ c∈[z,TI,TO,i1,i2],∃ o,h.get? c=some o/\∀ v,o.data≠.cell v:=by
 intro c hc;obtain ⟨hz,hTI,⟨u,v,hTO⟩,⟨o1,g1,_,d1⟩,⟨o2,g2,_,d2⟩⟩:=st;simp only [List.mem_cons,List.not_mem_nil,or_false] at hc;rcases hc with rfl | rfl | rfl | rfl | rfl
 ·exact ⟨_,hz,λv z=>by cases z⟩
 ·exact ⟨_,hTI,λv z=>by cases z⟩
 ·exact ⟨_,hTO,λv z=>by cases z⟩
 ·exact ⟨_,g1,λv z=>by rw [d1] at z;cases z⟩
 ·exact ⟨_,g2,λv z=>by rw [d2] at z;cases z⟩
theorem Am {P:Program} {w:World} {K:W.Frag} {elts:List Expr} {kk:Nat} {tpos:Pos} (a b z TI TO i1 i2:Addr) (own:ZOwn z TI TO i1 i2) :
  Turn P w K (.Tuple elts kk tpos) (BW K a b) [z,TI,TO,i1,i2] z (tnZT a b z TI TO i1 i2) where
 mem:=by simp
 obj:=λi h st c hc=>zobjT st c hc
 keep:=λi h h' st k=>by
  obtain ⟨hz,hTI,⟨u,v,hTO⟩,l1,l2⟩:=st;exact ⟨k z (by simp) _ hz,k TI (by simp) _ hTI,⟨u,v,k TO (by simp) _ hTO⟩,ft l1 λo q=>k i1 (by simp) o q,ft l2 λo q=>k i2 (by simp) o q⟩
 item:=by
  intro X hP hw hK hc i pins s σ H E I hf st hg;subst hP hw hK;obtain ⟨xs,ys,hq,hq2,hi,hle⟩:=hg;obtain ⟨its,rv,p,hz⟩:=I.tuple hq;obtain ⟨its2,rv2,p2,hz2⟩:=I.tuple hq2;have hx:xs[i]?=some xs[i]:=List.getElem?_eq_getElem hi;have hy:ys[i]?=some (ys[i]'(by omega)):=List.getElem?_eq_getElem (by omega);obtain ⟨u,hu,ru⟩:=rv.get hx;obtain ⟨u2,hu2,ru2⟩:=rv2.get hy;have e1:=rv.length;have e2:=rv2.length;have D:=yO I own hf hq hq2;have W:=Al (prog:=X.prog) (w:=X.w) (A:=X.A) (I.ok.hd hc) z TI TO i1 i2 a b D its.toArray its2.toArray (by simp only [List.size_toArray];omega);obtain ⟨s1,s2,s3,s4,s5⟩:=id st
  refine rC (fp:=[z,TI,TO,i1,i2]) (vs:=[xs[i],ys[i]'(by omega)]) (src:=srcZT X.K a b) (tn:=tnZT a b z TI TO i1 i2) W I hf (λc hc=>let ⟨o,q,_⟩:=zobjT st c hc;⟨o,q⟩) (λc hc=>?_) (by simp only [List.size_toArray];omega) ⟨s1,s2,s3,s4,s5,p,p2⟩ (λvals hP=>?_) (by show 2<=sizeLine;decide)
   ⟨_,_,rfl,λzs hzs=>by rw [I.tuple_inj hzs hq];exact hx,λzs hzs=>by rw [I.tuple_inj hzs hq2];exact hy⟩ λh st=>⟨st.1,st.2.1,st.2.2.1,st.2.2.2.1,st.2.2.2.2.1⟩
  ·simp only [List.mem_cons,List.not_mem_nil,or_false] at hc ⊢;rcases hc with q | q | q | q <;> simp [q]
  ·obtain ⟨v1,v2,e1,e2,rfl⟩:=hP
   have f1:v1=u:=by
    have q:its[i]?=some v1:=by simpa using e1
    rw [hu] at q;exact (Option.some.inj q).symm
   have f2:v2=u2:=by
    have q:its2[i]?=some v2:=by simpa using e2
    rw [hu2] at q;exact (Option.some.inj q).symm
   subst f1 f2;exact .cons ru (.cons ru2 .nil)
 done:=by
  intro X hP hw hK hc i pins s σ H E I hf st hg;subst hP hw hK;obtain ⟨xs,ys,hq,hq2,hend,hle⟩:=hg;obtain ⟨its,rv,p,hz⟩:=I.tuple hq;have D:=yO I own hf hq hq2;obtain ⟨s1,s2,⟨u,v,s3⟩,s4,s5⟩:=id st;have e1:=rv.length;have hT:s.TypeIs (.ref z) "zip":=⟨_,s1,rfl⟩;have pT:s.heap.IsTuple a its.toArray:=p;unfold pyNext;refine wpAny_bind (wpAny_attempt (wpAny_callSpecial?_slot (name:=Str.ofString "__next__") hT F.slot_zip_next (wpAny_call_entry F.slot_zip_next hT F.entry_zip_next (uO (I.ok.hd hc) D s1 s2 s3 s4 pT (by simp;omega) λh' e kp ge=>?_) (F.args_zip_next_1 _))));obtain ⟨o,ho,hcl⟩:=ge;refine wpAny_bind (wpAny_isInstance (T:="StopIteration") (b:=true) ⟨o,ho,hcl⟩ isSubtype_stop ?_);exact wpAny_pure ⟨rfl,I.turnedL (t':=s.toks) (λc o hc q=>kp c o (λe=>hc (by simp [e])) (λe=>hc (by simp [e])) (λe=>hc (by simp [e])) (λe=>hc (by simp [e])) q) hf⟩
 self:=λ_ _ _ _ _ st h=>wpAny_pyIter_zip st.1 h
section
variable {X:Cx}
def iZipT (K:W.Frag) (ta tb:TE):TI:=λσ H R=>ta σ H λx H1=>tb σ H1 λy H2=>∃ a b xs ys,x=.ref a/\y=.ref b/\SqT K H2 a xs/\SqT K H2 b ys/\R (BW K a b) H2
theorem mn {elts:List Expr} {kk:Nat} {tpos p pos:Pos} {e f:Expr} {te tf:TE} (hg:Gl X "zip") (hm:X.mg "zip"=none) (he:PE X e te) (hf:PE X f tf)
  (hs:starEach [e,f] X.env=[(false,eval e X.env),(false,eval f X.env)]:=by rfl) (hs2:starEach [f] X.env=[(false,eval f X.env)]:=by rfl):PI X (.Tuple elts kk tpos) (.Call (.Name "zip" p) [e,f] [] pos) (iZipT X.K te tf):=by
 intro pins s σ H R I h;have b1:bootBuiltins "zip"=some (.type "zip"):=by decide+kernel
 refine wpAny_Call_Name_kw (nK I hg hm b1 ?_ (by decide) (by decide));refine PyProof.Rows.callWith_type1 ?_ (by rw [hs,hs2]) (by rw [hs2];rfl);rw [hs];refine Calls.spliced_cons (thn (he pins s σ H _ I h) λu s1 zz=>?_);obtain ⟨x,H1,I1,rx,q1⟩:=zz;refine Calls.spliced_cons (thn (hf pins s1 σ H1 _ I1 q1) λu2 s2 zz=>?_);obtain ⟨y,H2,I2,ry,a,b,xs,ys,ex,ey,hq,hq2,q⟩:=zz;subst ex ey;have eu:u=Value.ref a:=rx;have eu2:u2=Value.ref b:=ry;subst eu eu2;refine Calls.spliced_nil ?_;obtain ⟨its,rv,pl,hz⟩:=I2.tuple hq;obtain ⟨its2,rv2,pl2,hz2⟩:=I2.tuple hq2;refine BD (show s2.heap.IsTuple a its.toArray from pl) (show s2.heap.IsTuple b its2.toArray from pl2) λh' z TI TO i1 i2 kp=>?_;have I3:Inv X pins σ H2 {s2 with heap:=h' }:=I2.kept (t':=s2.toks) kp
 refine wpAny_pyIter_zip (s:={s2 with heap:=h' }) z ?_
 have ne:∀ i j:Nat,i≠j->s2.heap.objs.size+i≠s2.heap.objs.size+j:=λi j hij e=>hij (Nat.add_left_cancel e)
 refine ⟨_,[s2.heap.objs.size+4,s2.heap.objs.size+2,s2.heap.objs.size+3,s2.heap.objs.size,s2.heap.objs.size+1],_,BW X.K a b,H2,rfl,I3,
  Am a b _ _ _ _ _ ⟨ne 2 4 (by decide),ne 3 4 (by decide),ne 0 4 (by decide),ne 1 4 (by decide),ne 2 3 (by decide),ne 2 0 (by decide),ne 2 1 (by decide),ne 3 0 (by decide),ne 3 1 (by decide),ne 0 1 (by decide)⟩,
  ⟨z,TI,⟨_,_,TO⟩,i1,i2⟩,λc hc=>?_,q⟩
 have nb:s2.heap.objs.size<=c:=by
  simp only [List.mem_cons,List.not_mem_nil,or_false] at hc;rcases hc with rfl | rfl | rfl | rfl | rfl
  ·exact Nat.le_add_right _ _
  ·exact Nat.le_add_right _ _
  ·exact Nat.le_add_right _ _
  ·exact Nat.le_refl _
  ·exact Nat.le_add_right _ _
 exact I2.fpOk nb (I2.hok.fresh nb)
end
section
variable {X:Cx} {tg:Expr}
end
section
variable {X:Cx}
theorem kA (hc:X.calm=true):fq X (.builtin "min") (λxs H Q=>∃(l:Addr) (ns:List Int),xs=[.ref l]/\SqL X.K H l (ns.map V.int)/\0 < ns.length/\∀ M,M∈ns->(∀ a∈ns,M<=a)->Q (.int M) H):=by
 intro pins s σ H xs us Q I r h;obtain ⟨l,ns,rfl,hq,hne,q⟩:=h;obtain ⟨u,rfl,rx⟩:=vals1 r;cases rx
 obtain ⟨its,rv,pl,_⟩:=I.list hq;have hi:IntsAre its ns:=intsAre_of rv;have hl:=pl.isList;obtain ⟨ys,e⟩:=hi.allInts.items;have en:ns=ys.toList.map (·.1):=by rw [<- hi.numsOf,<- nums_intItems,<- e]
 have sz:ns.length=ys.size:=by rw [en,List.length_map,Array.length_toList]
 rw [e] at hl;refine min_intList (I.ok.hd hc) hl (by omega) λv h' tk hv hk=>?_;obtain ⟨t,rfl⟩:=intItems_at hv;obtain ⟨h1,h2⟩:=argBest_lt (numAt ys) (ys.size - 1);refine ⟨.int _,H,I.kept hk,⟨t,rfl⟩,q _ ?_ λa ha=>?_⟩
 ·rw [numAt_eq,<- en];exact PySem.getD_mem (by omega)
 ·rw [en] at ha;obtain ⟨j,hj,rfl⟩:=mem_getD ha;rw [<- numAt_eq];exact h2 j (by rw [List.length_map,Array.length_toList] at hj;omega)
theorem kB (hc:X.calm=true):fq X (.builtin "max") (λxs H Q=>∃(l:Addr) (ns:List Int),xs=[.ref l]/\SqL X.K H l (ns.map V.int)/\0 < ns.length/\∀ M,M∈ns->(∀ a∈ns,a<=M)->Q (.int M) H):=by
 intro pins s σ H xs us Q I r h;obtain ⟨l,ns,rfl,hq,hne,q⟩:=h;obtain ⟨u,rfl,rx⟩:=vals1 r;cases rx
 obtain ⟨its,rv,pl,_⟩:=I.list hq;have hi:IntsAre its ns:=intsAre_of rv;have hl:=pl.isList;obtain ⟨ys,e⟩:=hi.allInts.items;have en:ns=ys.toList.map (·.1):=by rw [<- hi.numsOf,<- nums_intItems,<- e]
 have sz:ns.length=ys.size:=by rw [en,List.length_map,Array.length_toList]
 rw [e] at hl;refine max_intList (I.ok.hd hc) hl (by omega) λv h' tk hv hk=>?_;obtain ⟨t,rfl⟩:=intItems_at hv;obtain ⟨h1,h2⟩:=argBest_gt (numAt ys) (ys.size - 1);refine ⟨.int _,H,I.kept hk,⟨t,rfl⟩,q _ ?_ λa ha=>?_⟩
 ·rw [numAt_eq,<- en];exact PySem.getD_mem (by omega)
 ·rw [en] at ha;obtain ⟨j,hj,rfl⟩:=mem_getD ha;rw [<- numAt_eq];exact h2 j (by rw [List.length_map,Array.length_toList] at hj;omega)
end
section
variable {X:Cx} {n:Nat} {x:Str} {sp:Sp} {p pos:Pos}
theorem zC (D:Def X.prog X.w X.K X.mg X.base n x [] sp) (hr:dq n X.A) (hg:Gl X x) (hdb:(x == ("__debug__":Str))=false:=by decide):PE X (.Call (.Name x p) [] [] pos) (pH sp [] E0 pG):=by
 obtain ⟨f,fd,F,b,kp,m⟩:=D.ex;exact DH F hr hg m kp b .nil vQ hdb
end
open PySem.W
section
variable {X:Cx} {elt iter:Expr} {xs:List Str} {elts:List Expr} {kk:Nat} {tp pos:Pos} {scope:Scope} {cl:List (Str×Addr)} {wi:TI} {g:TG} {te:TE} {js:List Nat}
theorem Dw {y:Str} {i:Nat} {py spos:Pos} (hN:X.N.Nodup) (hy:X.N[i]?=some y) (hyl:Loc X.env.scope y) (hyf:X.fn y=true\/X.env.scope.names.lookup y=some .local)
  (hsw:swapsWith (.ListComp elt [⟨.Tuple elts kk tp,iter,[],0⟩] scope pos) (some (.Name y py)) spos.line X.env=pure true)
  (hc:X.calm=true) (hi:PI X (.Tuple elts kk tp) iter wi) (hk:scope.kind=.function) (hcell:∀ y∈scope.names,y.2≠.cell) (hnames:∀ y∈scope.names,y.2=.local->scope.names.lookup y.1=some .local)
  (hf:∀ p∈scope.names,p.2=.free->X.env.kindOf p.1=some .cell\/X.env.kindOf p.1=some .free) (hjs:fh X scope js) (hnd:(bQ X xs js).Nodup)
  (hg:∀ cl s' H' fp,PG (bo X scope cl (bQ X xs js) s' H' fp) (.Tuple elts kk tp) g) (he:∀ cl s' H' fp,PE (bo X scope cl (bQ X xs js) s' H' fp) elt te)
  (hs:∀ x,foldedSetIterable iter X.env x=pure x:=by intro _;rfl) :
  PS X (.Assign [.Name y py] (.ListComp elt [⟨.Tuple elts kk tp,iter,[],0⟩] scope pos) spos) (uV i (sV xs.length wi g te js)):=by
 intro pins s σ H D I h;obtain ⟨cl,e,p1,p2⟩:=uC (pw (js:=js) I λy hy=>hf (y,.free) hy rfl);rw [exec_Assign_Name_used _ _ _ _ hsw];refine wpAny_bind (wpAny_standAt (wpAny_bind ?_));show wpAny _ _ (do let _ <- comprehension (.ListComp elt [⟨.Tuple elts kk tp,iter,[],0⟩] scope pos) scope X.env _ (newList []) false (eval iter X.env) (some (assign (.Name y py) X.env))) _ _ s
 refine wpAny_bind (wpAny_mono (wpAny_comprehension_free (use:=some (assign (.Name y py) X.env)) (Q:=λ_ s'=>SP X pins D .next s') rfl hs e hk hnames
  (qQ hc hi hk hcell p1 p2 hjs hnd (hg cl) (he cl) I h λD' C H' s' I' fC hC q=>?_)) (λ_ s' hq=>wpAny_pure (wpAny_pure hq)) λ_ _ e=>e)
 obtain ⟨m,o,es,ep,ho,hd,hr⟩:=hC;obtain ⟨f0,f1,f2,f3,f4,f5⟩:=fC
 have Ip:Inv X (pins++[(C,o)]) σ H' s':=I'.pins_of λp hp=>(List.mem_append.mp hp).elim (λz=>I'.pin p (List.mem_append_right _ z)) λz=>by
  have e:p=(C,o):=by simpa using z
  subst e;exact ⟨ho,f0,f1,f2,λv z=>by rw [hd] at z;cases z⟩
 have hg:PG X (.Name y py) (sM i):=aY hN hy hyl hyf;refine thn (hg _ s' σ H' (.ref D') (.ref D') (λσ' H''=>σ'=σ.set i (some (.ref D'))/\H''=H') Ip rfl ⟨rfl,rfl⟩) λ_ s'' q''=>?_;obtain ⟨σ'',H'',I'',e1,e2⟩:=q'';subst e1 e2;have hp:=(I''.pin (C,o) (by simp)).1;refine ⟨m,⟨o,es,ep,hp,hd,hr⟩,λh' sb=>?_⟩;exact ⟨_,_,(I''.unpinned).turned (t':=s''.toks) (λb o hb e=>(sb.2 b hb).trans e) f0 f1 f3 f4 f5,q⟩
end
section
variable {X:Cx} {es fs:List Expr} {t:TA} {te:TE} {k j:Nat} {p:Pos} {i:Int}
theorem fW (hr:PA X es t):PA X (.Constant (.int i) j p::es) (fo (tC (.int i)) t):=aa aq hr
theorem vR (ha:PE X (.Tuple fs k p) te) (hr:PA X es t):PA X (.Tuple fs k p::es) (fo te t):=aa ha hr
def tK3 (a b c:Int):TE:=tTup (fo (tC (.int a)) (fo (tC (.int b)) (fo (tC (.int c)) pG)))
def eK3 (a b c:Int) (j1 j2 j3 k:Nat) (p1 p2 p3 p:Pos):Expr:=.Tuple [.Constant (.int a) j1 p1,.Constant (.int b) j2 p2,.Constant (.int c) j3 p3] k p
theorem pe_k3 {a b c:Int} {j1 j2 j3 k:Nat} {p1 p2 p3 p:Pos}:PE X (.Tuple [.Constant (.int a) j1 p1,.Constant (.int b) j2 p2,.Constant (.int c) j3 p3] k p) (tK3 a b c):=by
 unfold tK3;refine ba ?_;refine fW ?_;refine fW ?_;refine fW ?_;exact af
theorem tY {a b c:Int} {j1 j2 j3 k:Nat} {p1 p2 p3 p:Pos}:PE X (eK3 a b c j1 j2 j3 k p1 p2 p3 p) (tK3 a b c):=pe_k3
def tSq:TE:=tLst (fo (tK3 1 0 0) (fo (tK3 1 1 0) (fo (tK3 1 1 1) (fo (tK3 1 0 1) pG))))
structure IsSq (e:Expr):Prop where
 ex:∃ a1 a2 a3 a4 q1 q2 q3 q4 b1 b2 b3 b4 r1 r2 r3 r4 c1 c2 c3 c4 s1 s2 s3 s4 d1 d2 d3 d4 t1 t2 t3 t4 p,e=.List [eK3 1 0 0 a1 a2 a3 a4 q1 q2 q3 q4,eK3 1 1 0 b1 b2 b3 b4 r1 r2 r3 r4,eK3 1 1 1 c1 c2 c3 c4 s1 s2 s3 s4,eK3 1 0 1 d1 d2 d3 d4 t1 t2 t3 t4] p
theorem pe_sq {e:Expr} (h:IsSq e):PE X e tSq:=by
 obtain ⟨a1,a2,a3,a4,q1,q2,q3,q4,b1,b2,b3,b4,r1,r2,r3,r4,c1,c2,c3,c4,s1,s2,s3,s4,d1,d2,d3,d4,t1,t2,t3,t4,p,rfl⟩:=h.ex;unfold tSq;refine bI ?_;refine aa tY ?_ rfl;refine aa tY ?_ rfl;refine aa tY ?_ rfl;refine aa tY ?_ rfl;exact af
end
mutual
def Fn (K:W.Frag) (H:Hp):PyData->V->Prop
 | .none,v=>v=.non
 | .bool b,v=>v=.bl b
 | .int i,v=>v=.int i
 | .str x,v=>v=.str x
 | .tuple ds,v=>∃ a xs,v=.ref a/\SqT K H a xs/\gF K H ds xs
 | .list ds,v=>∃ a xs,v=.ref a/\SqL K H a xs/\gF K H ds xs
 | .dict _,_=>False
def gF (K:W.Frag) (H:Hp):List PyData->List V->Prop
 | [],xs=>xs=[]
 | d::ds,xs=>∃ x r,xs=x::r/\Fn K H d x/\gF K H ds r
end
mutual
theorem Dat.m {K:W.Frag} {H:Hp}:∀{d:PyData} {v:V},Dat K H d v->Fn K H d v
 | .none,_,h=>h
 | .bool _,_,h=>h
 | .int _,_,h=>h
 | .str _,_,h=>h
 | .tuple _,_,⟨a,xs,h1,h2,h3⟩=>⟨a,xs,h1,h2,DatAll.m h3⟩
 | .list _,_,h=>False.elim h
 | .dict _,_,h=>h
theorem DatAll.m {K:W.Frag} {H:Hp}:∀{ds:List PyData} {xs:List V},DatAll K H ds xs->gF K H ds xs
 | [],_,h=>h
 | _::_,_,⟨x,r,h1,h2,h3⟩=>⟨x,r,h1,Dat.m h2,DatAll.m h3⟩
end
mutual
theorem Fn.reads {X:Cx} {pins:List (Addr×Obj)} {σ:St} {H:Hp} {s:Shared} (I:Inv X pins σ H s):∀(d:PyData) {v:V} {u:Value},Fn X.K H d v->RelV v u->∃ as,Reads s.heap u d as
 | .none,_,_,h,r=>Dat.reads I .none h r
 | .bool b,_,_,h,r=>Dat.reads I (.bool b) h r
 | .int i,_,_,h,r=>Dat.reads I (.int i) h r
 | .str x,_,_,h,r=>Dat.reads I (.str x) h r
 | .tuple ds,_,_,⟨a,xs,h1,h2,h3⟩,r=>by
  cases h1
  cases (show _=Value.ref a from r)
  obtain ⟨its,rv,⟨o,ho,hc,n,hd⟩,_⟩:=I.tuple h2;obtain ⟨as,ra⟩:=gF.reads I ds h3 rv;exact ⟨as,.tuple ho hc hd (by simpa using ra)⟩
 | .list ds,_,_,⟨a,xs,h1,h2,h3⟩,r=>by
  cases h1
  cases (show _=Value.ref a from r)
  obtain ⟨its,rv,⟨o,n,ho,hc,_,hd⟩,_⟩:=I.list h2;obtain ⟨as,ra⟩:=gF.reads I ds h3 rv;exact ⟨a::as,.list ho hc hd (by simpa using ra)⟩
 | .dict _,_,_,h,_=>False.elim h
theorem gF.reads {X:Cx} {pins:List (Addr×Obj)} {σ:St} {H:Hp} {s:Shared} (I:Inv X pins σ H s):∀(ds:List PyData) {xs:List V} {us:List Value},gF X.K H ds xs->Vals xs us->∃ as,ReadsAll s.heap us ds as
 | [],_,_,h,r=>by
  cases (show _=([]:List V) from h)
  cases r
  exact ⟨[],.nil⟩
 | d::ds,_,_,⟨x,t,h1,h2,h3⟩,r=>by
  cases h1
  cases r with
  | cons r1 r2 =>
   obtain ⟨as,a1⟩:=Fn.reads I d h2 r1;obtain ⟨bs,b1⟩:=gF.reads I ds h3 r2;exact ⟨as++bs,.cons a1 b1⟩
end
section
variable {X:Cx}
end
end L2
namespace Mine
structure T3 where
 u:Int
 v:Int
 w:Int
deriving DecidableEq
namespace Hu
def tl (r p:T3):Int:=r.u*p.v+r.v*p.w+r.w*p.u
def det (p q r:T3):Int:=p.u*(q.v*r.w - q.w*r.v) - p.v*(q.u*r.w - q.w*r.u)+p.w*(q.u*r.v - q.v*r.u)
theorem bD (p q r:T3):det p q r=det r p q:=by simp only [det];grind
theorem yr (p r:T3):det p p r=0:=by simp only [det];grind
theorem yq (p r:T3):det r p p=0:=by simp only [det];grind
theorem det_ab (p r:T3):det p r p=0:=by simp only [det];grind
structure Co (p q X:T3):Prop where
 ex:∃ g a b:Int,0 < g/\0<=a/\0<=b/\g*X.u=a*p.u+b*q.u/\g*X.v=a*p.v+b*q.v/\g*X.w=a*p.w+b*q.w
theorem co_one (p q:T3):Co p q p:=⟨1,1,0,by decide,by decide,by decide,by omega,by omega,by omega⟩
theorem kX {g x:Int} (hg:0 < g) (h:0<=g*x):0<=x:=by
 rcases Int.lt_or_le x 0 with z | z
 ·have:=Int.mul_neg_of_pos_of_neg hg z;omega
 ·exact z
theorem co_1 {p q X Y Z:T3} (h:Co p q X) (h1:0<=det p Y Z) (h2:0<=det q Y Z):0<=det X Y Z:=by
 obtain ⟨g,a,b,hg,ha,hb,e1,e2,e3⟩:=h.ex;refine kX hg ?_;have e:g*det X Y Z=a*det p Y Z+b*det q Y Z:=by simp only [det];grind
 rw [e];have:=Int.mul_nonneg ha h1;have:=Int.mul_nonneg hb h2;omega
theorem co_2 {p q X Y Z:T3} (h:Co p q Y) (h1:0<=det X p Z) (h2:0<=det X q Z):0<=det X Y Z:=by
 rw [bD,bD];rw [bD,bD] at h1 h2;exact co_1 h h1 h2
theorem co_3 {p q X Y Z:T3} (h:Co p q Z) (h1:0<=det X Y p) (h2:0<=det X Y q):0<=det X Y Z:=by
 rw [bD];rw [bD] at h1 h2;exact co_1 h h1 h2
def Tri (L:List T3):Prop:=∀ p q r,[p,q,r].Sublist L->0<=det p q r
theorem mV {α:Type} {L:List α} {i j k:Nat} (h1:i < j) (h2:j < k) (h3:k < L.length):[L[i]'(by omega),L[j]'(by omega),L[k]].Sublist L:=by
 have a3:[L[k]].Sublist (L.drop (j+1)):=by
  rw [List.singleton_sublist];rw [List.mem_iff_getElem];exact ⟨k - (j+1),by simp;omega,by simp [show j+1+(k - (j+1))=k by omega]⟩
 have a2:[L[j]'(by omega),L[k]].Sublist (L.drop (i+1)):=by
  have:[L[j]'(by omega),L[k]].Sublist (L.drop j):=by
   rw [List.drop_eq_getElem_cons (show j < L.length by omega)];exact List.Sublist.cons₂ _ a3
  refine this.trans ?_;have e:L.drop j=(L.drop (i+1)).drop (j - (i+1)):=by rw [List.drop_drop];congr 1;omega
  rw [e];exact List.drop_sublist _ _
 refine List.Sublist.trans ?_ (List.drop_sublist i L);rw [List.drop_eq_getElem_cons (show i < L.length by omega)];exact List.Sublist.cons₂ _ a2
section
variable {α:Type} {f:Nat->List α}
def fl (f:Nat->List α) (n:Nat):List α:=(List.range n).flatMap f
theorem pz:fl f 0=[]:=rfl
theorem aX (n:Nat):fl f (n+1)=fl f n++f n:=by simp [fl,List.range_succ]
theorem sub_one {p:α}:∀{n:Nat},p∈fl f n->∃ i,i < n/\p∈f i
 | 0,h=>by simp [fl] at h
 | n+1,h=>by
  rw [aX] at h;rcases List.mem_append.mp h with h | h
  ·obtain ⟨i,hi,z⟩:=sub_one h;exact ⟨i,by omega,z⟩
  ·exact ⟨n,by omega,h⟩
theorem yQ {p q:α}:∀{n:Nat},[p,q].Sublist (fl f n)->(∃ i j,i < j/\j < n/\p∈f i/\q∈f j)\/∃ i,i < n/\[p,q].Sublist (f i)
 | 0,h=>by have:=h.length_le;simp [fl] at this
 | n+1,h=>by
  rw [aX] at h;obtain ⟨l1,l2,e,h1,h2⟩:=List.sublist_append_iff.mp h
  match l1,e with
  | [],e=>subst e;exact .inr ⟨n,by omega,h2⟩
  | [_],e =>
   simp at e;obtain ⟨rfl,rfl⟩:=e;obtain ⟨i,hi,z⟩:=sub_one (List.singleton_sublist.mp h1);exact .inl ⟨i,n,hi,by omega,z,List.singleton_sublist.mp h2⟩
  | [_,_],e =>
   simp at e;obtain ⟨rfl,rfl,rfl⟩:=e;rcases yQ h1 with ⟨i,j,a,b,c,d⟩ | ⟨i,a,b⟩
   ·exact .inl ⟨i,j,a,by omega,c,d⟩
   ·exact .inr ⟨i,by omega,b⟩
  | _::_::_::_,e=>simp at e
theorem rE {p q r:α}:∀{n:Nat},[p,q,r].Sublist (fl f n)->(∃ i j k,i < j/\j < k/\k < n/\p∈f i/\q∈f j/\r∈f k)\/(∃ i k,i < k/\k < n/\[p,q].Sublist (f i)/\r∈f k)\/(∃ i k,i < k/\k < n/\p∈f i/\[q,r].Sublist (f k))\/∃ i,i < n/\[p,q,r].Sublist (f i)
 | 0,h=>by have:=h.length_le;simp [fl] at this
 | n+1,h=>by
  rw [aX] at h;obtain ⟨l1,l2,e,h1,h2⟩:=List.sublist_append_iff.mp h
  match l1,e with
  | [],e=>subst e;exact .inr (.inr (.inr ⟨n,by omega,h2⟩))
  | [_],e =>
   simp at e;obtain ⟨rfl,rfl⟩:=e;obtain ⟨i,hi,z⟩:=sub_one (List.singleton_sublist.mp h1);exact .inr (.inr (.inl ⟨i,n,hi,by omega,z,h2⟩))
  | [_,_],e =>
   simp at e;obtain ⟨rfl,rfl,rfl⟩:=e;have h2':=List.singleton_sublist.mp h2;rcases yQ h1 with ⟨i,j,a,b,c,d⟩ | ⟨i,a,b⟩
   ·exact .inl ⟨i,j,n,a,b,by omega,c,d,h2'⟩
   ·exact .inr (.inl ⟨i,n,a,by omega,b,h2'⟩)
  | [_,_,_],e =>
   simp at e;obtain ⟨rfl,rfl,rfl,rfl⟩:=e;rcases rE h1 with ⟨i,j,k,a,b,c,d⟩ | ⟨i,k,a,b,c⟩ | ⟨i,k,a,b,c⟩ | ⟨i,a,b⟩
   ·exact .inl ⟨i,j,k,a,b,by omega,d⟩
   ·exact .inr (.inl ⟨i,k,a,by omega,c⟩)
   ·exact .inr (.inr (.inl ⟨i,k,a,by omega,c⟩))
   ·exact .inr (.inr (.inr ⟨i,by omega,b⟩))
  | _::_::_::_::_,e=>simp at e
theorem qH {c:Nat} (h:∀ i,(f i).length<=c):∀ n:Nat,(fl f n).length<=n*c
 | 0=>by simp [fl]
 | n+1=>by
  rw [aX,List.length_append];have:=qH h n;have:=h n;rw [Nat.add_mul];omega
theorem EF {p:α} {i n:Nat} (hi:i < n) (h:p∈f i):p∈fl f n:=by
 unfold fl;exact List.mem_flatMap.mpr ⟨i,List.mem_range.mpr hi,h⟩
end
def z3:T3:=⟨1,0,0⟩
def cor (h:List T3) (i:Nat):T3:=h.getD (i % h.length) z3
theorem cy {h:List T3} {i:Nat} (hi:i < h.length):cor h i=h[i]:=by
 unfold cor;rw [Nat.mod_eq_of_lt hi,List.getD_eq_getElem?_getD,List.getElem?_eq_getElem hi];rfl
theorem bV (h:List T3):cor h h.length=cor h 0:=by
 unfold cor;rw [Nat.mod_self,Nat.zero_mod]
theorem bS {h:List T3} (h0:0 < h.length) (i:Nat):cor h i∈h:=by
 have:i % h.length < h.length:=Nat.mod_lt _ h0;unfold cor;rw [List.getD_eq_getElem?_getD,List.getElem?_eq_getElem this];exact List.getElem_mem this
theorem Dm {h:List T3} (T:Tri h) {i j k:Nat} (h1:i<=j) (h2:j<=k) (h3:k < h.length):0<=det (cor h i) (cor h j) (cor h k):=by
 rcases Nat.lt_or_ge i j with a | a
 ·rcases Nat.lt_or_ge j k with b | b
  ·rw [cy (show i < h.length by omega),cy (show j < h.length by omega),cy h3];exact T _ _ _ (mV a b h3)
  ·rw [show j=k by omega,yq];exact Int.le_refl 0
 ·rw [show i=j by omega,yr];exact Int.le_refl 0
theorem tR {h:List T3} (T:Tri h) {i j k:Nat} (h1:i<=j) (h2:j<=k) (h3:k<=h.length):0<=det (cor h i) (cor h j) (cor h k):=by
 rcases Nat.lt_or_ge k h.length with c | c
 ·exact Dm T h1 h2 c
 ·rw [show k=h.length by omega,bV,bD];rcases Nat.lt_or_ge j h.length with d | d
  ·exact Dm T (Nat.zero_le _) h1 d
  ·rw [show j=h.length by omega,bV,det_ab];exact Int.le_refl 0
structure Part (h:List T3) (f:Nat->List T3):Prop where
 co:∀ i,i < h.length->∀ p∈f i,Co (cor h i) (cor h (i+1)) p
 two:∀ i,i < h.length->∀ p q,[p,q].Sublist (f i)->p=cor h i
 len:∀ i,(f i).length<=2
end Hu
namespace Hu
def nm (p q s t:Int):Int:=(t.natAbs:Int)*p+(s.natAbs:Int)*q
def gg (U V W:Int):Int:=Lo.gc (Lo.gc U V) W
def mid (p q:T3) (s t:Int):T3:=
 ⟨(nm p.u q.u s t).fdiv (gg (nm p.u q.u s t) (nm p.v q.v s t) (nm p.w q.w s t)),(nm p.v q.v s t).fdiv (gg (nm p.u q.u s t) (nm p.v q.v s t) (nm p.w q.w s t)),(nm p.w q.w s t).fdiv (gg (nm p.u q.u s t) (nm p.v q.v s t) (nm p.w q.w s t))⟩
theorem zK (p q:T3) (s t:Int):mid p q (-s) (-t)=mid p q s t:=by simp only [mid,nm,Int.natAbs_neg]
theorem wF (U V W:Int):gg U V W∣U:=Int.dvd_trans (Lo.jO _ _) (Lo.jO _ _)
theorem Ey (U V W:Int):gg U V W∣V:=Int.dvd_trans (Lo.jO _ _) (Lo.mH _ _)
theorem Ex (U V W:Int):gg U V W∣W:=Lo.mH _ _
theorem Bw (U V W:Int):0<=gg U V W:=Lo.sL _ _
theorem lC {U V W:Int} (h:0 < U):0 < gg U V W:=by
 rcases Int.lt_or_eq_of_le (Bw U V W) with z | z
 ·exact z
 ·have:=wF U V W;rw [<- z] at this;have:=Int.zero_dvd.mp this;omega
theorem gg_le {U V W:Int} (h:0 < U):gg U V W<=U:=Int.le_of_dvd h (wF U V W)
theorem div_eq {g x:Int} (h:g∣x):g*x.fdiv g=x:=by
 rw [Int.fdiv_eq_ediv_of_dvd h];exact Int.mul_ediv_cancel' h
structure P3 (b:Nat) (p:T3):Prop where
 n0:0 < p.u
 x0:0<=p.v
 y0:0<=p.w
 n1:p.u < 2 ^ b
 x1:p.v < 2 ^ b
 y1:p.w < 2 ^ b
theorem P3.mono {b c:Nat} {p:T3} (h:P3 b p) (z:b<=c):P3 c p:=by
 have e:(2:Int) ^ b<=2 ^ c:=by
  have:=Nat.pow_le_pow_right (n:=2) (by decide) z
  exact_mod_cast this
 exact ⟨h.n0,h.x0,h.y0,Int.lt_of_lt_of_le h.n1 e,Int.lt_of_lt_of_le h.x1 e,Int.lt_of_lt_of_le h.y1 e⟩
theorem lx {a c:Int} {m n:Nat} (h1:a.natAbs < 2 ^ m) (h2:c.natAbs < 2 ^ n):(a*c).natAbs < 2 ^ (m+n):=by
 rw [Int.natAbs_mul,Nat.pow_add];rcases Nat.eq_zero_or_pos c.natAbs with z | z
 ·rw [z,Nat.mul_zero];exact Nat.mul_pos (Nat.pow_pos (by decide)) (Nat.pow_pos (by decide))
 ·exact Nat.lt_of_lt_of_le (Nat.mul_lt_mul_of_pos_right h1 z) (Nat.mul_le_mul_left _ (Nat.le_of_lt h2))
theorem wj {b:Nat} {x:Int} (h0:0<=x) (h:x < 2 ^ b):x.natAbs < 2 ^ b:=by
 have e:((2 ^ b:Nat):Int)=(2:Int) ^ b:=by norm_cast
 omega
theorem nm_b {b e:Nat} {p q s t:Int} (p0:0<=p) (q0:0<=q) (p1:p < 2 ^ b) (q1:q < 2 ^ b) (hs:s.natAbs < 2 ^ e) (ht:t.natAbs < 2 ^ e):0<=nm p q s t/\(nm p q s t).natAbs < 2 ^ (e+b+1):=by
 have a1:=lx (a:=(t.natAbs:Int)) (c:=p) (m:=e) (n:=b) (by simpa using ht) (wj p0 p1);have a2:=lx (a:=(s.natAbs:Int)) (c:=q) (m:=e) (n:=b) (by simpa using hs) (wj q0 q1);have b1:0<=(t.natAbs:Int)*p:=Int.mul_nonneg (by omega) p0;have b2:0<=(s.natAbs:Int)*q:=Int.mul_nonneg (by omega) q0;have e1:2 ^ (e+b+1)=2 ^ (e+b)+2 ^ (e+b):=by rw [Nat.pow_succ];omega
 unfold nm;rw [e1];exact ⟨by omega,by omega⟩
section
variable {b e:Nat} {p q:T3} {s t:Int}
theorem il (hp:P3 b p) (hq:P3 b q) (h:s*t < 0):0 < nm p.u q.u s t:=by
 have s0:s≠0:=λz=>by rw [z] at h;simp at h
 have t0:t≠0:=λz=>by rw [z] at h;simp at h
 have a1:0 < (t.natAbs:Int)*p.u:=Int.mul_pos (by omega) hp.n0;have a2:0 < (s.natAbs:Int)*q.u:=Int.mul_pos (by omega) hq.n0;unfold nm;omega
theorem nJ (hp:P3 b p) (hq:P3 b q) (h:s*t < 0):Co p q (mid p q s t):=by
 have g0:=lC (V:=nm p.v q.v s t) (W:=nm p.w q.w s t) (il hp hq h);exact ⟨gg (nm p.u q.u s t) (nm p.v q.v s t) (nm p.w q.w s t),t.natAbs,s.natAbs,g0,by omega,by omega,div_eq (wF _ _ _),div_eq (Ey _ _ _),div_eq (Ex _ _ _)⟩
end
structure uM (b l:Nat) (h:List T3):Prop where
 tri:Tri h
 ok:∀ p∈h,P3 b p
 pos:0 < h.length
 few:h.length<=l
def stp (h:List T3) (t:Nat->Int) (i:Nat):List T3:=(if t i<=0 then [cor h i] else [])++(if t i*t (i+1) < 0 then [mid (cor h i) (cor h (i+1)) (t i) (t (i+1))] else [])
def tv (r:T3) (h:List T3) (i:Nat):Int:=tl r (cor h i)
def tn (r:T3) (h:List T3) (i:Nat):Int:=- tl r (cor h i)
def low (r:T3) (h:List T3):List T3:=fl (stp h (tv r h)) h.length
def high (r:T3) (h:List T3):List T3:=fl (stp h (tn r h)) h.length
theorem lN {b l:Nat} {h:List T3} (H:uM b l h) (t:Nat->Int):Part h (stp h t) where
 co:=λi hi p hp=>by
  unfold stp at hp;rcases List.mem_append.mp hp with z | z
  ·split at z
   ·rw [List.mem_singleton.mp z];exact co_one _ _
   ·cases z
  ·split at z
   ·rename_i c;rw [List.mem_singleton.mp z];exact nJ (H.ok _ (bS H.pos i)) (H.ok _ (bS H.pos (i+1))) c
   ·cases z
 two:=λi hi p q s=>by
  unfold stp at s
  by_cases c1:t i<=0 <;> by_cases c2:t i*t (i+1) < 0
  ·rw [if_pos c1,if_pos c2] at s;have:=s.eq_of_length (by simp);simp at this;exact this.1
  ·rw [if_pos c1,if_neg c2] at s;have:=s.length_le;simp at this
  ·rw [if_neg c1,if_pos c2] at s;have:=s.length_le;simp at this
  ·rw [if_neg c1,if_neg c2] at s;have:=s.length_le;simp at this
 len:=λi=>by
  unfold stp;rw [List.length_append];split <;> split <;> simp
structure R3 (c:Nat) (r:T3):Prop where
 a:r.u.natAbs < 2 ^ c
 b:r.v.natAbs < 2 ^ c
 c:r.w.natAbs < 2 ^ c
theorem P3.r {b:Nat} {p:T3} (h:P3 b p):R3 b p:=⟨wj (Int.le_of_lt h.n0) h.n1,wj h.x0 h.x1,wj h.y0 h.y1⟩
theorem tl_b {b c:Nat} {r p:T3} (hr:R3 c r) (hp:R3 b p):(tl r p).natAbs < 2 ^ (c+b+2):=by
 have a1:=lx hr.a hp.b;have a2:=lx hr.b hp.c;have a3:=lx hr.c hp.a;have e1:2 ^ (c+b+2)=4*2 ^ (c+b):=by rw [Nat.pow_add];omega
 unfold tl;rw [e1];omega
def fZ (r:T3) (h:List T3):Prop:=(∀ p∈h,0<=tl r p)\/∀ p∈h,tl r p<=0
theorem R3.mono {b c:Nat} {p:T3} (h:R3 b p) (z:b<=c):R3 c p:=by
 have e:=Nat.pow_le_pow_right (n:=2) (by decide) z;exact ⟨Nat.lt_of_lt_of_le h.a e,Nat.lt_of_lt_of_le h.b e,Nat.lt_of_lt_of_le h.c e⟩
end Hu
namespace Hu
theorem uY (r:T3) (h:List T3) (i:Nat):stp h (tn r h) i=(if 0<=tv r h i then [cor h i] else [])++(if tv r h i*tv r h (i+1) < 0 then [mid (cor h i) (cor h (i+1)) (tv r h i) (tv r h (i+1))] else []):=by
 unfold stp tn tv;rw [zK,Int.neg_mul_neg];congr 1
 by_cases c:0<=tl r (cor h i)
 ·rw [if_pos c,if_pos (by omega)]
 ·rw [if_neg c,if_neg (by omega)]
theorem xp (r:T3) (h:List T3) (i:Nat):tv r h (i % h.length)=tv r h i:=by unfold tv cor;rw [Nat.mod_mod]
theorem uA (h:List T3) (i:Nat):cor h (i % h.length)=cor h i:=by unfold cor;rw [Nat.mod_mod]
theorem mK {h:List T3} {i:Nat} (hi:i < h.length):h[i]?=some (cor h i):=by rw [List.getElem?_eq_getElem hi,cy hi]
theorem qG (i n:Nat):((i:Int)+1).fmod (n:Int)=(((i+1) % n:Nat):Int):=by
 rw [Int.fmod_eq_emod_of_nonneg _ (by omega),Int.natCast_emod,Int.natCast_add];rfl
end Hu
namespace Hu
def sqH:List T3:=[⟨1,0,0⟩,⟨1,1,0⟩,⟨1,1,1⟩,⟨1,0,1⟩]
theorem sq_tri:Tri sqH:=by
 intro p q r h;simp only [sqH,List.sublist_cons_iff,List.sublist_nil,List.cons.injEq,reduceCtorEq,false_or,or_false] at h;simp only [List.nil_eq,exists_eq_right_right',and_assoc] at h;grind [det]
theorem sq_hull:uM 1 4 sqH:=⟨sq_tri,λp hp=>by
 simp only [sqH,List.mem_cons,List.not_mem_nil,or_false] at hp;rcases hp with rfl | rfl | rfl | rfl <;> exact ⟨by decide,by decide,by decide,by decide,by decide,by decide⟩,by decide,by decide⟩
theorem uM.mono {b b' l l':Nat} {h:List T3} (H:uM b l h) (h1:b<=b') (h2:l<=l'):uM b' l' h:=⟨H.tri,λp hp=>(H.ok p hp).mono h1,H.pos,Nat.le_trans H.few h2⟩
end Hu
namespace Hu
def cx (p q:T3):Rat:=((p.v:Rat)*q.w - (q.v:Rat)*p.w) / ((p.u:Rat)*q.u)
theorem cx_self (p:T3):cx p p=0:=by unfold cx;grind
theorem qN (p q:T3):cx q p = - cx p q:=by unfold cx;grind
theorem nG {n:Int} (h:0 < n):(n:Rat)≠0:=by
 intro z;have:n=0:=by exact_mod_cast z
 omega
theorem det_rat (p q r:T3):((det p q r:Int):Rat)=(p.u:Rat)*(q.v*r.w - q.w*r.v) - p.v*(q.u*r.w - q.w*r.u)+p.w*(q.u*r.v - q.v*r.u):=by
 unfold det;simp only [Rat.intCast_add,Rat.intCast_sub,Rat.intCast_mul]
theorem wJ {p q r:T3} (hp:0 < p.u) (hq:0 < q.u) (hr:0 < r.u):cx p q+cx q r+cx r p=((det p q r:Int):Rat) / ((p.u:Rat)*q.u*r.u):=by
 rw [det_rat];have h1:=nG hp;have h2:=nG hq;have h3:=nG hr;unfold cx;grind
theorem uz {p q r:T3} (hp:0 < p.u) (hq:0 < q.u) (hr:0 < r.u) (h:det p q r=0):cx p q+cx q r=cx p r:=by
 have e:=wJ hp hq hr;rw [h,qN p r] at e;have z:((0:Int):Rat) / ((p.u:Rat)*q.u*r.u)=0:=by grind
 rw [z] at e;grind
theorem qM {m p q r:T3} (hm:m.u≠0\/m.v≠0\/m.w≠0) (h1:tl m p=0) (h2:tl m q=0) (h3:tl m r=0):det p q r=0:=by
 unfold tl at h1 h2 h3;have a:m.u*det p q r=0:=by unfold det;grind
 have b:m.v*det p q r=0:=by unfold det;grind
 have c:m.w*det p q r=0:=by unfold det;grind
 rcases hm with z | z | z
 ·exact (Int.mul_eq_zero.mp a).resolve_left z
 ·exact (Int.mul_eq_zero.mp b).resolve_left z
 ·exact (Int.mul_eq_zero.mp c).resolve_left z
def sm:List T3->Rat
 | []=>0
 | [_]=>0
 | a::b::r=>cx a b+sm (b::r)
theorem dP:∀(L:List T3) (a b:T3),sm (L++[a,b])=sm (L++[a])+cx a b
 | [],a,b=>by simp only [sm,List.nil_append];grind
 | [x],a,b=>by simp only [sm,List.cons_append,List.nil_append];grind
 | x::y::r,a,b=>by
  have:=dP (y::r) a b;simp only [sm,List.cons_append] at *;rw [this];grind
def lD (L:List T3):Rat:=match L with
 | []=>0
 | a::r=>sm (a::r++[a])
def su (f:Nat->Rat):Nat->Rat
 | 0=>0
 | k+1=>su f k+f k
theorem xF (f g:Nat->Rat):∀ k,su (λi=>f i+g i) k=su f k+su g k
 | 0=>by simp only [su];grind
 | k+1=>by simp only [su];rw [xF f g k];grind
theorem yR (f:Nat->Rat):∀ k,su (λi=>f i - f (i+1)) k=f 0 - f k
 | 0=>by simp only [su];grind
 | k+1=>by simp only [su];rw [yR f k];grind
theorem uX {f g:Nat->Rat}:∀{k},(∀ i,i < k->f i=g i)->su f k=su g k
 | 0,_=>rfl
 | k+1,h=>by simp only [su];rw [uX λi hi=>h i (by omega),h k (by omega)]
section
variable {h:List T3} {t:Nat->Int} {m X:T3}
def md (h:List T3) (t:Nat->Int) (i:Nat):T3:=mid (cor h i) (cor h (i+1)) (t i) (t (i+1))
def gL (h:List T3) (t:Nat->Int) (X:T3) (i:Nat):Rat:=
 if t i<=0 then (if t (i+1)<=0 then cx (cor h i) (cor h (i+1)) else if t i < 0 then cx (cor h i) (md h t i)+cx (md h t i) X else cx (cor h i) X)
 else (if t (i+1) < 0 then cx X (md h t i)+cx (md h t i) (cor h (i+1)) else if t (i+1)=0 then cx X (cor h (i+1)) else 0)
structure Wk (h:List T3) (t:Nat->Int) (m X:T3):Prop where
 m0:m.u≠0\/m.v≠0\/m.w≠0
 xu:0 < X.u
 xl:tl m X=0
 cu:∀ i,0 < (cor h i).u
 cz:∀ i,t i=0->tl m (cor h i)=0
 mu:∀ i,t i*t (i+1) < 0->0 < (md h t i).u
 ml:∀ i,t i*t (i+1) < 0->tl m (md h t i)=0
def stt (t:Nat->Int) (X:T3):List T3:=if t 0<=0 then [] else [X]
def pp (h:List T3) (t:Nat->Int) (X:T3) (k:Nat):T3:=if t k<=0 then cor h k else X
def On (m:T3) (e:T3):Prop:=tl m e=0/\0 < e.u
theorem Wk.three (W:Wk h t m X) {a b:T3} (ha:On m a) (hb:On m b):cx a X+cx X b=cx a b:=uz ha.2 W.xu hb.2 (qM W.m0 ha.1 W.xl hb.1)
theorem ju {i:Nat} (h1:t i<=0) (h2:¬t i*t (i+1) < 0):stp h t i=[cor h i]:=by unfold stp;rw [if_pos h1,if_neg h2];rfl
theorem lO {i:Nat} (h1:t i<=0) (h2:t i*t (i+1) < 0):stp h t i=[cor h i,md h t i]:=by unfold stp md;rw [if_pos h1,if_pos h2];rfl
theorem gM {i:Nat} (h1:¬t i<=0) (h2:t i*t (i+1) < 0):stp h t i=[md h t i]:=by unfold stp md;rw [if_neg h1,if_pos h2];rfl
theorem jt {i:Nat} (h1:¬t i<=0) (h2:¬t i*t (i+1) < 0):stp h t i=[]:=by unfold stp;rw [if_neg h1,if_neg h2];rfl
theorem walk (W:Wk h t m X):∀ k,su (gL h t X) k=sm (stt t X++fl (stp h t) k++[pp h t X k])/\(¬t k<=0->∃ L e,stt t X++fl (stp h t) k=L++[e]/\On m e)
 | 0=>by
  refine ⟨?_,λz=>⟨[],X,?_,W.xl,W.xu⟩⟩
  ·show 0=sm (stt t X++[]++[pp h t X 0]);unfold stt pp;split
   ·rfl
   ·simp only [sm,List.append_nil,List.cons_append,List.nil_append];rw [cx_self];grind
  ·unfold stt;rw [if_neg z];rfl
 | k+1=>by
  obtain ⟨e,o⟩:=walk W k;show su (gL h t X) k+gL h t X k=_/\_;rw [e,aX]
  by_cases a:t k<=0
  ·have pk:pp h t X k=cor h k:=by unfold pp;rw [if_pos a]
   rw [pk]
   by_cases b:t (k+1)<=0
   ·have n:¬t k*t (k+1) < 0:=by
     have:=Int.mul_nonneg_of_nonpos_of_nonpos a b;omega
    have pk1:pp h t X (k+1)=cor h (k+1):=by unfold pp;rw [if_pos b]
    rw [ju a n,pk1,show gL h t X k=cx (cor h k) (cor h (k+1)) by unfold gL;rw [if_pos a,if_pos b]];refine ⟨?_,λz=>absurd b z⟩;have:=dP (stt t X++fl (stp h t) k) (cor h k) (cor h (k+1));rw [<- this];simp only [List.append_assoc,List.cons_append,List.nil_append]
   ·have pk1:pp h t X (k+1)=X:=by unfold pp;rw [if_neg b]
    by_cases c:t k < 0
    ·have n:t k*t (k+1) < 0:=Int.mul_neg_of_neg_of_pos c (by omega);rw [lO a n,pk1,show gL h t X k=cx (cor h k) (md h t k)+cx (md h t k) X by unfold gL;rw [if_pos a,if_neg b,if_pos c]];refine ⟨?_,λ_=>⟨stt t X++fl (stp h t) k++[cor h k],md h t k,by simp only [List.append_assoc,List.cons_append,List.nil_append],W.ml k n,W.mu k n⟩⟩;have s1:=dP (stt t X++fl (stp h t) k) (cor h k) (md h t k);have s2:=dP (stt t X++fl (stp h t) k++[cor h k]) (md h t k) X;simp only [List.append_assoc,List.cons_append,List.nil_append] at s1 s2 ⊢;rw [s2,s1];grind
    ·have z:t k=0:=by omega
     have n:¬t k*t (k+1) < 0:=by rw [z];omega
     rw [ju a n,pk1,show gL h t X k=cx (cor h k) X by unfold gL;rw [if_pos a,if_neg b,if_neg c]];refine ⟨?_,λ_=>⟨stt t X++fl (stp h t) k,cor h k,by simp only [List.append_assoc],W.cz k z,W.cu k⟩⟩;have:=dP (stt t X++fl (stp h t) k) (cor h k) X;rw [<- this];simp only [List.append_assoc,List.cons_append,List.nil_append]
  ·obtain ⟨L,e1,eL,oe⟩:=o a;have pk:pp h t X k=X:=by unfold pp;rw [if_neg a]
   rw [pk,eL];have s0:=dP L e1 X
   by_cases b:t (k+1) < 0
   ·have n:t k*t (k+1) < 0:=Int.mul_neg_of_pos_of_neg (by omega) b;have pk1:pp h t X (k+1)=cor h (k+1):=by unfold pp;rw [if_pos (by omega)]
    rw [gM a n,pk1,show gL h t X k=cx X (md h t k)+cx (md h t k) (cor h (k+1)) by unfold gL;rw [if_neg a,if_pos b],<- List.append_assoc,eL];refine ⟨?_,λz=>absurd (show t (k+1)<=0 by omega) z⟩;have s1:=dP L e1 (md h t k);have s2:=dP (L++[e1]) (md h t k) (cor h (k+1));have l3:=W.three oe ⟨W.ml k n,W.mu k n⟩;simp only [List.append_assoc,List.cons_append,List.nil_append] at s0 s1 s2 ⊢;rw [s2,s1,s0];grind
   ·have n:¬t k*t (k+1) < 0:=by
     have:=Int.mul_nonneg (show 0<=t k by omega) (show 0<=t (k+1) by omega);omega
    rw [jt a n,List.append_nil,eL]
    by_cases c:t (k+1)=0
    ·have pk1:pp h t X (k+1)=cor h (k+1):=by unfold pp;rw [if_pos (by omega)]
     rw [pk1,show gL h t X k=cx X (cor h (k+1)) by unfold gL;rw [if_neg a,if_neg b,if_pos c]];refine ⟨?_,λz=>absurd (show t (k+1)<=0 by omega) z⟩;have s1:=dP L e1 (cor h (k+1));have l3:=W.three oe ⟨W.cz (k+1) c,W.cu (k+1)⟩;simp only [List.append_assoc,List.cons_append,List.nil_append] at s0 s1 ⊢;rw [s1,s0];grind
    ·have pk1:pp h t X (k+1)=X:=by unfold pp;rw [if_neg (by omega)]
     rw [pk1,show gL h t X k=0 by unfold gL;rw [if_neg a,if_neg b,if_neg c]];refine ⟨by grind,λ_=>⟨L,e1,rfl,oe⟩⟩
end
section
variable {h:List T3} {t:Nat->Int} {m X:T3}
theorem fl_cons {f:Nat->List T3} (k:Nat):fl f (k+1)=[]->fl f k=[]/\f k=[]:=λz=>by rw [aX] at z;exact List.append_eq_nil_iff.mp z
theorem zG (a:¬t 0<=0):∀ k,fl (stp h t) k=[]->0<=t k
 | 0,_=>by omega
 | k+1,z=>by
  obtain ⟨z1,z2⟩:=fl_cons k z;have tk:=zG a k z1
  by_cases b:t k<=0
  ·unfold stp at z2;rw [if_pos b] at z2;exact absurd z2 (by simp)
  ·by_cases c:t k*t (k+1) < 0
   ·rw [gM b c] at z2;exact absurd z2 (by simp)
   ·rcases Int.lt_or_le (t (k+1)) 0 with y | y
    ·exact absurd (Int.mul_neg_of_pos_of_neg (show 0 < t k by omega) y) c
    ·exact y
theorem mI (W:Wk h t m X) (a:¬t 0<=0):∀ k x r,fl (stp h t) k=x::r->On m x
 | 0,x,r,z=>by cases z
 | k+1,x,r,z=>by
  rw [aX] at z;cases e:fl (stp h t) k with
  | cons y r' =>
   rw [e] at z;simp only [List.cons_append,List.cons.injEq] at z;rw [<- z.1];exact mI W a k y r' e
  | nil =>
   rw [e,List.nil_append] at z;have tk:=zG (h:=h) a k e
   by_cases b:t k<=0
   ·have t0:t k=0:=by omega
    rw [ju b (by rw [t0];omega)] at z;simp only [List.cons.injEq] at z;rw [<- z.1];exact ⟨W.cz k t0,W.cu k⟩
   ·by_cases c:t k*t (k+1) < 0
    ·rw [gM b c] at z;simp only [List.cons.injEq] at z;rw [<- z.1];exact ⟨W.ml k c,W.mu k c⟩
    ·rw [jt b c] at z;cases z
theorem sT (W:Wk h t m X) (n0:0 < h.length) (tn:t h.length=t 0) (ne:fl (stp h t) h.length≠[]):su (gL h t X) h.length=lD (fl (stp h t) h.length):=by
 obtain ⟨e,o⟩:=walk W h.length;rw [e]
 by_cases a:t 0<=0
 ·have p0:pp h t X h.length=cor h 0:=by unfold pp;rw [tn,if_pos a,bV]
  have s0:stt t X=[]:=by unfold stt;rw [if_pos a]
  rw [p0,s0,List.nil_append]
  have hd:∃ r,fl (stp h t) h.length=cor h 0::r:=by
   obtain ⟨n,en⟩:∃ n,h.length=n+1:=⟨h.length - 1,by omega⟩;rw [en];clear en e o p0 ne n0 tn
   induction n with
   | zero =>
    rw [aX,pz,List.nil_append];unfold stp;rw [if_pos a];exact ⟨_,rfl⟩
   | succ n ih =>
    obtain ⟨r,er⟩:=ih;rw [aX,er];exact ⟨_,rfl⟩
  obtain ⟨r,er⟩:=hd;rw [er];rfl
 ·have p0:pp h t X h.length=X:=by unfold pp;rw [tn,if_neg a]
  have s0:stt t X=[X]:=by unfold stt;rw [if_neg a]
  obtain ⟨L,e1,eL,oe⟩:=o (by rw [tn];exact a);rw [p0];cases ef:fl (stp h t) h.length with
  | nil=>exact absurd ef ne
  | cons x r =>
   have ox:=mI W a _ x r ef;rw [s0,ef] at eL;rw [s0];have l3:=W.three oe ox;cases L with
   | nil=>simp at eL
   | cons y L1 =>
    simp only [List.cons_append,List.nil_append,List.cons.injEq] at eL;obtain ⟨ey,eL⟩:=eL;show sm (X::(x::r++[X]))=sm (x::r++[x]);rw [eL];have g1:=dP L1 e1 X;have g2:=dP L1 e1 x
    have g3:sm (X::(L1++[e1]++[X]))=cx X x+sm (L1++[e1]++[X]):=by
     have:L1++[e1]++[X]=x::(r++[X]):=by rw [<- eL];rfl
     rw [this];rfl
    rw [g3];simp only [List.append_assoc,List.cons_append,List.nil_append] at g1 g2 ⊢;rw [g1,g2];grind
theorem uW:∀ k,su (λi=>cx (cor h i) (cor h (i+1))) k=sm ((List.range k).map (cor h)++[cor h k])
 | 0=>rfl
 | k+1=>by
  show su _ k+cx (cor h k) (cor h (k+1))=_;rw [uW k,List.range_succ,List.map_append,<- dP];simp only [List.map_cons,List.map_nil,List.append_assoc,List.cons_append,List.nil_append]
theorem cor_all:(List.range h.length).map (cor h)=h:=by
 apply List.ext_getElem
 ·simp
 ·intro i h1 h2;simp only [List.getElem_map,List.getElem_range];exact cy h2
theorem Fc (n0:0 < h.length):su (λi=>cx (cor h i) (cor h (i+1))) h.length=lD h:=by
 rw [uW,cor_all,bV];cases h with
 | nil=>exact absurd n0 (by decide)
 | cons a r=>rfl
theorem cx_mid {b:Nat} {p q:T3} {s u:Int} (hp:P3 b p) (hq:P3 b q) (hs:s*u < 0):cx p (mid p q s u)+cx (mid p q s u) q=cx p q:=by
 obtain ⟨g,x,y,g0,_,_,e1,e2,e3⟩:=(nJ hp hq hs).ex
 have d:det p (mid p q s u) q=0:=by
  have z:g*det p (mid p q s u) q=0:=by unfold det;grind
  exact (Int.mul_eq_zero.mp z).resolve_left (by omega)
 have mu:0 < (mid p q s u).u:=by
  have n0:=il hp hq hs;have gg0:=lC (V:=nm p.v q.v s u) (W:=nm p.w q.w s u) n0;have e:=div_eq (wF (nm p.u q.u s u) (nm p.v q.v s u) (nm p.w q.w s u));rcases Int.lt_or_le 0 (mid p q s u).u with z | z
  ·exact z
  ·have:=Int.mul_nonpos_of_nonneg_of_nonpos (show 0<=gg (nm p.u q.u s u) (nm p.v q.v s u) (nm p.w q.w s u) by omega) z;have e':gg (nm p.u q.u s u) (nm p.v q.v s u) (nm p.w q.w s u)*(mid p q s u).u=nm p.u q.u s u:=e;omega
 exact uz hp.n0 mu hq.n0 d
end
section
variable {h:List T3} {r X:T3} {b:Nat}
theorem ye (i:Nat):md h (tn r h) i=md h (tv r h) i:=by
 unfold md tn;exact zK _ _ _ _
theorem ui {p q:T3} (hp:P3 b p) (hq:P3 b q) (hs:tl r p*tl r q < 0):tl r (mid p q (tl r p) (tl r q))=0/\0 < (mid p q (tl r p) (tl r q)).u:=by
 have n0:=il hp hq hs;have g0:=lC (V:=nm p.v q.v (tl r p) (tl r q)) (W:=nm p.w q.w (tl r p) (tl r q)) n0;have d1:gg (nm p.u q.u (tl r p) (tl r q)) (nm p.v q.v (tl r p) (tl r q)) (nm p.w q.w (tl r p) (tl r q))*(mid p q (tl r p) (tl r q)).u=nm p.u q.u (tl r p) (tl r q):=div_eq (wF _ _ _);have d2:gg (nm p.u q.u (tl r p) (tl r q)) (nm p.v q.v (tl r p) (tl r q)) (nm p.w q.w (tl r p) (tl r q))*(mid p q (tl r p) (tl r q)).v=nm p.v q.v (tl r p) (tl r q):=div_eq (Ey _ _ _);have d3:gg (nm p.u q.u (tl r p) (tl r q)) (nm p.v q.v (tl r p) (tl r q)) (nm p.w q.w (tl r p) (tl r q))*(mid p q (tl r p) (tl r q)).w=nm p.w q.w (tl r p) (tl r q):=div_eq (Ex _ _ _);generalize gg (nm p.u q.u (tl r p) (tl r q)) (nm p.v q.v (tl r p) (tl r q)) (nm p.w q.w (tl r p) (tl r q))=g at g0 d1 d2 d3;generalize mid p q (tl r p) (tl r q)=k at d1 d2 d3 ⊢;refine ⟨?_,?_⟩
 ·have z:g*tl r k=((tl r q).natAbs:Int)*tl r p+((tl r p).natAbs:Int)*tl r q:=by
   have e:g*tl r k=r.u*(g*k.v)+r.v*(g*k.w)+r.w*(g*k.u):=by simp only [tl];grind
   rw [e,d1,d2,d3];simp only [nm,tl];grind
  have y:((tl r q).natAbs:Int)*tl r p+((tl r p).natAbs:Int)*tl r q=0:=by
   generalize tl r p=a at hs ⊢;generalize tl r q=c at hs ⊢;rcases Int.lt_trichotomy a 0 with x | x | x
   ·rcases Int.lt_trichotomy c 0 with w | w | w
    ·have:=Int.mul_pos_of_neg_of_neg x w;omega
    ·rw [w] at hs;omega
    ·rw [show (c.natAbs:Int)=c by omega,show (a.natAbs:Int) = -a by omega];grind
   ·rw [x] at hs;omega
   ·rcases Int.lt_trichotomy c 0 with w | w | w
    ·rw [show (c.natAbs:Int) = -c by omega,show (a.natAbs:Int)=a by omega];grind
    ·rw [w] at hs;omega
    ·have:=Int.mul_pos x w;omega
  rw [y] at z;exact (Int.mul_eq_zero.mp z).resolve_left (by omega)
 ·rcases Int.lt_or_le 0 k.u with z | z
  ·exact z
  ·have:=Int.mul_nonpos_of_nonneg_of_nonpos (show 0<=g by omega) z;omega
theorem g_sum (ok:∀ i,P3 b (cor h i)) (hr:r.u≠0\/r.v≠0\/r.w≠0) (xu:0 < X.u) (xl:tl r X=0) (i:Nat) :
  gL h (tv r h) X i+gL h (tn r h) X i=cx (cor h i) (cor h (i+1))+((if tv r h i=0 then cx (cor h i) X else 0) - (if tv r h (i+1)=0 then cx (cor h (i+1)) X else 0)):=by
 have em:=ye (h:=h) (r:=r) i;have mm:∀(_:tv r h i*tv r h (i+1) < 0),cx (cor h i) (md h (tv r h) i)+cx (md h (tv r h) i) (cor h (i+1))=cx (cor h i) (cor h (i+1)):=λz=>cx_mid (ok i) (ok (i+1)) z;have nn:=qN X (cor h (i+1));have nm':=qN X (md h (tv r h) i);have t1:tn r h i = - tv r h i:=rfl;have t2:tn r h (i+1) = - tv r h (i+1):=rfl;have zz:tv r h i=0->tv r h (i+1)=0->cx (cor h i) X+cx X (cor h (i+1))=cx (cor h i) (cor h (i+1)):=λz1 z2=>uz (ok i).n0 xu (ok (i+1)).n0 (qM hr z1 xl z2);unfold gL;rw [em,t1,t2];generalize tv r h i=a at *;generalize tv r h (i+1)=c at *;rcases Int.lt_trichotomy a 0 with x | x | x
 ·rcases Int.lt_trichotomy c 0 with w | w | w
  ·rw [if_pos (show a<=0 by omega),if_pos (show c<=0 by omega),if_neg (show ¬ -a<=0 by omega),if_neg (show ¬ -c < 0 by omega),if_neg (show ¬ -c=0 by omega),if_neg (show ¬a=0 by omega),if_neg (show ¬c=0 by omega)];grind
  ·rw [if_pos (show a<=0 by omega),if_pos (show c<=0 by omega),if_neg (show ¬ -a<=0 by omega),if_neg (show ¬ -c < 0 by omega),if_pos (show -c=0 by omega),if_neg (show ¬a=0 by omega),if_pos w];grind
  ·have k:=mm (Int.mul_neg_of_neg_of_pos x w);rw [if_pos (show a<=0 by omega),if_neg (show ¬c<=0 by omega),if_pos x,if_neg (show ¬ -a<=0 by omega),if_pos (show -c < 0 by omega),if_neg (show ¬a=0 by omega),if_neg (show ¬c=0 by omega)];grind
 ·rcases Int.lt_trichotomy c 0 with w | w | w
  ·rw [if_pos (show a<=0 by omega),if_pos (show c<=0 by omega),if_pos (show -a<=0 by omega),if_neg (show ¬ -c<=0 by omega),if_neg (show ¬ -a < 0 by omega),if_pos x,if_neg (show ¬c=0 by omega)];grind
  ·have k:=zz x w;rw [if_pos (show a<=0 by omega),if_pos (show c<=0 by omega),if_pos (show -a<=0 by omega),if_pos (show -c<=0 by omega),if_pos x,if_pos w];grind
  ·rw [if_pos (show a<=0 by omega),if_neg (show ¬c<=0 by omega),if_neg (show ¬a < 0 by omega),if_pos (show -a<=0 by omega),if_pos (show -c<=0 by omega),if_pos x,if_neg (show ¬c=0 by omega)];grind
 ·rcases Int.lt_trichotomy c 0 with w | w | w
  ·have k:=mm (Int.mul_neg_of_pos_of_neg x w);rw [if_neg (show ¬a<=0 by omega),if_pos w,if_pos (show -a<=0 by omega),if_neg (show ¬ -c<=0 by omega),if_pos (show -a < 0 by omega),if_neg (show ¬a=0 by omega),if_neg (show ¬c=0 by omega)];grind
  ·rw [if_neg (show ¬a<=0 by omega),if_neg (show ¬c < 0 by omega),if_pos w,if_pos (show -a<=0 by omega),if_pos (show -c<=0 by omega),if_neg (show ¬a=0 by omega),if_pos w];grind
  ·rw [if_neg (show ¬a<=0 by omega),if_neg (show ¬c < 0 by omega),if_neg (show ¬c=0 by omega),if_pos (show -a<=0 by omega),if_pos (show -c<=0 by omega),if_neg (show ¬a=0 by omega)];grind
theorem Cb (ok:∀ i,P3 b (cor h i)) (hr:r.u≠0\/r.v≠0\/r.w≠0) (xu:0 < X.u) (xl:tl r X=0):Wk h (tv r h) r X/\Wk h (tn r h) r X:=by
 have neg:∀ i,tn r h i*tn r h (i+1)=tv r h i*tv r h (i+1):=λi=>by show -tv r h i*-tv r h (i+1)=_;grind
 refine ⟨⟨hr,xu,xl,λi=>(ok i).n0,λi z=>z,λi z=>(ui (ok i) (ok (i+1)) z).2,λi z=>(ui (ok i) (ok (i+1)) z).1⟩,
  ⟨hr,xu,xl,λi=>(ok i).n0,λi z=>by have z':- tl r (cor h i)=0:=z;omega,λi z=>?_,λi z=>?_⟩⟩
 ·rw [ye];rw [neg] at z;exact (ui (ok i) (ok (i+1)) z).2
 ·rw [ye];rw [neg] at z;exact (ui (ok i) (ok (i+1)) z).1
theorem BI {l:Nat} (H:uM b l h) {p q:T3} (hp:p∈h) (hq:q∈h) (p0:tl r p < 0) (q0:0 < tl r q):lD (low r h)+lD (high r h)=lD h:=by
 have ok:∀ i,P3 b (cor h i):=λi=>H.ok _ (bS H.pos i)
 have hr:r.u≠0\/r.v≠0\/r.w≠0:=by
  rcases Decidable.em (r.u=0) with z1 | z1
  ·rcases Decidable.em (r.v=0) with z2 | z2
   ·refine .inr (.inr λz3=>?_);unfold tl at p0;rw [z1,z2,z3] at p0;omega
   ·exact .inr (.inl z2)
  ·exact .inl z1
 have xs:∃ X:T3,0 < X.u/\tl r X=0:=by
  refine ⟨⟨tl r q*p.u + -(tl r p)*q.u,tl r q*p.v + -(tl r p)*q.v,tl r q*p.w + -(tl r p)*q.w⟩,?_,?_⟩
  ·show 0 < tl r q*p.u + -(tl r p)*q.u;have:=Int.mul_pos q0 (H.ok p hp).n0;have:=Int.mul_pos (show 0 < -(tl r p) by omega) (H.ok q hq).n0;omega
  ·show r.u*(tl r q*p.v + -(tl r p)*q.v)+r.v*(tl r q*p.w + -(tl r p)*q.w)+r.w*(tl r q*p.u + -(tl r p)*q.u)=0;simp only [tl];grind
 obtain ⟨X,xu,xl⟩:=xs;obtain ⟨W1,W2⟩:=Cb ok hr xu xl
 have at_:∀{x:T3},x∈h->∃ i,i < h.length/\cor h i=x:=λhx=>by
  obtain ⟨i,hi,e⟩:=List.mem_iff_getElem.mp hx;exact ⟨i,hi,(cy hi).trans e⟩
 have e1:low r h≠[]:=λz=>by
  obtain ⟨i,hi,e⟩:=at_ hp;have:cor h i∈low r h:=EF hi (by unfold stp;rw [if_pos (show tv r h i<=0 by unfold tv;rw [e];omega)];simp);rw [z] at this;cases this
 have e2:high r h≠[]:=λz=>by
  obtain ⟨i,hi,e⟩:=at_ hq;have:cor h i∈high r h:=EF hi (by unfold stp;rw [if_pos (show tn r h i<=0 by unfold tn;rw [e];omega)];simp);rw [z] at this;cases this
 have tl0:tv r h h.length=tv r h 0:=by unfold tv;rw [bV]
 have th0:tn r h h.length=tn r h 0:=by unfold tn;rw [bV]
 have a1:=sT W1 H.pos tl0 e1;have a2:=sT W2 H.pos th0 e2;have a3:=Fc (h:=h) H.pos;show lD (fl (stp h (tv r h)) h.length)+lD (fl (stp h (tn r h)) h.length)=lD h;rw [<- a1,<- a2,<- a3,<- xF,uX (λi _=>g_sum ok hr xu xl i),xF,yR (λi=>if tv r h i=0 then cx (cor h i) X else 0)];rw [tl0,bV];grind
end
end Hu
namespace Hu
def oF (L:List T3):Prop:=∀ p q r,[p,q,r].Sublist L->0 < det p q r
theorem oF.tri {L:List T3} (T:oF L):Tri L:=λp q r s=>Int.le_of_lt (T p q r s)
structure Cs (p q X:T3) (b0:Bool):Prop where
 ex:∃ g a b:Int,0 < g/\0 < a/\0<=b/\(b0=true->0 < b)/\g*X.u=a*p.u+b*q.u/\g*X.v=a*p.v+b*q.v/\g*X.w=a*p.w+b*q.w
theorem Cs.co {p q X:T3} {b0:Bool} (h:Cs p q X b0):Co p q X:=by
 obtain ⟨g,a,b,h1,h2,h3,_,e⟩:=h.ex;exact ⟨g,a,b,h1,by omega,h3,e⟩
theorem zw {g x:Int} (hg:0 < g) (h:0 < g*x):0 < x:=by
 rcases Int.lt_or_le 0 x with z | z
 ·exact z
 ·have:=Int.mul_nonpos_of_nonneg_of_nonpos (show 0<=g by omega) z;omega
theorem cs_1 {p q X Y Z:T3} {b0:Bool} (h:Cs p q X b0) (h1:0 < det p Y Z) (h2:0<=det q Y Z):0 < det X Y Z:=by
 obtain ⟨g,a,b,hg,ha,hb,_,e1,e2,e3⟩:=h.ex;refine zw hg ?_;have e:g*det X Y Z=a*det p Y Z+b*det q Y Z:=by simp only [det];grind
 rw [e];have:=Int.mul_pos ha h1;have:=Int.mul_nonneg hb h2;omega
theorem cs_1' {p q X Y Z:T3} (h:Cs p q X true) (h1:0<=det p Y Z) (h2:0 < det q Y Z):0 < det X Y Z:=by
 obtain ⟨g,a,b,hg,ha,hb,hb',e1,e2,e3⟩:=h.ex;refine zw hg ?_;have e:g*det X Y Z=a*det p Y Z+b*det q Y Z:=by simp only [det];grind
 rw [e];have:=Int.mul_nonneg (show 0<=a by omega) h1;have:=Int.mul_pos (hb' rfl) h2;omega
theorem cs_2 {p q X Y Z:T3} {b0:Bool} (h:Cs p q Y b0) (h1:0 < det X p Z) (h2:0<=det X q Z):0 < det X Y Z:=by
 rw [bD,bD];rw [bD,bD] at h1 h2;exact cs_1 h h1 h2
theorem cs_2' {p q X Y Z:T3} (h:Cs p q Y true) (h1:0<=det X p Z) (h2:0 < det X q Z):0 < det X Y Z:=by
 rw [bD,bD];rw [bD,bD] at h1 h2;exact cs_1' h h1 h2
theorem cs_3 {p q X Y Z:T3} {b0:Bool} (h:Cs p q Z b0) (h1:0 < det X Y p) (h2:0<=det X Y q):0 < det X Y Z:=by
 rw [bD];rw [bD] at h1 h2;exact cs_1 h h1 h2
theorem cs_3' {p q X Y Z:T3} (h:Cs p q Z true) (h1:0<=det X Y p) (h2:0 < det X Y q):0 < det X Y Z:=by
 rw [bD];rw [bD] at h1 h2;exact cs_1' h h1 h2
theorem cs_own (p q:T3):Cs p q p false:=⟨1,1,0,by decide,by decide,by decide,(λz=>nomatch z),by omega,by omega,by omega⟩
theorem dE {h:List T3} (T:oF h) {i j k:Nat} (h1:i < j) (h2:j < k) (h3:k < h.length):0 < det (cor h i) (cor h j) (cor h k):=by
 rw [cy (show i < h.length by omega),cy (show j < h.length by omega),cy h3];exact T _ _ _ (mV h1 h2 h3)
section
variable {b l:Nat} {h:List T3} {t:Nat->Int}
theorem sX (ok:∀ i,P3 b (cor h i)) {i:Nat} {x:T3} (hx:x∈stp h t i):(t i<=0/\x=cor h i)\/(t i*t (i+1) < 0/\x=md h t i/\Cs (cor h i) (cor h (i+1)) x true):=by
 unfold stp at hx;rcases List.mem_append.mp hx with z | z
 ·split at z
  ·rename_i c;exact .inl ⟨c,List.mem_singleton.mp z⟩
  ·cases z
 ·split at z
  ·rename_i c;have e:=List.mem_singleton.mp z;refine .inr ⟨c,e,?_⟩;have n0:=il (ok i) (ok (i+1)) c;have g0:=lC (V:=nm (cor h i).v (cor h (i+1)).v (t i) (t (i+1))) (W:=nm (cor h i).w (cor h (i+1)).w (t i) (t (i+1))) n0;have s0:t i≠0:=λz=>by rw [z] at c;omega
   have t0:t (i+1)≠0:=λz=>by rw [z] at c;omega
   rw [e];exact ⟨_,(t (i+1)).natAbs,(t i).natAbs,g0,by omega,by omega,(λ_=>by omega),div_eq (wF _ _ _),div_eq (Ey _ _ _),div_eq (Ex _ _ _)⟩
  ·cases z
theorem md_cs (ok:∀ i,P3 b (cor h i)) {i:Nat} (c:t i*t (i+1) < 0):Cs (cor h i) (cor h (i+1)) (md h t i) true:=by
 have n0:=il (ok i) (ok (i+1)) c;have g0:=lC (V:=nm (cor h i).v (cor h (i+1)).v (t i) (t (i+1))) (W:=nm (cor h i).w (cor h (i+1)).w (t i) (t (i+1))) n0;have s0:t i≠0:=λz=>by rw [z] at c;omega
 have t0:t (i+1)≠0:=λz=>by rw [z] at c;omega
 exact ⟨_,(t (i+1)).natAbs,(t i).natAbs,g0,by omega,by omega,(λ_=>by omega),div_eq (wF _ _ _),div_eq (Ey _ _ _),div_eq (Ex _ _ _)⟩
theorem lP (ok:∀ i,P3 b (cor h i)) {i:Nat} {x:T3} (hx:x∈stp h t i):∃ b0,Cs (cor h i) (cor h (i+1)) x b0:=by
 rcases sX ok hx with ⟨_,e⟩ | ⟨_,_,c⟩
 ·exact ⟨false,e ▸ cs_own _ _⟩
 ·exact ⟨true,c⟩
theorem yS {i:Nat} {x y:T3} (s:[x,y].Sublist (stp h t i)):x=cor h i/\y=md h t i/\t i<=0/\t i*t (i+1) < 0:=by
 by_cases a:t i<=0
 ·by_cases c:t i*t (i+1) < 0
  ·rw [lO a c] at s;have e:=s.eq_of_length (by simp);simp at e;exact ⟨e.1,e.2,a,c⟩
  ·rw [ju a c] at s;have:=s.length_le;simp at this
 ·by_cases c:t i*t (i+1) < 0
  ·rw [gM a c] at s;have:=s.length_le;simp at this
  ·rw [jt a c] at s;have:=s.length_le;simp at this
theorem qO (ok:∀ i,P3 b (cor h i)) (T:oF h) (n3:3<=h.length) (tn:t h.length=t 0):oF (fl (stp h t) h.length):=by
 have R:=T.tri;intro p q r s;rcases rE s with ⟨i,j,k,a,c,d,hp,hq,hr⟩ | ⟨i,k,a,d,hpq,hr⟩ | ⟨i,k,a,d,hp,hqr⟩ | ⟨i,a,d⟩
 ·obtain ⟨b1,h1⟩:=lP ok hp;obtain ⟨b2,h2⟩:=lP ok hq;obtain ⟨b3,h3⟩:=lP ok hr;refine cs_1 h1 (cs_2 h2 (cs_3 h3 (dE T a c d) ?_) (co_3 h3.co ?_ ?_)) (co_2 h2.co (co_3 h3.co ?_ ?_) (co_3 h3.co ?_ ?_)) <;> exact tR R (by omega) (by omega) (by omega)
 ·
  obtain ⟨rfl,rfl,ti,tc⟩:=yS hpq;have cm:=md_cs ok tc
  have ti0:t i < 0:=by
   rcases Int.lt_or_le (t i) 0 with z | z
   ·exact z
   ·have:t i=0:=by omega
    rw [this] at tc;omega
  have ti1:0 < t (i+1):=by
   rcases Int.lt_or_le 0 (t (i+1)) with z | z
   ·exact z
   ·have:=Int.mul_nonneg_of_nonpos_of_nonpos (show t i<=0 by omega) z;omega
  obtain ⟨b3,h3⟩:=lP ok hr;refine cs_2' cm (by rw [yr];exact Int.le_refl 0) ?_;rcases Nat.lt_or_ge (i+1) k with z | z
  ·exact cs_3 h3 (dE T (by omega) z d) (tR R (by omega) (by omega) (by omega))
  ·have ek:k=i+1:=by omega
   subst ek;rcases sX ok hr with ⟨y,_⟩ | ⟨_,_,cr⟩
   ·omega
   ·refine cs_3' cr (by rw [yq];exact Int.le_refl 0) ?_;rcases Nat.lt_or_ge (i+1+1) h.length with y | y
    ·exact dE T (by omega) (by omega) y
    ·rw [show i+1+1=h.length by omega,bV,bD];exact dE T (by omega) (by omega) (by omega)
 ·
  obtain ⟨rfl,rfl,tk,tc⟩:=yS hqr;have cm:=md_cs ok tc
  have tk0:t k < 0:=by
   rcases Int.lt_or_le (t k) 0 with z | z
   ·exact z
   ·have:t k=0:=by omega
    rw [this] at tc;omega
  have tk1:0 < t (k+1):=by
   rcases Int.lt_or_le 0 (t (k+1)) with z | z
   ·exact z
   ·have:=Int.mul_nonneg_of_nonpos_of_nonpos (show t k<=0 by omega) z;omega
  refine cs_3' cm (by rw [yq];exact Int.le_refl 0) ?_;rcases Nat.lt_or_ge (k+1) h.length with z | z
  ·obtain ⟨b1,h1⟩:=lP ok hp;exact cs_1 h1 (dE T a (by omega) z) (tR R (by omega) (by omega) (by omega))
  ·have ek:k+1=h.length:=by omega
   rw [ek,bV];rcases sX ok hp with ⟨y,e⟩ | ⟨_,_,cp⟩
   ·rcases Nat.eq_zero_or_pos i with i0 | i0
    ·subst i0;rw [ek,tn] at tk1;omega
    ·rw [e,bD];exact dE T i0 a (by omega)
   ·rw [bD];rcases Nat.eq_zero_or_pos i with i0 | i0
    ·subst i0;refine cs_2' cp (by rw [yr];exact Int.le_refl 0) ?_;exact dE T (by omega) (by omega) (by omega)
    ·exact cs_2 cp (dE T i0 a (by omega)) (tR R (by omega) (by omega) (by omega))
 ·have l1:3<=(stp h t i).length:=d.length_le;have:(stp h t i).length<=2:=by unfold stp;split <;> split <;> simp
  omega
end
theorem rat_pos {n d:Int} (hn:0 < n) (hd:0 < d):0 < (n:Rat) / (d:Rat):=by
 have h1:(0:Rat) < n:=by exact_mod_cast hn
 have h2:(0:Rat) < d:=by exact_mod_cast hd
 rw [Rat.div_def];exact Rat.mul_pos h1 (Rat.inv_pos.mpr h2)
theorem fan:∀(L:List T3) (a:T3),(∀ p∈a::L,0 < p.u)->oF (a::L)->(L.length<=1->sm (L++[a])+(match L with | []=>0 | x::_=>cx a x)=0)/\(2<=L.length->0 < sm (L++[a])+(match L with | []=>0 | x::_=>cx a x))
 | [],a,_,_=>⟨λ_=>by simp only [sm,List.nil_append];grind,λz=>absurd z (by simp)⟩
 | [x],a,_,_=>⟨λ_=>by simp only [sm,List.cons_append,List.nil_append];rw [qN a x];grind,λz=>absurd z (by simp)⟩
 | x::y::r,a,u,T=>by
  refine ⟨λz=>absurd z (by simp),λ_=>?_⟩;have sub:oF (a::y::r):=λp q s h=>T p q s (h.trans (List.Sublist.cons₂ _ (List.Sublist.cons _ (List.Sublist.refl _))))
  have u2:∀ p∈a::y::r,0 < p.u:=λp hp=>by
   rcases List.mem_cons.mp hp with z | z
   ·exact u p (List.mem_cons.mpr (.inl z))
   ·exact u p (List.mem_cons_of_mem _ (List.mem_cons_of_mem _ z))
  obtain ⟨f1,f2⟩:=fan (y::r) a u2 sub;have ua:=u a (by simp);have ux:=u x (by simp);have uy:=u y (by simp);have d:=T a x y (List.Sublist.cons₂ _ (List.Sublist.cons₂ _ (List.Sublist.cons₂ _ (List.nil_sublist _))));have c3:=wJ ua ux uy
  have pos:0 < cx a x+cx x y+cx y a:=by
   rw [c3];have:=rat_pos d (Int.mul_pos (Int.mul_pos ua ux) uy);simp only [Rat.intCast_mul] at this;exact this
  rw [qN a y] at pos;have e:sm (x::y::r++[a])=cx x y+sm (y::r++[a]):=rfl;show 0 < sm (x::y::r++[a])+cx a x;rw [e];rcases Nat.lt_or_ge r.length 1 with z | z
  ·have:=f1 (by rw [List.length_cons];omega);dsimp only at this;grind
  ·have:=f2 (by rw [List.length_cons];omega);dsimp only at this;grind
theorem wR {L:List T3} (u:∀ p∈L,0 < p.u) (T:oF L) (n3:3<=L.length):0 < lD L:=by
 match L,n3 with
 | a::x::r,n3 =>
  have:=(fan (x::r) a u T).2 (by simp at n3 ⊢;omega);have e:lD (a::x::r)=cx a x+sm (x::r++[a]):=rfl;rw [e];dsimp only at this;grind
end Hu
namespace Hu
theorem EK {a k b c:Int} (h1:a∣k*b) (h2:a∣k*c):a∣k*Lo.gc b c:=by
 have h:=Int.dvd_coe_gcd h1 h2;rw [Int.gcd_mul_left] at h;have e:((k.natAbs*Int.gcd b c:Nat):Int)=(k.natAbs:Int)*Lo.gc b c:=by unfold Lo.gc;rw [Int.natCast_mul]
 rw [e] at h;rcases Int.natAbs_eq k with z | z
 ·rw [z];exact h
 ·rw [z,Int.neg_mul];exact Int.dvd_neg.mpr h
theorem Ez {g u v w:Int} (hg:0 < g) (h:gg (g*u) (g*v) (g*w)=g):gg u v w=1:=by
 unfold gg at *;rw [Lo.ED] at h;have e:((g.natAbs:Nat):Int)=g:=by omega
 rw [e,Lo.ED,e] at h;exact Int.eq_of_mul_eq_mul_left (show g≠0 by omega) (h.trans (Int.mul_one g).symm)
theorem Ei {b:Nat} {p q:T3} {s t:Int} (hp:P3 b p) (hq:P3 b q) (h:s*t < 0):gg (mid p q s t).u (mid p q s t).v (mid p q s t).w=1:=by
 have n0:=il hp hq h;have g0:=lC (V:=nm p.v q.v s t) (W:=nm p.w q.w s t) n0;refine Ez g0 ?_;have e1:=div_eq (wF (nm p.u q.u s t) (nm p.v q.v s t) (nm p.w q.w s t));have e2:=div_eq (Ey (nm p.u q.u s t) (nm p.v q.v s t) (nm p.w q.w s t));have e3:=div_eq (Ex (nm p.u q.u s t) (nm p.v q.v s t) (nm p.w q.w s t));show gg (_*(nm p.u q.u s t).fdiv _) (_*(nm p.v q.v s t).fdiv _) (_*(nm p.w q.w s t).fdiv _)=_;rw [e1,e2,e3]
def Nz (m:T3):Prop:=m.u≠0\/m.v≠0\/m.w≠0
theorem on_two {l r m p:T3} (hm:0 < m.u) (pr:gg m.u m.v m.w=1) (h1:tl l m=0) (h2:tl r m=0) (nl:Nz l) (p1:tl l p=0) (p2:tl r p≠0) :
  m.u.natAbs<=(l.u*r.v - l.v*r.u).natAbs/\m.v.natAbs<=(l.v*r.w - l.w*r.v).natAbs/\m.w.natAbs<=(l.w*r.u - l.u*r.w).natAbs:=by
 have e1:(l.u*r.v - l.v*r.u)*m.v=m.u*(l.v*r.w - l.w*r.v):=by simp only [tl] at h1 h2;grind
 have e2:(l.u*r.v - l.v*r.u)*m.w=m.u*(l.w*r.u - l.u*r.w):=by simp only [tl] at h1 h2;grind
 have x0:l.u*r.v - l.v*r.u≠0:=λz=>by
  rw [z,Int.zero_mul] at e1 e2;have z1:l.v*r.w - l.w*r.v=0:=(Int.mul_eq_zero.mp e1.symm).resolve_left (by omega);have z2:l.w*r.u - l.u*r.w=0:=(Int.mul_eq_zero.mp e2.symm).resolve_left (by omega);have a1:l.u*tl r p=0:=by simp only [tl] at p1 ⊢;grind
  have a2:l.v*tl r p=0:=by simp only [tl] at p1 ⊢;grind
  have a3:l.w*tl r p=0:=by simp only [tl] at p1 ⊢;grind
  rcases nl with y | y | y
  ·exact (Int.mul_eq_zero.mp a1).elim y p2
  ·exact (Int.mul_eq_zero.mp a2).elim y p2
  ·exact (Int.mul_eq_zero.mp a3).elim y p2
 have d:m.u∣l.u*r.v - l.v*r.u:=by
  have d1:m.u∣(l.u*r.v - l.v*r.u)*m.u:=Int.dvd_mul_left _ _;have d2:m.u∣(l.u*r.v - l.v*r.u)*m.v:=by rw [e1];exact Int.dvd_mul_right _ _
  have d3:m.u∣(l.u*r.v - l.v*r.u)*m.w:=by rw [e2];exact Int.dvd_mul_right _ _
  have d4:=EK (EK d1 d2) d3;have pr':Lo.gc (Lo.gc m.u m.v) m.w=1:=pr;rw [pr',Int.mul_one] at d4;exact d4
 obtain ⟨q,eq⟩:=d;have q0:q≠0:=λz=>by rw [z,Int.mul_zero] at eq;exact x0 eq
 have f1:l.v*r.w - l.w*r.v=q*m.v:=by
  rw [eq,Int.mul_assoc] at e1;exact (Int.eq_of_mul_eq_mul_left (show m.u≠0 by omega) e1).symm
 have f2:l.w*r.u - l.u*r.w=q*m.w:=by
  rw [eq,Int.mul_assoc] at e2;exact (Int.eq_of_mul_eq_mul_left (show m.u≠0 by omega) e2).symm
 have big:∀ x:Int,x.natAbs<=(q*x).natAbs:=λx=>by
  rw [Int.natAbs_mul];exact Nat.le_mul_of_pos_left _ (by omega)
 refine ⟨?_,?_,?_⟩
 ·rw [eq,Int.mul_comm];exact big _
 ·rw [f1];exact big _
 ·rw [f2];exact big _
theorem uh {a b c d:Int} (h1:a.natAbs < 2 ^ 64) (h2:b.natAbs < 2 ^ 64) (h3:c.natAbs < 2 ^ 64) (h4:d.natAbs < 2 ^ 64):(a*b - c*d).natAbs < 2 ^ 130:=by
 have y1:=lx (m:=64) (n:=64) h1 h2;have y2:=lx (m:=64) (n:=64) h3 h4;omega
def Shr (p q:T3):Prop:=∃ m:T3,R3 64 m/\Nz m/\tl m p=0/\tl m q=0
def Nb:List T3->Prop
 | []=>True
 | [_]=>True
 | a::b::r=>Shr a b/\Nb (b::r)
theorem uf:∀{L:List T3} {a b:T3},Nb (L++[a])->Shr a b->Nb (L++[a,b])
 | [],_,_,_,h=>⟨h,trivial⟩
 | [x],_,_,n,h=>⟨n.1,h,trivial⟩
 | x::y::r,_,_,n,h=>⟨n.1,uf (L:=y::r) n.2 h⟩
theorem nb_at:∀{L:List T3} {i:Nat} {a b:T3},Nb L->L[i]?=some a->L[i+1]?=some b->Shr a b
 | [],_,_,_,_,h,_=>by cases h
 | [_],i,_,_,_,_,h=>by cases i <;> cases h
 | _::_::_,0,_,_,n,h,g=>by cases h;cases g;exact n.1
 | _::y::r,i+1,_,_,n,h,g=>nb_at (L:=y::r) (i:=i) n.2 h g
theorem DJ {b:Nat} {p q m:T3} {s t:Int} (hp:P3 b p) (hq:P3 b q) (h:s*t < 0) (h1:tl m p=0) (h2:tl m q=0):tl m (mid p q s t)=0:=by
 obtain ⟨g,x,y,g0,_,_,e1,e2,e3⟩:=(nJ hp hq h).ex
 have z:g*tl m (mid p q s t)=0:=by
  have e:g*tl m (mid p q s t)=m.u*(g*(mid p q s t).v)+m.v*(g*(mid p q s t).w)+m.w*(g*(mid p q s t).u):=by simp only [tl];grind
  rw [e,e1,e2,e3];simp only [tl] at h1 h2;grind
 exact (Int.mul_eq_zero.mp z).resolve_left (by omega)
structure HK (h:List T3):Prop where
 tri:oF h
 n3:3<=h.length
 ok:∀ p∈h,P3 130 p
 pr:∀ p∈h,gg p.u p.v p.w=1
 sh:∀ i,i < h.length->Shr (cor h i) (cor h (i+1))
theorem HK.cok {h:List T3} (H:HK h):∀ i,P3 130 (cor h i):=λi=>H.ok _ (bS (by have:=H.n3;omega) i)
section
variable {h:List T3} {r X:T3} {t:Nat->Int}
theorem md_ok (H:HK h) (hr:R3 64 r) (et:∀ i,t i=tl r (cor h i)\/t i = - tl r (cor h i)) (W:Wk h t r X) {i:Nat} (hi:i < h.length) (c:t i*t (i+1) < 0):P3 130 (md h t i)/\gg (md h t i).u (md h t i).v (md h t i).w=1:=by
 have ok:=H.cok;have pr:=Ei (ok i) (ok (i+1)) c;refine ⟨?_,pr⟩;obtain ⟨m,m5,mz,m1,m2⟩:=H.sh i hi;have o1:=DJ (ok i) (ok (i+1)) c m1 m2;have o2:=W.ml i c;have u0:=W.mu i c
 have tp:tl r (cor h i)≠0:=λz=>by
  have:t i=0:=by rcases et i with e | e <;> rw [e,z] <;> rfl
  rw [this] at c;omega
 obtain ⟨b1,b2,b3⟩:=on_two (m:=md h t i) u0 pr o1 o2 mz m1 tp;have k1:=uh m5.a hr.b m5.b hr.a;have k2:=uh m5.b hr.c m5.c hr.b;have k3:=uh m5.c hr.a m5.a hr.c;obtain ⟨g,x,y,g0,x0,y0,e1,e2,e3⟩:=(nJ (ok i) (ok (i+1)) c).ex
 have v0:0<=(md h t i).v:=kX g0 (by
  have e:g*(md h t i).v=x*(cor h i).v+y*(cor h (i+1)).v:=e2;rw [e];have:=Int.mul_nonneg x0 (ok i).x0;have:=Int.mul_nonneg y0 (ok (i+1)).x0;omega)
 have w0:0<=(md h t i).w:=kX g0 (by
  have e:g*(md h t i).w=x*(cor h i).w+y*(cor h (i+1)).w:=e3;rw [e];have:=Int.mul_nonneg x0 (ok i).y0;have:=Int.mul_nonneg y0 (ok (i+1)).y0;omega)
 exact ⟨u0,v0,w0,by omega,by omega,by omega⟩
theorem zJ (H:HK h) (hr:R3 64 r) (W:Wk h t r X):∀ k,k<=h.length->Nb (fl (stp h t) k)/\∀ L e,fl (stp h t) k=L++[e]->(t k<=0->Shr e (cor h k))/\(¬t k<=0->tl r e=0)
 | 0,_=>⟨trivial,λL e z=>by rw [pz] at z;exact absurd z (by simp)⟩
 | k+1,hk=>by
  obtain ⟨n,o⟩:=zJ H hr W k (by omega);have ok:=H.cok;have on_r:∀{a b:T3},tl r a=0->tl r b=0->Shr a b:=λh1 h2=>⟨r,hr,W.m0,h1,h2⟩
  have sd:t k*t (k+1) < 0->Shr (cor h k) (md h t k)/\Shr (md h t k) (cor h (k+1)):=λc=>by
   obtain ⟨m,m5,mz,m1,m2⟩:=H.sh k (by omega);have o1:=DJ (ok k) (ok (k+1)) c m1 m2;exact ⟨⟨m,m5,mz,m1,o1⟩,⟨m,m5,mz,o1,m2⟩⟩
  have add:∀ x,(∀ L e,fl (stp h t) k=L++[e]->Shr e x)->Nb (fl (stp h t) k++[x]):=λx hx=>by
   rcases List.eq_nil_or_concat (fl (stp h t) k) with z | ⟨L,e,z⟩
   ·rw [z];exact trivial
   ·rw [List.concat_eq_append] at z;have n':=n;rw [z] at n' ⊢;have:=uf n' (hx L e z);simpa using this
  have last1:∀{A:List T3} {x:T3} {L:List T3} {e:T3},A++[x]=L++[e]->e=x:=λz=>by
   have:=congrArg List.getLast? z;simp at this;exact this.symm
  rw [aX]
  by_cases a:t k<=0
  ·have nk:=add (cor h k) λL e z=>(o L e z).1 a
   by_cases b:t (k+1)<=0
   ·have c:¬t k*t (k+1) < 0:=by
     have:=Int.mul_nonneg_of_nonpos_of_nonpos a b;omega
    rw [ju a c];refine ⟨nk,λL e z=>?_⟩;rw [last1 z];exact ⟨λ_=>H.sh k (by omega),λy=>absurd b y⟩
   ·by_cases d:t k < 0
    ·have c:t k*t (k+1) < 0:=Int.mul_neg_of_neg_of_pos d (by omega);rw [lO a c];refine ⟨uf nk (sd c).1,λL e z=>?_⟩;have z':(fl (stp h t) k++[cor h k])++[md h t k]=L++[e]:=by rw [<- z];simp
     rw [last1 z'];exact ⟨λy=>absurd y b,λ_=>W.ml k c⟩
    ·have t0:t k=0:=by omega
     rw [ju a (by rw [t0];omega)];refine ⟨nk,λL e z=>?_⟩;rw [last1 z];exact ⟨λy=>absurd y b,λ_=>W.cz k t0⟩
  ·by_cases b:t (k+1) < 0
   ·have c:t k*t (k+1) < 0:=Int.mul_neg_of_pos_of_neg (by omega) b;rw [gM a c];refine ⟨add _ λL e z=>on_r ((o L e z).2 a) (W.ml k c),λL e z=>?_⟩;rw [last1 z];exact ⟨λ_=>(sd c).2,λy=>absurd (show t (k+1)<=0 by omega) y⟩
   ·have c:¬t k*t (k+1) < 0:=by
     have:=Int.mul_nonneg (show 0<=t k by omega) (show 0<=t (k+1) by omega);omega
    rw [jt a c,List.append_nil];refine ⟨n,λL e z=>?_⟩;have q:=(o L e z).2 a;refine ⟨λy=>?_,λ_=>q⟩;exact on_r q (W.cz (k+1) (by omega))
theorem qI (a:t 0<=0):∀ n,∃ s,fl (stp h t) (n+1)=cor h 0::s
 | 0=>by
  rw [aX,pz,List.nil_append];unfold stp;rw [if_pos a];exact ⟨_,rfl⟩
 | n+1=>by
  obtain ⟨s,e⟩:=qI a n;rw [aX,e];exact ⟨_,rfl⟩
theorem wg {L:List T3} {x:T3} {s:List T3} (e:L=x::s) (n:Nb L) (c:∀ A z,L=A++[z]->Shr z x):∀ i,i < L.length->Shr (cor L i) (cor L (i+1)):=λi hi=>by
 rcases Nat.lt_or_ge (i+1) L.length with z | z
 ·rw [cy hi,cy z];exact nb_at (i:=i) n (List.getElem?_eq_getElem hi) (List.getElem?_eq_getElem z)
 ·have ei:i+1=L.length:=by omega
  rw [ei,bV,cy hi,cy (show 0 < L.length by omega)];have hne:L≠[]:=by rw [e];simp
  have q:=c L.dropLast (L.getLast hne) (List.dropLast_concat_getLast hne).symm;have g1:L[i]=L.getLast hne:=by rw [List.getLast_eq_getElem];congr 1;omega
  have g0:L[0]'(by omega)=x:=by simp only [e,List.getElem_cons_zero]
  rw [g1,g0];exact q
theorem cut_sh (H:HK h) (hr:R3 64 r) (W:Wk h t r X) (tn:t h.length=t 0) (ne:fl (stp h t) h.length≠[]):∀ i,i < (fl (stp h t) h.length).length->Shr (cor (fl (stp h t) h.length) i) (cor (fl (stp h t) h.length) (i+1)):=by
 obtain ⟨n,o⟩:=zJ H hr W h.length (Nat.le_refl _)
 by_cases a:t 0<=0
 ·obtain ⟨m,em⟩:∃ m,h.length=m+1:=⟨h.length - 1,by have:=H.n3;omega⟩;obtain ⟨s,es⟩:=qI (h:=h) a m;rw [<- em] at es;refine wg es n λA z e=>?_;have:=(o A z e).1 (by rw [tn];exact a);rw [bV] at this;exact this
 ·cases e:fl (stp h t) h.length with
  | nil=>exact absurd e ne
  | cons x s =>
   rw [<- e];have ox:=mI W a _ x s e;refine wg e n λA z ez=>?_;exact ⟨r,hr,W.m0,(o A z ez).2 (by rw [tn];exact a),ox.1⟩
def ca (h:List T3) (t:Nat->Int) (i:Nat):List T3:=if t i<=0 then [cor h i] else []
def cb (h:List T3) (t:Nat->Int) (i:Nat):List T3:=if t i*t (i+1) < 0 then [md h t i] else []
theorem Cu (i:Nat):stp h t i=ca h t i++cb h t i:=rfl
theorem zM:∀ n,(fl (stp h t) n).length=(fl (ca h t) n).length+(fl (cb h t) n).length
 | 0=>rfl
 | n+1=>by
  rw [aX,aX,aX,List.length_append,List.length_append,List.length_append,zM n,Cu,List.length_append];omega
theorem EY {j:Nat} (tj:0 < t j):∀ n,(fl (ca h t) n).length<=n/\(j < n->(fl (ca h t) n).length+1<=n)
 | 0=>⟨Nat.le_refl _,λz=>absurd z (Nat.not_lt_zero _)⟩
 | n+1=>by
  obtain ⟨a,b⟩:=EY tj n;rw [aX,List.length_append];have c:(ca h t n).length<=1:=by unfold ca;split <;> simp
  refine ⟨by omega,λz=>?_⟩;rcases Nat.lt_or_ge j n with y | y
  ·have:=b y;omega
  ·have ej:j=n:=by omega
   subst ej;have:ca h t j=[]:=by unfold ca;rw [if_neg (by omega)]
   rw [this];simp;omega
theorem EW:∀ n,(fl (cb h t) n).Sublist (fl (stp h t) n)
 | 0=>List.Sublist.refl _
 | n+1=>by
  rw [aX,aX,Cu];exact (EW n).append (List.sublist_append_right _ _)
theorem EX (W:Wk h t r X) {n:Nat} {x:T3} (hx:x∈fl (cb h t) n):tl r x=0:=by
 obtain ⟨i,_,hi⟩:=sub_one hx;unfold cb at hi;split at hi
 ·rename_i c;rw [List.mem_singleton.mp hi];exact W.ml i c
 ·cases hi
theorem Ab (H:HK h) (W:Wk h t r X) (tn:t h.length=t 0) {j:Nat} (hj:j < h.length) (tj:0 < t j):(fl (stp h t) h.length).length<=h.length+1:=by
 have S:=qO H.cok H.tri H.n3 tn;have a:=(EY (h:=h) tj h.length).2 hj
 have b:(fl (cb h t) h.length).length<=2:=by
  rcases Nat.lt_or_ge 2 (fl (cb h t) h.length).length with z | z
  ·exfalso;have s3:=mV (L:=fl (cb h t) h.length) (show 0 < 1 by omega) (show 1 < 2 by omega) z;have d:=S _ _ _ (s3.trans (EW h.length));have d0:=qM W.m0 (EX W (n:=h.length) (List.getElem_mem (show 0 < (fl (cb h t) h.length).length by omega))) (EX W (n:=h.length) (List.getElem_mem (show 1 < (fl (cb h t) h.length).length by omega))) (EX W (n:=h.length) (List.getElem_mem z));omega
  ·exact z
 rw [zM];omega
theorem fT {f:Nat->List T3} {i:Nat}:∀ d,(fl f i).length<=(fl f (i+d)).length
 | 0=>Nat.le_refl _
 | d+1=>by
  rw [<- Nat.add_assoc,aX,List.length_append];have:=fT (f:=f) (i:=i) d;omega
theorem zD {i j:Nat} (hij:i < j) (ti:t i < 0) (tj:0 < t j):(fl (stp h t) i).length+2<=(fl (stp h t) j).length:=by
 have s1:1<=(stp h t i).length:=by unfold stp;rw [if_pos (by omega)];simp
 rcases Int.lt_or_le 0 (t (i+1)) with z | z
 ·have c:t i*t (i+1) < 0:=Int.mul_neg_of_neg_of_pos ti z;have m:=fT (f:=stp h t) (i:=i+1) (j - (i+1));rw [show i+1+(j - (i+1))=j by omega,aX,List.length_append,lO (by omega) c] at m;simpa using m
 ·have ij:i+1 < j:=by
   rcases Nat.lt_or_ge (i+1) j with y | y
   ·exact y
   ·rw [show j=i+1 by omega] at tj;omega
  have s2:1<=(stp h t (i+1)).length:=by unfold stp;rw [if_pos z];simp
  have m:=fT (f:=stp h t) (i:=i+1+1) (j - (i+1+1));rw [show i+1+1+(j - (i+1+1))=j by omega,aX,aX,List.length_append,List.length_append] at m;omega
theorem uq:∀(d:Nat) {j:Nat},0 < t j->t (j+d) < 0->(fl (stp h t) j).length+1<=(fl (stp h t) (j+d)).length
 | 0,j,tj,ti=>by rw [Nat.add_zero] at ti;omega
 | d+1,j,tj,ti=>by
  have e:j+(d+1)=j+1+d:=by omega
  rw [e] at ti ⊢;have m:=fT (f:=stp h t) (i:=j+1) d;rcases Int.lt_trichotomy (t (j+1)) 0 with z | z | z
  ·have c:t j*t (j+1) < 0:=Int.mul_neg_of_pos_of_neg tj z;rw [aX,List.length_append,gM (by omega) c] at m;simp at m;omega
  ·cases d with
   | zero=>rw [Nat.add_zero] at ti;omega
   | succ d =>
    have s2:1<=(stp h t (j+1)).length:=by unfold stp;rw [if_pos (by omega)];simp
    have m2:=fT (f:=stp h t) (i:=j+1+1) d;rw [show j+1+1+d=j+1+(d+1) by omega,aX (j+1),List.length_append,aX j,List.length_append] at m2;omega
  ·have:=uq d z ti;rw [aX,List.length_append] at this;omega
theorem BB {n i j:Nat} (hi:i < n) (hj:j < n) (tn:t n=t 0) (ti:t i < 0) (tj:0 < t j):3<=(fl (stp h t) n).length:=by
 rcases Nat.lt_or_ge i j with z | z
 ·have o:=zD (h:=h) z ti tj;rcases Int.lt_trichotomy (t 0) 0 with y | y | y
  ·have k:=uq (h:=h) (n - j) tj (by rw [show j+(n - j)=n by omega,tn];exact y);rw [show j+(n - j)=n by omega] at k;omega
  ·have m:=fT (f:=stp h t) (i:=j) (n - j);rw [show j+(n - j)=n by omega] at m
   have i0:0 < i:=by
    rcases Nat.eq_zero_or_pos i with x | x
    ·rw [x] at ti;omega
    ·exact x
   have m2:=fT (f:=stp h t) (i:=1) (i - 1);rw [show 1+(i - 1)=i by omega,aX,List.length_append] at m2;have s2:1<=(stp h t 0).length:=by unfold stp;rw [if_pos (by omega)];simp
   omega
  ·have k:=uq (h:=h) (t:=t) i (j:=0) y (by rw [Nat.zero_add];exact ti);rw [Nat.zero_add] at k;have m:=fT (f:=stp h t) (i:=j) (n - j);rw [show j+(n - j)=n by omega] at m;omega
 ·have ij:j < i:=by
   rcases Nat.lt_or_ge j i with y | y
   ·exact y
   ·rw [show i=j by omega] at ti;omega
  have k:=uq (h:=h) (i - j) tj (by rw [show j+(i - j)=i by omega];exact ti);rw [show j+(i - j)=i by omega] at k;rcases Int.lt_or_le 0 (t 0) with y | y
  ·have o:=zD (h:=h) hi ti (by rw [tn];exact y);omega
  ·
   have s2:1<=(stp h t 0).length:=by unfold stp;rw [if_pos y];simp
   have s3:1<=(stp h t i).length:=by unfold stp;rw [if_pos (by omega)];simp
   have j0:0 < j:=by
    rcases Nat.eq_zero_or_pos j with x | x
    ·rw [x] at tj;omega
    ·exact x
   have m2:=fT (f:=stp h t) (i:=1) (j - 1);rw [show 1+(j - 1)=j by omega,aX,List.length_append] at m2;have m3:=fT (f:=stp h t) (i:=i+1) (n - (i+1));rw [show i+1+(n - (i+1))=n by omega,aX,List.length_append] at m3;omega
theorem ER (H:HK h) (hr:R3 64 r) (et:∀ i,t i=tl r (cor h i)\/t i = - tl r (cor h i)) (W:Wk h t r X) (tn:t h.length=t 0) {i j:Nat} (hi:i < h.length) (hj:j < h.length) (ti:t i < 0) (tj:0 < t j):HK (fl (stp h t) h.length):=by
 have n3:=BB (h:=h) hi hj tn ti tj
 have mem:∀ x∈fl (stp h t) h.length,P3 130 x/\gg x.u x.v x.w=1:=λx hx=>by
  obtain ⟨k,hk,hx⟩:=sub_one hx;rcases sX H.cok hx with ⟨_,e⟩ | ⟨c,e,_⟩
  ·rw [e];have:=bS (h:=h) (by omega) k;exact ⟨H.ok _ this,H.pr _ this⟩
  ·rw [e];exact md_ok H hr et W hk c
 exact ⟨qO H.cok H.tri H.n3 tn,n3,λx hx=>(mem x hx).1,λx hx=>(mem x hx).2,cut_sh H hr W tn (λz=>by rw [z] at n3;exact absurd n3 (by decide))⟩
end
section
variable {h:List T3} {r:T3}
structure Cut (h:List T3) (r:T3):Prop where
 lo:HK (low r h)
 hi:HK (high r h)
 ll:(low r h).length<=h.length+1
 lh:(high r h).length<=h.length+1
 pl:0 < lD (low r h)
 ph:0 < lD (high r h)
 ad:lD (low r h)+lD (high r h)=lD h
theorem HK.hull (H:HK h):uM 130 h.length h:=⟨H.tri.tri,H.ok,by have:=H.n3;omega,Nat.le_refl _⟩
theorem Ac (H:HK h) (hr:R3 64 r) {p q:T3} (hp:p∈h) (hq:q∈h) (p0:tl r p < 0) (q0:0 < tl r q):Cut h r:=by
 have ok:=H.cok
 have nz:r.u≠0\/r.v≠0\/r.w≠0:=by
  rcases Decidable.em (r.u=0) with z1 | z1
  ·rcases Decidable.em (r.v=0) with z2 | z2
   ·refine .inr (.inr λz3=>?_);unfold tl at p0;rw [z1,z2,z3] at p0;omega
   ·exact .inr (.inl z2)
  ·exact .inl z1
 have xs:∃ X:T3,0 < X.u/\tl r X=0:=by
  refine ⟨⟨tl r q*p.u + -(tl r p)*q.u,tl r q*p.v + -(tl r p)*q.v,tl r q*p.w + -(tl r p)*q.w⟩,?_,?_⟩
  ·show 0 < tl r q*p.u + -(tl r p)*q.u;have:=Int.mul_pos q0 (H.ok p hp).n0;have:=Int.mul_pos (show 0 < -(tl r p) by omega) (H.ok q hq).n0;omega
  ·show r.u*(tl r q*p.v + -(tl r p)*q.v)+r.v*(tl r q*p.w + -(tl r p)*q.w)+r.w*(tl r q*p.u + -(tl r p)*q.u)=0;simp only [tl];grind
 obtain ⟨X,xu,xl⟩:=xs;obtain ⟨W1,W2⟩:=Cb ok nz xu xl;obtain ⟨i,hi,ei⟩:=List.mem_iff_getElem.mp hp;obtain ⟨j,hj,ej⟩:=List.mem_iff_getElem.mp hq;have ei':cor h i=p:=(cy hi).trans ei;have ej':cor h j=q:=(cy hj).trans ej;have tl0:tv r h h.length=tv r h 0:=by unfold tv;rw [bV]
 have th0:tn r h h.length=tn r h 0:=by unfold tn;rw [bV]
 have a1:tv r h i < 0:=by unfold tv;rw [ei'];exact p0
 have a2:0 < tv r h j:=by unfold tv;rw [ej'];exact q0
 have b1:0 < tn r h i:=by unfold tn;rw [ei'];omega
 have b2:tn r h j < 0:=by unfold tn;rw [ej'];omega
 have L:=ER H hr (λk=>.inl rfl) W1 tl0 hi hj a1 a2;have G:=ER H hr (λk=>.inr rfl) W2 th0 hj hi b2 b1;exact ⟨L,G,Ab H W1 tl0 hj a2,Ab H W2 th0 hi b1,wR (λx hx=>(L.ok x hx).n0) L.tri L.n3,wR (λx hx=>(G.ok x hx).n0) G.tri G.n3,BI H.hull hp hq p0 q0⟩
theorem lR:HK sqH:=by
 refine ⟨λp q r s=>?_,by decide,λp hp=>?_,λp hp=>?_,λi hi=>?_⟩
 ·simp only [sqH,List.sublist_cons_iff,List.sublist_nil,List.cons.injEq,reduceCtorEq,false_or,or_false] at s;simp only [List.nil_eq,exists_eq_right_right',and_assoc] at s;grind [det]
 ·have:=(sq_hull.ok p hp).mono (show 1<=130 by decide);exact this
 ·simp only [sqH,List.mem_cons,List.not_mem_nil,or_false] at hp;rcases hp with e | e | e | e <;> rw [e] <;> decide
 ·have hi':i < 4:=hi;rcases (by omega:i=0\/i=1\/i=2\/i=3) with e | e | e | e <;> rw [e]
  ·exact ⟨⟨0,1,0⟩,⟨by decide,by decide,by decide⟩,.inr (.inl (by decide)),by decide,by decide⟩
  ·exact ⟨⟨1,0,-1⟩,⟨by decide,by decide,by decide⟩,.inl (by decide),by decide,by decide⟩
  ·exact ⟨⟨0,1,-1⟩,⟨by decide,by decide,by decide⟩,.inr (.inl (by decide)),by decide,by decide⟩
  ·exact ⟨⟨1,0,0⟩,⟨by decide,by decide,by decide⟩,.inl (by decide),by decide,by decide⟩
end
end Hu
namespace Hu
def Nc (Rl:T3->T3->Prop):List T3->Prop
 | []=>True
 | [_]=>True
 | a::b::r=>Rl a b/\Nc Rl (b::r)
theorem ue {Rl:T3->T3->Prop}:∀{L:List T3} {a b:T3},Nc Rl (L++[a])->Rl a b->Nc Rl (L++[a,b])
 | [],_,_,_,h=>⟨h,trivial⟩
 | [x],_,_,n,h=>⟨n.1,h,trivial⟩
 | x::y::r,_,_,n,h=>⟨n.1,ue (L:=y::r) n.2 h⟩
theorem nc_at {Rl:T3->T3->Prop}:∀{L:List T3} {i:Nat} {a b:T3},Nc Rl L->L[i]?=some a->L[i+1]?=some b->Rl a b
 | [],_,_,_,_,h,_=>by cases h
 | [_],i,_,_,_,_,h=>by cases i <;> cases h
 | _::_::_,0,_,_,n,h,g=>by cases h;cases g;exact n.1
 | _::y::r,i+1,_,_,n,h,g=>nc_at (L:=y::r) (i:=i) n.2 h g
section
variable {h:List T3} {r X:T3} {t:Nat->Int} {Rl:T3->T3->Prop}
theorem zI (H:HK h) (on_r:∀{a b:T3},tl r a=0->tl r b=0->Rl a b) (hs:∀ k,k < h.length->Rl (cor h k) (cor h (k+1))) (hm:∀ k,k < h.length->t k*t (k+1) < 0->Rl (cor h k) (md h t k)/\Rl (md h t k) (cor h (k+1))) (W:Wk h t r X):∀ k,k<=h.length->Nc Rl (fl (stp h t) k)/\∀ L e,fl (stp h t) k=L++[e]->(t k<=0->Rl e (cor h k))/\(¬t k<=0->tl r e=0)
 | 0,_=>⟨trivial,λL e z=>by rw [pz] at z;exact absurd z (by simp)⟩
 | k+1,hk=>by
  obtain ⟨n,o⟩:=zI H on_r hs hm W k (by omega);have ok:=H.cok;have sd:t k*t (k+1) < 0->Rl (cor h k) (md h t k)/\Rl (md h t k) (cor h (k+1)):=λc=>hm k (by omega) c
  have add:∀ x,(∀ L e,fl (stp h t) k=L++[e]->Rl e x)->Nc Rl (fl (stp h t) k++[x]):=λx hx=>by
   rcases List.eq_nil_or_concat (fl (stp h t) k) with z | ⟨L,e,z⟩
   ·rw [z];exact trivial
   ·rw [List.concat_eq_append] at z;have n':=n;rw [z] at n' ⊢;have:=ue n' (hx L e z);simpa using this
  have last1:∀{A:List T3} {x:T3} {L:List T3} {e:T3},A++[x]=L++[e]->e=x:=λz=>by
   have:=congrArg List.getLast? z;simp at this;exact this.symm
  rw [aX]
  by_cases a:t k<=0
  ·have nk:=add (cor h k) λL e z=>(o L e z).1 a
   by_cases b:t (k+1)<=0
   ·have c:¬t k*t (k+1) < 0:=by
     have:=Int.mul_nonneg_of_nonpos_of_nonpos a b;omega
    rw [ju a c];refine ⟨nk,λL e z=>?_⟩;rw [last1 z];exact ⟨λ_=>hs k (by omega),λy=>absurd b y⟩
   ·by_cases d:t k < 0
    ·have c:t k*t (k+1) < 0:=Int.mul_neg_of_neg_of_pos d (by omega);rw [lO a c];refine ⟨ue nk (sd c).1,λL e z=>?_⟩;have z':(fl (stp h t) k++[cor h k])++[md h t k]=L++[e]:=by rw [<- z];simp
     rw [last1 z'];exact ⟨λy=>absurd y b,λ_=>W.ml k c⟩
    ·have t0:t k=0:=by omega
     rw [ju a (by rw [t0];omega)];refine ⟨nk,λL e z=>?_⟩;rw [last1 z];exact ⟨λy=>absurd y b,λ_=>W.cz k t0⟩
  ·by_cases b:t (k+1) < 0
   ·have c:t k*t (k+1) < 0:=Int.mul_neg_of_pos_of_neg (by omega) b;rw [gM a c];refine ⟨add _ λL e z=>on_r ((o L e z).2 a) (W.ml k c),λL e z=>?_⟩;rw [last1 z];exact ⟨λ_=>(sd c).2,λy=>absurd (show t (k+1)<=0 by omega) y⟩
   ·have c:¬t k*t (k+1) < 0:=by
     have:=Int.mul_nonneg (show 0<=t k by omega) (show 0<=t (k+1) by omega);omega
    rw [jt a c,List.append_nil];refine ⟨n,λL e z=>?_⟩;have q:=(o L e z).2 a;refine ⟨λy=>?_,λ_=>q⟩;exact on_r q (W.cz (k+1) (by omega))
theorem we {L:List T3} {x:T3} {s:List T3} (e:L=x::s) (n:Nc Rl L) (c:∀ A z,L=A++[z]->Rl z x):∀ i,i < L.length->Rl (cor L i) (cor L (i+1)):=λi hi=>by
 rcases Nat.lt_or_ge (i+1) L.length with z | z
 ·rw [cy hi,cy z];exact nc_at (i:=i) n (List.getElem?_eq_getElem hi) (List.getElem?_eq_getElem z)
 ·have ei:i+1=L.length:=by omega
  rw [ei,bV,cy hi,cy (show 0 < L.length by omega)];have hne:L≠[]:=by rw [e];simp
  have q:=c L.dropLast (L.getLast hne) (List.dropLast_concat_getLast hne).symm;have g1:L[i]=L.getLast hne:=by rw [List.getLast_eq_getElem];congr 1;omega
  have g0:L[0]'(by omega)=x:=by simp only [e,List.getElem_cons_zero]
  rw [g1,g0];exact q
theorem cut_rl (H:HK h) (on_r:∀{a b:T3},tl r a=0->tl r b=0->Rl a b) (hs:∀ k,k < h.length->Rl (cor h k) (cor h (k+1))) (hm:∀ k,k < h.length->t k*t (k+1) < 0->Rl (cor h k) (md h t k)/\Rl (md h t k) (cor h (k+1))) (W:Wk h t r X) (tn:t h.length=t 0) (ne:fl (stp h t) h.length≠[]):∀ i,i < (fl (stp h t) h.length).length->Rl (cor (fl (stp h t) h.length) i) (cor (fl (stp h t) h.length) (i+1)):=by
 obtain ⟨n,o⟩:=zI H on_r hs hm W h.length (Nat.le_refl _)
 by_cases a:t 0<=0
 ·obtain ⟨m,em⟩:∃ m,h.length=m+1:=⟨h.length - 1,by have:=H.n3;omega⟩;obtain ⟨s,es⟩:=qI (h:=h) a m;rw [<- em] at es;refine we es n λA z e=>?_;have:=(o A z e).1 (by rw [tn];exact a);rw [bV] at this;exact this
 ·cases e:fl (stp h t) h.length with
  | nil=>exact absurd e ne
  | cons x s =>
   rw [<- e];have ox:=mI W a _ x s e;refine we e n λA z ez=>?_;exact on_r ((o A z ez).2 (by rw [tn];exact a)) ox.1
end
def Ins (h:List T3) (p:T3):Prop:=∀ i,i < h.length->0<=det (cor h i) (cor h (i+1)) p
theorem yt (a b z p r:T3):det a b z*tl r p=tl r a*det p b z+tl r b*det a p z+tl r z*det a b p:=by simp only [tl,det];grind
theorem sideS {L:List T3} (T:oF L) (n3:3<=L.length) {i j:Nat} (hi:i < L.length) (hj:j < L.length) (n1:j≠i) (n2:j≠(i+1) % L.length):0 < det (cor L i) (cor L (i+1)) (cor L j):=by
 rcases Nat.lt_or_ge (i+1) L.length with z | z
 ·rw [Nat.mod_eq_of_lt z] at n2;rcases Nat.lt_or_ge j i with y | y
  ·rw [bD];exact dE T y (by omega) z
  ·exact dE T (by omega) (show i+1 < j by omega) hj
 ·have e:i+1=L.length:=by omega
  rw [e,Nat.mod_self] at n2;rw [e,bV,bD,bD];exact dE T (show 0 < j by omega) (show j < i by omega) hi
theorem wC {h:List T3} {r X p:T3} {t:Nat->Int} (H:HK h) (W:Wk h t r X) (tn:t h.length=t 0) {s:Int} (hs:s=1\/s = -1) (et:∀ i,t i=s*tl r (cor h i)) (L3:3<=(fl (stp h t) h.length).length) (LT:oF (fl (stp h t) h.length))
  {z:T3} (hz:z∈fl (stp h t) h.length) (z0:s*tl r z < 0) (P:Ins h p) (p0:s*tl r p<=0):Ins (fl (stp h t) h.length) p:=by
 have ok:=H.cok;have key:=cut_rl (Rl:=λa b=>0<=det a b p\/(tl r a=0/\tl r b=0)) H (λh1 h2=>.inr ⟨h1,h2⟩) (λk hk=>.inl (P k hk)) (λk hk c=>?_) W tn (by intro e;rw [e] at L3;simp at L3)
 ·intro i hi;rcases key i hi with y | ⟨y1,y2⟩
  ·exact y
  ·obtain ⟨j,hj,ej⟩:=List.mem_iff_getElem.mp hz;have cj:cor (fl (stp h t) h.length) j=z:=(cy hj).trans ej;have n1:j≠i:=λe=>by rw [e] at cj;rw [cj] at y1;rw [y1] at z0;omega
   have n2:j≠(i+1) % (fl (stp h t) h.length).length:=λe=>by
    rw [e,uA] at cj;rw [cj] at y2;rw [y2] at z0;omega
   have d:=sideS LT L3 hi hj n1 n2;rw [cj] at d;have e:=yt (cor (fl (stp h t) h.length) i) (cor (fl (stp h t) h.length) (i+1)) z p r;rw [y1,y2,Int.zero_mul,Int.zero_mul,Int.zero_add,Int.zero_add] at e;generalize det (cor (fl (stp h t) h.length) i) (cor (fl (stp h t) h.length) (i+1)) z=D at d e;generalize det (cor (fl (stp h t) h.length) i) (cor (fl (stp h t) h.length) (i+1)) p=B at e ⊢;refine Classical.byContradiction λnb=>?_;have nb':B < 0:=by omega
   have q1:0 < (s*tl r z)*B:=Int.mul_pos_of_neg_of_neg z0 nb';have q2:(s*tl r p)*D<=0:=Int.mul_nonpos_of_nonpos_of_nonneg p0 (Int.le_of_lt d)
   have q3:(s*tl r z)*B=(s*tl r p)*D:=by
    rw [Int.mul_assoc,Int.mul_assoc,<- e,Int.mul_comm D]
   omega
 ·obtain ⟨g,x,y,g0,x0,y0,e1,e2,e3⟩:=(nJ (ok k) (ok (k+1)) c).ex;have pk:=P k hk
  have i1:g*det (cor h k) (md h t k) p=y*det (cor h k) (cor h (k+1)) p:=by
   have:g*det (cor h k) (md h t k) p=(cor h k).u*((g*(md h t k).v)*p.w - (g*(md h t k).w)*p.v) - (cor h k).v*((g*(md h t k).u)*p.w - (g*(md h t k).w)*p.u)+(cor h k).w*((g*(md h t k).u)*p.v - (g*(md h t k).v)*p.u):=by simp only [det];grind
   rw [this,show g*(md h t k).u=_ from e1,show g*(md h t k).v=_ from e2,show g*(md h t k).w=_ from e3];simp only [det];grind
  have i2:g*det (md h t k) (cor h (k+1)) p=x*det (cor h k) (cor h (k+1)) p:=by
   have:g*det (md h t k) (cor h (k+1)) p=(g*(md h t k).u)*((cor h (k+1)).v*p.w - (cor h (k+1)).w*p.v) - (g*(md h t k).v)*((cor h (k+1)).u*p.w - (cor h (k+1)).w*p.u)+(g*(md h t k).w)*((cor h (k+1)).u*p.v - (cor h (k+1)).v*p.u):=by simp only [det];grind
   rw [this,show g*(md h t k).u=_ from e1,show g*(md h t k).v=_ from e2,show g*(md h t k).w=_ from e3];simp only [det];grind
  exact ⟨.inl (kX g0 (by rw [i1];exact Int.mul_nonneg y0 pk)),.inl (kX g0 (by rw [i2];exact Int.mul_nonneg x0 pk))⟩
end Hu
namespace Hu
def gH (h:List T3) (p:T3):Prop:=∀ f:T3,(∀ c∈h,0<=tl f c)->0<=tl f p
theorem Cg (f p:T3):tl ⟨-f.u,-f.v,-f.w⟩ p = - tl f p:=by simp only [tl];grind
theorem gH.le {h:List T3} {p:T3} (C:gH h p) {f:T3} (hf:∀ c∈h,tl f c<=0):tl f p<=0:=by
 have z:=C ⟨-f.u,-f.v,-f.w⟩ λc hc=>by rw [Cg];have:=hf c hc;omega
 rw [Cg] at z;omega
theorem iN {h:List T3} {c:T3} (hc:c∈h):gH h c:=λf hf=>hf c hc
theorem gH.sub {h g:List T3} (s:∀ c∈g,gH h c) {p:T3} (C:gH g p):gH h p:=λf hf=>C f λc hc=>s c hc f hf
theorem ivt (D:Nat->Int):∀(d a:Nat),0<=D a->D (a+d+1)<=0->∃ i,a<=i/\i<=a+d/\0<=D i/\D (i+1)<=0
 | 0,a,h1,h2=>⟨a,Nat.le_refl _,Nat.le_refl _,h1,h2⟩
 | d+1,a,h1,h2=>by
  rcases Int.lt_or_le 0 (D (a+1)) with z | z
  ·obtain ⟨i,q1,q2,q3,q4⟩:=ivt D d (a+1) (Int.le_of_lt z) (by rw [show a+1+d+1=a+(d+1)+1 by omega];exact h2);exact ⟨i,by omega,by omega,q3,q4⟩
  ·exact ⟨a,Nat.le_refl _,by omega,h1,z⟩
theorem det_sw (a b p:T3):det a b p = - det b a p:=by simp only [det];grind
theorem det_sw2 (a b p:T3):det a b p = - det a p b:=by simp only [det];grind
theorem En {h:List T3} {p:T3} (T:oF h) (n3:3<=h.length) (P:Ins h p):gH h p:=by
 intro f hf;have s0:=P 0 (by omega);have s9:=P (h.length - 1) (by omega);rw [show h.length - 1+1=h.length by omega,bV,det_sw] at s9
 obtain ⟨i,i1,i2,i3,i4⟩:=ivt (λi=>det (cor h 0) (cor h i) p) (h.length - 3) 1 s0 (by
  show det (cor h 0) (cor h (1+(h.length - 3)+1)) p<=0;rw [show 1+(h.length - 3)+1=h.length - 1 by omega];omega)
 have d:=dE T (show 0 < i by omega) (show i < i+1 by omega) (show i+1 < h.length by omega);have e:=yt (cor h 0) (cor h i) (cor h (i+1)) p f;have c0:=hf _ (bS (by omega) 0);have c1:=hf _ (bS (show 0 < h.length by omega) i);have c2:=hf _ (bS (show 0 < h.length by omega) (i+1))
 have t1:0<=det p (cor h i) (cor h (i+1)):=by
  rw [<- bD];exact P i (by omega)
 have t2:0<=det (cor h 0) p (cor h (i+1)):=by
  rw [det_sw2];have:det (cor h 0) (cor h (i+1)) p<=0:=i4;omega
 have m1:=Int.mul_nonneg c0 t1;have m2:=Int.mul_nonneg c1 t2;have m3:=Int.mul_nonneg c2 i3;exact kX d (by rw [e];omega)
inductive Row where
 | lf (k:Nat)
 | nt (i:Nat)
 | fd (k i j:Nat)
def z0:T3:=⟨0,0,0⟩
def fld (k:Nat) (n a b:Int):Int:=
 if k=0 then (if a+b < n then a+b else n) else if k=1 then (if a+b - n > 0 then a+b - n else 0) else if k=2 then (if b > a then b else a) else if k=3 then (if b < a then b else a) else (if n - a+b < n then n - a+b else n)
def lfw (k:Nat) (p:T3):Int:=if k=0 then 0 else if k=1 then p.u else if k=2 then p.v else p.w
def wof (ws:List Int) (p:T3):Row->Int
 | .lf k=>lfw k p
 | .nt i=>p.u - ws.getD i 0
 | .fd k i j=>fld k p.u (ws.getD i 0) (ws.getD j 0)
def lft (k:Nat):T3:=if k=0 then ⟨0,0,0⟩ else if k=1 then ⟨0,0,1⟩ else if k=2 then ⟨1,0,0⟩ else ⟨0,1,0⟩
def pl (a b:T3):T3:=⟨a.u+b.u,a.v+b.v,a.w+b.w⟩
def mi (a b:T3):T3:=⟨a.u - b.u,a.v - b.v,a.w - b.w⟩
def al:T3:=⟨0,0,1⟩
theorem uS (a b p:T3):tl (pl a b) p=tl a p+tl b p:=by simp only [tl,pl];grind
theorem jq (a b p:T3):tl (mi a b) p=tl a p - tl b p:=by simp only [tl,mi];grind
theorem lL (p:T3):tl al p=p.u:=by simp only [tl,al];grind
theorem nU (p:T3):tl z0 p=0:=by simp only [tl,z0];grind
theorem mU (k:Nat) (p:T3):tl (lft k) p=lfw k p:=by
 unfold lft lfw tl;split
 ·simp
 ·split
  ·simp
  ·split <;> simp
def fch (k:Nat) (a b:T3):T3×T3×T3:=
 if k=0 then (mi (pl a b) al,pl a b,al) else if k=1 then (mi (pl a b) al,z0,mi (pl a b) al) else if k=2 then (mi a b,b,a) else if k=3 then (mi a b,a,b) else (mi b a,pl al (mi b a),al)
def choice (rs:List T3):Row->T3×T3×T3
 | .lf k=>(z0,lft k,lft k)
 | .nt i=>(z0,mi al (rs.getD i z0),mi al (rs.getD i z0))
 | .fd k i j=>fch k (rs.getD i z0) (rs.getD j z0)
open Classical in
def aV (h:List T3) (c:T3×T3×T3):Option T3:=if ∀ q∈h,tl c.1 q<=0 then some c.2.1 else if ∀ q∈h,0<=tl c.1 q then some c.2.2 else none
inductive Out where
 | rules (rs:List T3)
 | mixed (k:Nat) (t:T3)
def run (h:List T3):List Row->List T3->Out
 | [],rs=>.rules rs
 | r::rest,rs=>match aV h (choice rs r) with
  | some x=>run h rest (rs++[x])
  | none=>.mixed rs.length (choice rs r).1
def tv2 (rs:List T3) (p:T3):List Int:=rs.map λr=>tl r p
theorem pD (rs:List T3) (p:T3) (i:Nat):(tv2 rs p).getD i 0=tl (rs.getD i z0) p:=by
 unfold tv2;rw [List.getD_eq_getElem?_getD,List.getD_eq_getElem?_getD,List.getElem?_map];cases rs[i]? with
 | none=>exact (nU p).symm
 | some r=>rfl
def xw (ws:List Int) (p:T3):Row->Int
 | .lf _=>0
 | .nt _=>0
 | .fd k i j=>if k=0 then ws.getD i 0+ws.getD j 0 - p.u else if k=1 then ws.getD i 0+ws.getD j 0 - p.u else if k=2 then ws.getD i 0 - ws.getD j 0 else if k=3 then ws.getD i 0 - ws.getD j 0 else ws.getD j 0 - ws.getD i 0
theorem fu (rs:List T3) (p:T3) (r:Row):tl (choice rs r).1 p=xw (tv2 rs p) p r:=by
 cases r with
 | lf k=>exact nU p
 | nt i=>exact nU p
 | fd k i j =>
  show tl (fch k _ _).1 p=xw _ p (.fd k i j);unfold fch xw;simp only [pD];split
  ·show tl (mi (pl _ _) al) p=_;rw [jq,uS,lL]
  ·split
   ·show tl (mi (pl _ _) al) p=_;rw [jq,uS,lL]
   ·split
    ·show tl (mi _ _) p=_;rw [jq]
    ·split
     ·show tl (mi _ _) p=_;rw [jq]
     ·show tl (mi _ _) p=_;rw [jq]
theorem Ek (rs:List T3) (p:T3) (r:Row) (h:xw (tv2 rs p) p r<=0):tl (choice rs r).2.1 p=wof (tv2 rs p) p r:=by
 cases r with
 | lf k=>exact mU k p
 | nt i =>
  show tl (mi al _) p=p.u - _;rw [jq,lL,pD]
 | fd k i j =>
  show tl (fch k _ _).2.1 p=fld k p.u _ _;unfold xw at h;unfold fch fld;simp only [pD] at h ⊢;split at h <;> rename_i c0
  ·rw [if_pos c0,if_pos c0];show tl (pl _ _) p=_;rw [uS];split <;> omega
  ·rw [if_neg c0,if_neg c0];split at h <;> rename_i c1
   ·rw [if_pos c1,if_pos c1];show tl z0 p=_;rw [nU];split <;> omega
   ·rw [if_neg c1,if_neg c1];split at h <;> rename_i c2
    ·rw [if_pos c2,if_pos c2];show tl (rs.getD j z0) p=_;split <;> omega
    ·rw [if_neg c2,if_neg c2];split at h <;> rename_i c3
     ·rw [if_pos c3,if_pos c3];show tl (rs.getD i z0) p=_;split <;> omega
     ·rw [if_neg c3,if_neg c3];show tl (pl al (mi _ _)) p=_;rw [uS,lL,jq];split <;> omega
theorem Et (rs:List T3) (p:T3) (r:Row) (h:0<=xw (tv2 rs p) p r):tl (choice rs r).2.2 p=wof (tv2 rs p) p r:=by
 cases r with
 | lf k=>exact mU k p
 | nt i =>
  show tl (mi al _) p=p.u - _;rw [jq,lL,pD]
 | fd k i j =>
  show tl (fch k _ _).2.2 p=fld k p.u _ _;unfold xw at h;unfold fch fld;simp only [pD] at h ⊢;split at h <;> rename_i c0
  ·rw [if_pos c0,if_pos c0];show tl al p=_;rw [lL];split <;> omega
  ·rw [if_neg c0,if_neg c0];split at h <;> rename_i c1
   ·rw [if_pos c1,if_pos c1];show tl (mi (pl _ _) al) p=_;rw [jq,uS,lL];split <;> omega
   ·rw [if_neg c1,if_neg c1];split at h <;> rename_i c2
    ·rw [if_pos c2,if_pos c2];show tl (rs.getD i z0) p=_;split <;> omega
    ·rw [if_neg c2,if_neg c2];split at h <;> rename_i c3
     ·rw [if_pos c3,if_pos c3];show tl (rs.getD j z0) p=_;split <;> omega
     ·rw [if_neg c3,if_neg c3];show tl al p=_;rw [lL];split <;> omega
theorem fc {h:List T3} {rs:List T3} {r:Row} {x:T3} (e:aV h (choice rs r)=some x) {p:T3} (C:gH h p):tl x p=wof (tv2 rs p) p r:=by
 unfold aV at e;split at e
 ·rename_i c;cases e
  exact Ek rs p r (by rw [<- fu];exact C.le c)
 ·split at e
  ·rename_i c;cases e
   exact Et rs p r (by rw [<- fu];exact C _ c)
  ·cases e
theorem lK (rs:List T3) (x p:T3):tv2 (rs++[x]) p=tv2 rs p++[tl x p]:=by unfold tv2;rw [List.map_append];rfl
theorem ip {h:List T3} {c:T3×T3×T3} (e:aV h c=none):(∃ q∈h,0 < tl c.1 q)/\∃ q∈h,tl c.1 q < 0:=by
 unfold aV at e;split at e
 ·cases e
 ·rename_i c1;split at e
  ·cases e
  ·rename_i c2;constructor
   ·refine Classical.byContradiction λz=>c1 λq hq=>?_;refine Classical.byContradiction λy=>z ⟨q,hq,by omega⟩
   ·refine Classical.byContradiction λz=>c2 λq hq=>?_;refine Classical.byContradiction λy=>z ⟨q,hq,by omega⟩
theorem vJ {h g:List T3} (s:∀ c∈g,gH h c):∀(rows:List Row) (rs rs':List T3),rs.length=rs'.length->(∀ p,gH g p->tv2 rs p=tv2 rs' p)->∀ k t,run h rows rs=.mixed k t->
  ((∀ c∈g,tl t c<=0)\/∀ c∈g,0<=tl t c)->∀ k' t',run g rows rs'=.mixed k' t'->k < k'
 | [],rs,rs',_,_,k,t,e,_,_,_,_=>by cases e
 | r::rest,rs,rs',el,et,k,t,e,hs,k',t',e'=>by
  have tt:∀ c∈g,tl (choice rs r).1 c=tl (choice rs' r).1 c:=λc hc=>by rw [fu,fu,et c (iN hc)]
  have ex:((∀ c∈g,tl (choice rs r).1 c<=0)\/∀ c∈g,0<=tl (choice rs r).1 c)->∃ x,aV g (choice rs' r)=some x:=λhh=>by
   cases q:aV g (choice rs' r) with
   | some x=>exact ⟨x,rfl⟩
   | none =>
    exfalso;obtain ⟨⟨a,ha,a0⟩,b,hb,b0⟩:=ip q;rw [<- tt a ha] at a0;rw [<- tt b hb] at b0;rcases hh with z | z
    ·have:=z a ha;omega
    ·have:=z b hb;omega
  unfold run at e;cases q:aV h (choice rs r) with
  | none =>
   rw [q] at e;injection e with e1 e2
   subst e2;obtain ⟨x,qx⟩:=ex hs;unfold run at e';rw [qx] at e'
   have ge:∀(rows:List Row) (rs:List T3) (k:Nat) (t:T3),run g rows rs=.mixed k t->rs.length<=k:=by
    intro rows
    induction rows with
    | nil=>intro rs k t z;cases z
    | cons r rest ih =>
     intro rs k t z;unfold run at z;cases y:aV g (choice rs r) with
     | none=>rw [y] at z;injection z with z1 z2;omega
     | some x =>
      rw [y] at z;have:=ih _ _ _ z;rw [List.length_append,List.length_singleton] at this;omega
   have:=ge _ _ _ _ e';rw [List.length_append,List.length_singleton] at this;omega
  | some y =>
   rw [q] at e
   have us:(∀ c∈g,tl (choice rs r).1 c<=0)\/∀ c∈g,0<=tl (choice rs r).1 c:=by
    unfold aV at q;split at q
    ·rename_i c;exact .inl λc' hc=>(s c' hc).le c
    ·split at q
     ·rename_i c;exact .inr λc' hc=>s c' hc _ c
     ·cases q
   obtain ⟨x,qx⟩:=ex us;unfold run at e';rw [qx] at e';refine vJ s rest _ _ (by simp [el]) (λp hp=>?_) k t e hs k' t' e';rw [lK,lK,fc q (hp.sub s),fc qx hp,et p hp]
def Rb (rs:List T3):Prop:=∀ i x,rs[i]?=some x->R3 (i+1) x
theorem r3_pl {m:Nat} {a b:T3} (ha:R3 m a) (hb:R3 m b):R3 (m+1) (pl a b):=by
 have e:2 ^ (m+1)=2*2 ^ m:=by rw [Nat.pow_succ];omega
 have:=ha.a;have:=ha.b;have:=ha.c;have:=hb.a;have:=hb.b;have:=hb.c;refine ⟨?_,?_,?_⟩ <;> (simp only [pl];rw [e];omega)
theorem rT {m:Nat} {a b:T3} (ha:R3 m a) (hb:R3 m b):R3 (m+1) (mi a b):=by
 have e:2 ^ (m+1)=2*2 ^ m:=by rw [Nat.pow_succ];omega
 have:=ha.a;have:=ha.b;have:=ha.c;have:=hb.a;have:=hb.b;have:=hb.c;refine ⟨?_,?_,?_⟩ <;> (simp only [mi];rw [e];omega)
theorem xO {m:Nat} {a b:T3} (ha:R3 m a) (hb:R3 m b):R3 (m+1) (mi (pl a b) al):=by
 have e:2 ^ (m+1)=2*2 ^ m:=by rw [Nat.pow_succ];omega
 have:=ha.a;have:=ha.b;have:=ha.c;have:=hb.a;have:=hb.b;have:=hb.c;refine ⟨?_,?_,?_⟩ <;> (simp only [pl,mi,al];rw [e];omega)
theorem r3_alm {m:Nat} {a b:T3} (ha:R3 m a) (hb:R3 m b):R3 (m+1) (pl al (mi b a)):=by
 have e:2 ^ (m+1)=2*2 ^ m:=by rw [Nat.pow_succ];omega
 have:=ha.a;have:=ha.b;have:=ha.c;have:=hb.a;have:=hb.b;have:=hb.c;refine ⟨?_,?_,?_⟩ <;> (simp only [pl,mi,al];rw [e];omega)
theorem tU (m:Nat):R3 (m+1) al:=by
 have:=Nat.one_le_two_pow (n:=m);have e:2 ^ (m+1)=2*2 ^ m:=by rw [Nat.pow_succ];omega
 refine ⟨?_,?_,?_⟩ <;> (simp only [al];rw [e];omega)
theorem Dr (m:Nat):R3 (m+1) z0:=by
 have:=Nat.one_le_two_pow (n:=m);have e:2 ^ (m+1)=2*2 ^ m:=by rw [Nat.pow_succ];omega
 refine ⟨?_,?_,?_⟩ <;> (simp only [z0];rw [e];omega)
theorem Ds (k m:Nat):R3 (m+1) (lft k):=by
 have:=Nat.one_le_two_pow (n:=m);have e:2 ^ (m+1)=2*2 ^ m:=by rw [Nat.pow_succ];omega
 unfold lft;split
 ·refine ⟨?_,?_,?_⟩ <;> (simp only [];rw [e];omega)
 ·split
  ·refine ⟨?_,?_,?_⟩ <;> (simp only [];rw [e];omega)
  ·split <;> (refine ⟨?_,?_,?_⟩ <;> (simp only [];rw [e];omega))
def Row.Ok (n:Nat):Row->Prop
 | .lf k=>k < 4
 | .nt i=>i < n
 | .fd k i j=>k < 5/\i < n/\j < n
theorem og {rs:List T3} (h:Rb rs) {i:Nat} (hi:i < rs.length):R3 rs.length (rs.getD i z0):=by
 have e:rs[i]?=some (rs.getD i z0):=by rw [List.getD_eq_getElem?_getD,List.getElem?_eq_getElem hi];rfl
 exact (h i _ e).mono (by omega)
theorem jQ {rs:List T3} (h:Rb rs) {r:Row} (ok:r.Ok rs.length):R3 (rs.length+1) (choice rs r).1/\R3 (rs.length+1) (choice rs r).2.1/\R3 (rs.length+1) (choice rs r).2.2:=by
 cases r with
 | lf k=>exact ⟨Dr _,Ds k _,Ds k _⟩
 | nt i =>
  have a:=og h ok;have l0:∃ m,rs.length=m+1:=⟨rs.length - 1,by have:i < rs.length:=ok;omega⟩;obtain ⟨m,em⟩:=l0;have o:R3 rs.length al:=by rw [em];exact tU m
  exact ⟨Dr _,rT o a,rT o a⟩
 | fd k i j =>
  obtain ⟨_,hi,hj⟩:=ok;have a:=og h hi;have b:=og h hj;show R3 _ (fch k _ _).1/\R3 _ (fch k _ _).2.1/\R3 _ (fch k _ _).2.2;unfold fch;split
  ·exact ⟨xO a b,r3_pl a b,tU _⟩
  ·split
   ·exact ⟨xO a b,Dr _,xO a b⟩
   ·split
    ·exact ⟨rT a b,b.mono (by omega),a.mono (by omega)⟩
    ·split
     ·exact ⟨rT a b,a.mono (by omega),b.mono (by omega)⟩
     ·exact ⟨rT b a,r3_alm a b,tU _⟩
theorem tS {rs:List T3} {x:T3} (h:Rb rs) (hx:R3 (rs.length+1) x):Rb (rs++[x]):=λi y e=>by
 rcases Nat.lt_or_ge i rs.length with z | z
 ·rw [List.getElem?_append_left z] at e;exact h i y e
 ·rw [List.getElem?_append_right z] at e
  have:i - rs.length=0:=by
   rcases Nat.eq_zero_or_pos (i - rs.length) with q | q
   ·exact q
   ·rw [List.getElem?_eq_none (by simp;omega)] at e;cases e
  rw [this] at e;cases e
  rw [show i=rs.length by omega];exact hx
theorem qS {rs:List T3} {h:List T3} {r:Row} {x:T3} (hb:Rb rs) (ok:r.Ok rs.length) (e:aV h (choice rs r)=some x):R3 (rs.length+1) x:=by
 obtain ⟨_,b1,b2⟩:=jQ hb ok;unfold aV at e;split at e
 ·cases e;exact b1
 ·split at e
  ·cases e;exact b2
  ·cases e
end Hu
end Mine
set_option maxHeartbeats 1000000
namespace Mine
namespace Hu
theorem kq {h:List T3} (H:HK h) {t:Nat->Int}:∀ c∈fl (stp h t) h.length,gH h c:=λc hc=>by
 have ok:=H.cok;have n3:=H.n3;obtain ⟨i,hi,hx⟩:=sub_one hc;unfold stp at hx;rcases List.mem_append.mp hx with z | z
 ·split at z
  ·rw [List.mem_singleton.mp z];exact iN (bS (by omega) i)
  ·cases z
 ·split at z
  ·rename_i c0;rw [List.mem_singleton.mp z];intro f hf;obtain ⟨g,x,y,g0,x0,y0,e1,e2,e3⟩:=(nJ (ok i) (ok (i+1)) c0).ex;have a1:=hf _ (bS (show 0 < h.length by omega) i);have a2:=hf _ (bS (show 0 < h.length by omega) (i+1))
   have e:g*tl f (mid (cor h i) (cor h (i+1)) (t i) (t (i+1)))=x*tl f (cor h i)+y*tl f (cor h (i+1)):=by
    have:g*tl f (mid (cor h i) (cor h (i+1)) (t i) (t (i+1)))=f.u*(g*(mid (cor h i) (cor h (i+1)) (t i) (t (i+1))).v)+f.v*(g*(mid (cor h i) (cor h (i+1)) (t i) (t (i+1))).w)+f.w*(g*(mid (cor h i) (cor h (i+1)) (t i) (t (i+1))).u):=by simp only [tl];grind
    rw [this,e1,e2,e3];simp only [tl];grind
   have m1:=Int.mul_nonneg x0 a1;have m2:=Int.mul_nonneg y0 a2;exact kX g0 (by rw [e];omega)
  ·cases z
theorem rW {h:List T3} {r X:T3} {t:Nat->Int} (W:Wk h t r X) {s:Int} (et:∀ i,t i=s*tl r (cor h i)):∀ c∈fl (stp h t) h.length,s*tl r c<=0:=λc hc=>by
 obtain ⟨i,hi,hx⟩:=sub_one hc;unfold stp at hx;rcases List.mem_append.mp hx with z | z
 ·split at z
  ·rename_i c0;rw [List.mem_singleton.mp z,<- et i];exact c0
  ·cases z
 ·split at z
  ·rename_i c0;rw [List.mem_singleton.mp z];have:=W.ml i c0;have e:tl r (mid (cor h i) (cor h (i+1)) (t i) (t (i+1)))=0:=this;rw [e];omega
  ·cases z
theorem Cc {h:List T3} {r:T3} (H:HK h) {p q:T3} (hp:p∈h) (hq:q∈h) (p0:tl r p < 0) (q0:0 < tl r q):∃ X,Wk h (tv r h) r X/\Wk h (tn r h) r X:=by
 have ok:=H.cok
 have nz:r.u≠0\/r.v≠0\/r.w≠0:=by
  rcases Decidable.em (r.u=0) with z1 | z1
  ·rcases Decidable.em (r.v=0) with z2 | z2
   ·refine .inr (.inr λz3=>?_);unfold tl at p0;rw [z1,z2,z3] at p0;omega
   ·exact .inr (.inl z2)
  ·exact .inl z1
 have xs:∃ X:T3,0 < X.u/\tl r X=0:=by
  refine ⟨⟨tl r q*p.u + -(tl r p)*q.u,tl r q*p.v + -(tl r p)*q.v,tl r q*p.w + -(tl r p)*q.w⟩,?_,?_⟩
  ·show 0 < tl r q*p.u + -(tl r p)*q.u;have:=Int.mul_pos q0 (H.ok p hp).n0;have:=Int.mul_pos (show 0 < -(tl r p) by omega) (H.ok q hq).n0;omega
  ·show r.u*(tl r q*p.v + -(tl r p)*q.v)+r.v*(tl r q*p.w + -(tl r p)*q.w)+r.w*(tl r q*p.u + -(tl r p)*q.u)=0;simp only [tl];grind
 obtain ⟨X,xu,xl⟩:=xs;obtain ⟨W1,W2⟩:=Cb ok nz xu xl;exact ⟨X,W1,W2⟩
theorem nA {h:List T3}:∀(rows:List Row) (rs:List T3) (k:Nat) (t:T3),run h rows rs=.mixed k t->(∃ q∈h,0 < tl t q)/\∃ q∈h,tl t q < 0
 | [],rs,k,t,e=>by cases e
 | r::rest,rs,k,t,e=>by
  unfold run at e;cases q:aV h (choice rs r) with
  | some x=>rw [q] at e;exact nA rest _ k t e
  | none =>
   rw [q] at e;injection e with e1 e2
   rw [<- e2];exact ip q
theorem rZ {h:List T3} {rows:List Row} {k:Nat} {t:T3} (e:run h rows []=.mixed k t):¬fZ t h:=λz=>by
 obtain ⟨⟨a,ha,a0⟩,b,hb,b0⟩:=nA rows [] k t e;rcases z with z | z
 ·have:=z b hb;omega
 ·have:=z a ha;omega
def isFd:Row->Bool
 | .fd _ _ _=>true
 | _=>false
def fds (rows:List Row):Nat:=rows.countP isFd
theorem qy {h:List T3}:∀(rows:List Row) (rs:List T3) (k:Nat) (t:T3),run h rows rs=.mixed k t->∃ i r,rows[i]?=some r/\k=rs.length+i/\isFd r=true
 | [],rs,k,t,e=>by cases e
 | r::rest,rs,k,t,e=>by
  unfold run at e;cases q:aV h (choice rs r) with
  | some x =>
   rw [q] at e;obtain ⟨i,r',h1,h2,h3⟩:=qy rest _ k t e;exact ⟨i+1,r',by simpa using h1,by rw [h2,List.length_append,List.length_singleton];omega,h3⟩
  | none =>
   rw [q] at e;injection e with e1 e2
   refine ⟨0,r,rfl,by omega,?_⟩;cases r with
   | fd _ _ _=>rfl
   | lf k' =>
    obtain ⟨⟨a,_,a0⟩,_⟩:=ip q;have:tl z0 a=0:=nU a;have a0':0 < tl z0 a:=a0;omega
   | nt i =>
    obtain ⟨⟨a,_,a0⟩,_⟩:=ip q;have:tl z0 a=0:=nU a;have a0':0 < tl z0 a:=a0;omega
theorem EH {rows:List Row} {k:Nat} {r:Row} (h:rows[k]?=some r) (f:isFd r=true):fds (rows.drop k)=fds (rows.drop (k+1))+1:=by
 have hk:k < rows.length:=(List.getElem?_eq_some_iff.mp h).1
 have e:rows.drop k=r::rows.drop (k+1):=by
  rw [List.drop_eq_getElem_cons hk];rw [List.getElem?_eq_getElem hk] at h;cases h
  rfl
 rw [e];unfold fds;rw [List.countP_cons_of_pos f]
theorem qJ {rows:List Row} {i j:Nat} (h:i<=j):fds (rows.drop j)<=fds (rows.drop i):=by
 have e:rows.drop j=(rows.drop i).drop (j - i):=by rw [List.drop_drop];congr 1;omega
 rw [e];exact (List.drop_sublist _ _).countP_le
theorem run_b {h:List T3}:∀(rows:List Row) (rs:List T3),Rb rs->(∀(i:Nat) (r:Row),rows[i]?=some r->r.Ok (rs.length+i))->(∀ k t,run h rows rs=.mixed k t->R3 (k+1) t)/\∀ out,run h rows rs=.rules out->Rb out/\out.length=rs.length+rows.length
 | [],rs,hb,_=>⟨λk t e=>(by cases e),λout e=>(by cases e;exact ⟨hb,by simp⟩)⟩
 | r::rest,rs,hb,ok=>by
  have o0:r.Ok rs.length:=by have:=ok 0 r rfl;rwa [Nat.add_zero] at this
  have cb:=jQ hb o0;cases q:aV h (choice rs r) with
  | none =>
   refine ⟨λk t e=>?_,λout e=>?_⟩
   ·unfold run at e;rw [q] at e;injection e with e1 e2
    rw [<- e2,<- e1];exact cb.1
   ·unfold run at e;rw [q] at e;cases e
  | some x =>
   have hx:=qS hb o0 q;obtain ⟨i1,i2⟩:=run_b (h:=h) rest (rs++[x]) (tS hb hx) (λi r' hr=>by have:=ok (i+1) r' (by simpa using hr);rw [List.length_append,List.length_singleton];rwa [show rs.length+1+i=rs.length+(i+1) by omega]);refine ⟨λk t e=>?_,λout e=>?_⟩
   ·unfold run at e;rw [q] at e;exact i1 k t e
   ·unfold run at e;rw [q] at e;obtain ⟨j1,j2⟩:=i2 out e;exact ⟨j1,by rw [j2,List.length_append,List.length_singleton,List.length_cons];omega⟩
inductive Tc where
 | leaf
 | cut (r:T3) (l g:Tc)
def Tc.iA:Tc->Nat
 | .leaf=>0
 | .cut _ l g=>1+l.iA+g.iA
end Hu
namespace Hu
theorem iA {h:List T3} (H:HK h) {r:T3} (hr:R3 64 r) (n:¬fZ r h):Cut h r:=by
 have a:∃ p∈h,tl r p < 0:=Decidable.byContradiction λz=>n (.inl λp hp=>by
  rcases Int.lt_or_le (tl r p) 0 with y | y
  ·exact absurd ⟨p,hp,y⟩ z
  ·exact y)
 have b:∃ p∈h,0 < tl r p:=Decidable.byContradiction λz=>n (.inr λp hp=>by
  rcases Int.lt_or_le 0 (tl r p) with y | y
  ·exact absurd ⟨p,hp,y⟩ z
  ·exact y)
 obtain ⟨p,hp,p0⟩:=a;obtain ⟨q,hq,q0⟩:=b;exact Ac H hr hp hq p0 q0
namespace Tc
def deep:Tc->Nat
 | leaf=>0
 | cut _ l g=>max l.deep g.deep+1
def size:Tc->Nat
 | leaf=>1
 | cut _ l g=>l.size+g.size+1
def Sm (b:Nat):Tc->Prop
 | leaf=>True
 | cut r l g=>R3 b r/\l.Sm b/\g.Sm b
theorem Sm.mono {a b:Nat} (h:a<=b):∀{t:Tc},t.Sm a->t.Sm b
 | leaf,_=>trivial
 | cut r l g,⟨x,y,z⟩=>⟨x.mono h,Sm.mono h y,Sm.mono h z⟩
theorem size_pos:∀ t:Tc,0 < t.size
 | leaf=>by decide
 | cut _ l g=>by simp only [size];omega
theorem size_le:∀{t:Tc} {d:Nat},t.deep<=d->t.size+1<=2 ^ (d+1)
 | leaf,d,_=>by
  have:=Nat.one_le_two_pow (n:=d);simp only [size];rw [Nat.pow_succ];omega
 | cut r l g,0,h=>by simp only [deep] at h;omega
 | cut r l g,d+1,h=>by
  simp only [deep] at h;have a:=size_le (t:=l) (d:=d) (by omega);have b:=size_le (t:=g) (d:=d) (by omega);simp only [size];rw [Nat.pow_succ];omega
open Classical in
def told:Tc->List T3->Option (List (List T3))
 | leaf,h=>some [h]
 | cut r l g,h=>if fZ r h then none else match l.told (low r h),g.told (high r h) with
  | some a,some b=>some (a++b)
  | _,_=>none
theorem jV:∀{t:Tc} {h:List T3} {L:List (List T3)},HK h->t.Sm 64->t.told h=some L->∀ g∈L,HK g/\g.length<=h.length+t.deep
 | leaf,h,L,H,_,e,g,hg=>by
  cases e
  rw [List.mem_singleton.mp hg];exact ⟨H,Nat.le_add_right _ _⟩
 | cut r l g,h,L,H,sm,e,x,hx=>by
  unfold told at e;split at e
  ·cases e
  ·rename_i nc;have c:=Hu.iA H sm.1 nc;cases ea:l.told (low r h) with
   | none=>rw [ea] at e;cases e
   | some a=>cases eb:g.told (high r h) with
    | none=>rw [ea,eb] at e;cases e
    | some b =>
     rw [ea,eb] at e;cases e
     have l1:=c.ll;have l2:=c.lh;rcases List.mem_append.mp hx with z | z
     ·have:=jV c.lo sm.2.1 ea x z;exact ⟨this.1,by simp only [deep];have:=this.2;omega⟩
     ·have:=jV c.hi sm.2.2 eb x z;exact ⟨this.1,by simp only [deep];have:=this.2;omega⟩
def dM:List (Tc×List T3)->Option (List (List T3))
 | []=>some []
 | (t,h)::r=>match t.told h,dM r with
  | some a,some b=>some (a++b)
  | _,_=>none
theorem xy (h:List T3) (r:List (Tc×List T3)):dM ((leaf,h)::r)=(dM r).map (h::·):=by
 simp only [dM,told];cases dM r <;> rfl
theorem Ce {q:T3} {l g:Tc} {h:List T3} (n:fZ q h) (r:List (Tc×List T3)):dM ((cut q l g,h)::r)=none:=by
 simp only [dM,told,if_pos n]
theorem Ar {q:T3} {l g:Tc} {h:List T3} (n:¬fZ q h) (r:List (Tc×List T3)):dM ((cut q l g,h)::r)=dM ((l,low q h)::(g,high q h)::r):=by
 simp only [dM,told,if_neg n];cases l.told (low q h) with
 | none=>rfl
 | some a=>cases g.told (high q h) with
  | none=>cases dM r <;> rfl
  | some b=>cases dM r with
   | none=>rfl
   | some c=>simp only [List.append_assoc]
end Tc
theorem De {h:List T3}:∀(rows:List Row) (rs:List T3) (k:Nat) (t:T3),run h rows rs=.mixed k t->rs.length<=k
 | [],rs,k,t,e=>by cases e
 | r::rest,rs,k,t,e=>by
  unfold run at e;cases q:aV h (choice rs r) with
  | some x =>
   rw [q] at e;have:=De rest _ k t e;rw [List.length_append] at this;exact Nat.le_of_succ_le this
  | none=>rw [q] at e;injection e with e1 _;omega
theorem yw {g:List T3} {c:T3×T3×T3} (h:(∀ q∈g,tl c.1 q<=0)\/∀ q∈g,0<=tl c.1 q):∃ x,aV g c=some x:=by
 unfold aV;split
 ·exact ⟨_,rfl⟩
 ·rename_i n;rcases h with z | z
  ·exact absurd z n
  ·rw [if_pos z];exact ⟨_,rfl⟩
theorem wM {h:List T3} {c:T3×T3×T3} {x:T3} (e:aV h c=some x):(∀ q∈h,tl c.1 q<=0)\/∀ q∈h,0<=tl c.1 q:=by
 unfold aV at e;split at e
 ·rename_i z;exact .inl z
 ·split at e
  ·rename_i z;exact .inr z
  ·cases e
theorem zq {h g:List T3} (s:∀ c∈g,gH h c):∀(rows:List Row) (rs rs':List T3),rs.length=rs'.length->(∀ p,gH g p->tv2 rs p=tv2 rs' p)->∀ k' t',run g rows rs'=.mixed k' t'->∃ k t,run h rows rs=.mixed k t/\k<=k'
 | [],rs,rs',_,_,k',t',e'=>by cases e'
 | r::rest,rs,rs',el,et,k',t',e'=>by
  have tt:∀ c∈g,tl (choice rs r).1 c=tl (choice rs' r).1 c:=λc hc=>by rw [fu,fu,et c (iN hc)]
  cases q:aV h (choice rs r) with
  | none =>
   refine ⟨rs.length,(choice rs r).1,by unfold run;rw [q],?_⟩;rw [el];exact De _ _ _ _ e'
  | some x =>
   have sg:(∀ c∈g,tl (choice rs' r).1 c<=0)\/∀ c∈g,0<=tl (choice rs' r).1 c:=by
    rcases wM q with z | z
    ·exact .inl λc hc=>by rw [<- tt c hc];exact (s c hc).le z
    ·exact .inr λc hc=>by rw [<- tt c hc];exact (s c hc) _ z
   obtain ⟨x',q'⟩:=yw sg;unfold run at e';rw [q'] at e';obtain ⟨k,t,e,l⟩:=zq s rest (rs++[x]) (rs'++[x']) (by simp [el]) (λp C=>by rw [lK,lK,et p C,fc q (C.sub s),fc q' C,et p C]) k' t' e';exact ⟨k,t,by unfold run;rw [q];exact e,l⟩
def need (h:List T3) (rows:List Row):Nat:=match run h rows [] with
 | .rules _=>0
 | .mixed k _=>fds (rows.drop k)
theorem need_le (h:List T3) (rows:List Row):need h rows<=fds rows:=by
 unfold need;split
 ·exact Nat.zero_le _
 ·rename_i k t _;have:=qJ (rows:=rows) (Nat.zero_le k);simpa using this
theorem wc {h g:List T3} (s:∀ c∈g,gH h c) (rows:List Row):need g rows<=need h rows:=by
 unfold need;cases e:run g rows [] with
 | rules rs=>exact Nat.zero_le _
 | mixed k' t' =>
  obtain ⟨k,t,e2,l⟩:=zq s rows [] [] rfl (λ_ _=>rfl) k' t' e;rw [e2];exact qJ l
theorem wd {h g:List T3} (s:∀ c∈g,gH h c) {rows:List Row} {k:Nat} {t:T3} (e:run h rows []=.mixed k t) (hs:(∀ c∈g,tl t c<=0)\/∀ c∈g,0<=tl t c):need g rows+1<=need h rows:=by
 obtain ⟨i,r,hr,ek,fr⟩:=qy rows [] k t e;have ek:k=i:=by rw [ek];simp
 subst ek;have fk:=EH hr fr;unfold need;rw [e];cases e':run g rows [] with
 | rules rs=>show 0+1<=fds (rows.drop k);omega
 | mixed k' t' =>
  have:=vJ s rows [] [] rfl (λ_ _=>rfl) k t e hs k' t' e';have:=qJ (rows:=rows) (show k+1<=k' by omega);show fds (rows.drop k')+1<=fds (rows.drop k);omega
structure TnL (Ls:List (List Row)) (d:Nat) (h:List T3):Prop where
 hk:HK h
 ln:h.length+d<=20
 nd:(Ls.map (need h)).sum<=d
theorem xE {α:Type} {f g:α->Nat}:∀(l:List α),(∀ x∈l,f x<=g x)->(l.map f).sum<=(l.map g).sum
 | [],_=>Nat.le_refl _
 | a::l,h=>by
  have:=h a List.mem_cons_self;have:=xE l λx hx=>h x (List.mem_cons_of_mem _ hx);simp only [List.map_cons,List.sum_cons];omega
theorem xD {α:Type} {f g:α->Nat}:∀(l:List α) {x:α},(∀ x∈l,f x<=g x)->x∈l->f x+1<=g x->(l.map f).sum+1<=(l.map g).sum
 | a::l,x,h,hx,k=>by
  have h1:=h a List.mem_cons_self;have h2:=λx hx=>h x (List.mem_cons_of_mem a hx);simp only [List.map_cons,List.sum_cons];rcases List.mem_cons.mp hx with rfl | z
  ·have:=xE l h2;omega
  ·have:=xD l h2 z k;omega
theorem TnL.cut {Ls:List (List Row)} {d:Nat} {h:List T3} (T:TnL Ls d h) {rows:List Row} (hm:rows∈Ls) (ok:∀(i:Nat) (r:Row),rows[i]?=some r->r.Ok i) (few:rows.length<=60) {k:Nat} {t:T3} (e:run h rows []=.mixed k t):R3 61 t/\∃ d',d=d'+1/\TnL Ls d' (low t h)/\TnL Ls d' (high t h):=by
 obtain ⟨i,r,hr,ek,fr⟩:=qy rows [] k t e;have ek:k=i:=by rw [ek];simp
 subst ek;have hk:k < rows.length:=(List.getElem?_eq_some_iff.mp hr).1;have bt:R3 61 t:=((run_b (h:=h) rows [] (λ_ _ z=>by simp at z) (λi r hr=>by simpa using ok i r hr)).1 k t e).mono (by omega);obtain ⟨⟨p2,hp2,ep2⟩,p1,hp1,ep1⟩:=nA rows [] k t e;have cut:=Ac T.hk (bt.mono (by decide)) hp1 hp2 ep1 ep2;obtain ⟨X,W1,W2⟩:=Cc T.hk hp1 hp2 ep1 ep2;have e1:∀ i,tv t h i=1*tl t (cor h i):=λi=>(Int.one_mul _).symm;have e2:∀ i,tn t h i = -1*tl t (cor h i):=λi=>by show - tl t _=_;omega
 have t1:=rW W1 e1;have t2:=rW W2 e2;have c1:∀ c∈low t h,gH h c:=kq T.hk;have c2:∀ c∈high t h,gH h c:=kq T.hk;have l1:=cut.ll;have l2:=cut.lh;have ln:=T.ln;have nd:=T.nd;have n1:=xD (f:=need (low t h)) (g:=need h) Ls (λx _=>wc c1 x) hm (wd c1 e (.inl λc hc=>by have:=t1 c hc;omega));have n2:=xD (f:=need (high t h)) (g:=need h) Ls (λx _=>wc c2 x) hm (wd c2 e (.inr λc hc=>by have:=t2 c hc;omega));exact ⟨bt,d - 1,by omega,⟨cut.lo,by omega,by omega⟩,⟨cut.hi,by omega,by omega⟩⟩
end Hu
end Mine
set_option maxHeartbeats 4000000
namespace L2
open PySem PySem.Spec PyProof.Rows
theorem BE {X:Cx} (hc:X.calm=true):fq X (.builtin "sum") (λxs H Q=>∃(l:Addr) (ns:List Int),xs=[.ref l]/\SqL X.K H l (ns.map V.int)/\Q (.int ns.sum) H):=by
 intro pins s σ H xs us Q I r h;obtain ⟨l,ns,rfl,hq,q⟩:=h;obtain ⟨u,rfl,rx⟩:=vals1 r;cases rx
 obtain ⟨its,rv,pl,_⟩:=I.list hq;have hi:IntsAre its ns:=intsAre_of rv;have hl:=pl.isList;obtain ⟨ys,e⟩:=hi.allInts.items;have en:ns=ys.toList.map (·.1):=by rw [<- hi.numsOf,<- nums_intItems,<- e]
 rw [e] at hl;refine sum_intListG (I.ok.hd hc) hl λh' tk t' hk=>?_;have es:preSum (numAt ys) ys.size=ns.sum:=by rw [preSum_eq,<- en,List.take_of_length_le (by rw [en];simp)]
 rw [es];exact ⟨.int ns.sum,H,I.kept hk,⟨t',rfl⟩,q⟩
section
variable {X:Cx} {pins:List (Addr×Obj)} {σ:St} {H:Hp} {s:Shared} {scope:Scope} {cl:List (Str×Addr)} {x:Str} {js:List Nat} {fp:List Addr}
end
section
variable {X:Cx} {elt iter:Expr} {x:Str} {px pos:Pos} {ifs:List Expr} {scope:Scope} {cl:List (Str×Addr)} {wi:TI} {tc:TT} {te:TE} {js:List Nat}
end
open PySem.Calls PySem.W
section
variable {P:Program} {w:World} {K:W.Frag} {mg:Str->Option Value} {base:Heap} {N:List Str} {qual:Str} {scope:Scope} {f:Addr} {cd:Value} {A:Around} {outer:List Env} {s:Shared} {H:Hp} {E:XK}
theorem DI:Passes (CXr P w) (cS (CXr P w) P w K mg base N qual scope f cd A outer s H E) E:=by
 intro pins σ H1 s1 e s' I hq;obtain ⟨ea,C,H2,rfl,⟨t,B,ho,hgn,un,hok,fl,h0,h1,cov⟩,q⟩:=hq;have hthere:∀ b o,s.heap.get? b=some o->∃ o',s1.heap.get? b=some o':=λb o z=>I.base.there b o z (λz=>nomatch z);show wpAny (model P w) (A.deeper (envOfC qual scope s.heap.objs.size f cd)) (leaving (envOfC qual scope s.heap.objs.size f cd) (.ref ea)) _ _ _;refine wpAny_leaves_onW I.ok.frames rfl fl λg fl2 up=>?_;have I2:Inv (cS (CXr P w) P w K mg base N qual scope f cd A outer s H E) pins σ H2 {s' with heap:=g,toks:=s'.toks}:=I.caught (C:=C) (ea:=ea) (t:=ea) ho hgn un hok cov fl2.1 up
 have new:s.heap.get? ea=none:=by
  cases z:s.heap.get? ea with
  | none=>rfl
  | some o=>obtain ⟨o',e'⟩:=hthere ea o z;rw [h1] at e';cases e'
 refine ⟨ea,C,H2,rfl,⟨t,B,I2.os,I2.bare,I2.base,I2.hok,fl2,h0,new,λb o z n hb=>?_⟩,q⟩
 have nf:b ∉ frs (envOfC qual scope s.heap.objs.size f cd::outer):=λk=>by
  rcases hb with ⟨u,hu⟩ | ⟨o',ho'⟩
  ·have:=I2.stkFree b k;rw [hu] at this;cases this
  ·exact (List.mem_cons.mp (I.stkSub b k)).elim (λy=>absurd (Nat.lt_of_lt_of_le (Heap.lt_size ho') I.ok.above) (by rw [y];exact Nat.lt_irrefl _)) n
 have key:(∃ o1,s'.heap.get? b=some o1)/\((∃ u,H2 b=some u)\/∃ o',s1.heap.get? b=some o'):=by
  rcases hb with ⟨u,hu⟩ | ⟨o',ho'⟩
  ·exact ⟨(hok b u hu).there,.inl ⟨u,hu⟩⟩
  ·obtain ⟨o2,e2⟩:=hthere b o' ho';exact ⟨un.there b o2 e2 (λz=>nomatch z),.inr ⟨o2,e2⟩⟩
 obtain ⟨⟨o1,e1⟩,k2⟩:=key;have e2:=cov b o1 e1 nf k2;have e3:=fl2.1 b o1 e2;have e4:some o=some o1:=z.symm.trans e3;cases e4
 exact e2
theorem pe_defR {n:Nat} {x:Str} {ps:List Str} {sp:Sp} {e:Expr} {es:List Expr} {t:TA} {p pos:Pos} (D:xb P w K mg base n x ps sp) (hr:dq n (cS (CXr P w) P w K mg base N qual scope f cd A outer s H E).A) (hg:Gl (cS (CXr P w) P w K mg base N qual scope f cd A outer s H E) x) (ha:PA (cS (CXr P w) P w K mg base N qual scope f cd A outer s H E) (e::es) t)
  (hdb:(x == ("__debug__":Str))=false:=by decide) (he:starEach (e::es) (envOfC qual scope s.heap.objs.size f cd)=(false,eval e (envOfC qual scope s.heap.objs.size f cd))::starEach es (envOfC qual scope s.heap.objs.size f cd):=by rfl) (hpl:(backTo pos (starEach es (envOfC qual scope s.heap.objs.size f cd))).any (·.1)=false:=by rfl) :
  PE (cS (CXr P w) P w K mg base N qual scope f cd A outer s H E) (.Call (.Name x p) (e::es) [] pos) (pH sp [] E t):=by
 obtain ⟨g,fd,F,b,kp,m⟩:=D.ex;exact tZ F hr hg m kp b .nil DI ha hdb he hpl
end
variable {X:Cx}
def plainArg (e:Expr):Bool:=match e with
 | .Starred _ _=>false
 | _=>true
theorem iU {e:Expr} {es:List Expr} {env:Env} (h:plainArg e=true):starEach (e::es) env=(false,eval e env)::starEach es env:=by
 cases e <;> first | rfl | cases h
theorem paS {e:Expr} {es:List Expr} {te:TE} {t:TA} (ha:PE X e te) (hr:PA X es t) (h:plainArg e=true:=by rfl):PA X (e::es) (fo te t):=aa ha hr (iU h)
section
variable {prog:Program} {w:World} {A:Around} {E:Value->Shared->Prop} {h:Heap} {g:Array GenState} {d:Drawn} {t:Nat} {os:OsState}
variable {C fI:Addr} {bmB:List Value} {B newId initId:String}
end
section
variable {M:Model} {A:Around} {E:Value->Shared->Prop} {s:Shared} {base:Heap} {env:Env} {outer l:List Env} {L e:Addr} {cl fl:Value} {dc:Option Addr} {Q:Unit->Shared->Prop}
end
open PySem.Builtin PySem.Builtin.ObjectAttr
section
variable {prog:Program} {w:World} {A:Around} {s:Shared} {K:Frag} {x C:Addr} {ox:Obj} {od:Option Obj} {name:Str} {v:Value}
end
section
variable {P:Program} {w:World} {H:Hp} {h:Heap} {e C d:Addr} {dc:Option Addr} {fs:List (Str×V)}
end
section
variable {X:Cx} {pins:List (Addr×Obj)} {σ:St} {H:Hp} {s:Shared} {a C d:Addr} {fs:List (Str×V)} {f:Str} {y:V} {u:Value} {A:Around} {E:Value->Shared->Prop} {Q:Unit->Shared->Prop}
end
section
variable {X:Cx} {k:Nat} {f C:Addr} {fd:FuncData} {ps:List Str} {sp:Sp} {x:Str} {p pos:Pos} {e:Expr} {es:List Expr} {t:TA}
end
section
variable {P:Program} {w:World} {K:W.Frag} {mg:Str->Option Value} {base:Heap} {N:List Str} {qual:Str} {scope:Scope} {f:Addr} {cd:Value} {A:Around} {outer:List Env} {s:Shared} {H:Hp} {E:XK}
end
open PySem.Builtin.Getset_descriptor
section
variable {P:Program} {w:World} {K:W.Frag} {mg:Str->Option Value} {base:Heap} {N:List Str} {qual:Str} {scope:Scope} {f:Addr} {cd:Value} {A:Around} {outer:List Env} {s:Shared} {H:Hp} {E:XK}
end
section
variable {X:Cx}
end
section
variable {P:Program} {w:World} {K:W.Frag} {mg:Str->Option Value} {base:Heap} {N:List Str} {qual:Str} {scope:Scope} {f:Addr} {cd:Value} {A:Around} {outer:List Env} {s:Shared} {H:Hp} {E:XK}
end
section
variable {P:Program} {w:World} {K:W.Frag} {mg:Str->Option Value} {base:Heap} {N:List Str} {qual:Str} {scope:Scope} {f:Addr} {cd:Value} {A:Around} {outer:List Env} {s:Shared} {H:Hp} {E:XK}
end
end L2
namespace Mine
open PySem L2
def top (i:Nat):Stmt:=PySem.Challenge.pw_leansay_k55_whole_alike_by_laws.main.body.getD i (.Pass ⟨0,0,0,0⟩)
abbrev bX:Stmt:=inClass (top 20) 0
abbrev cA:Stmt:=inClass (top 20) 1
abbrev eJ:Stmt:=inClass (top 20) 2
abbrev kJ:Stmt:=inClass (top 20) 3
abbrev gj:Stmt:=inClass (top 20) 4
abbrev jD:Stmt:=inClass (top 20) 5
abbrev cO:Stmt:=inClass (top 20) 6
abbrev cJ:Stmt:=inClass (top 21) 0
abbrev fN:Stmt:=inClass (top 21) 1
abbrev cE:Stmt:=inClass (top 22) 0
abbrev eP:Stmt:=inClass (top 22) 1
abbrev fP:Stmt:=inClass (top 23) 0
abbrev bF:Stmt:=inClass (top 23) 1
abbrev cP:Stmt:=inClass (top 23) 2
abbrev iX:Stmt:=inClass (top 24) 0
abbrev fM:Stmt:=inClass (top 24) 1
abbrev de:Stmt:=inClass (top 24) 2
abbrev gx:Stmt:=inClass (top 24) 3
abbrev hZ:Stmt:=inClass (top 24) 4
abbrev ic:Stmt:=inClass (top 25) 0
abbrev eO:Stmt:=inClass (top 25) 1
abbrev fR:Stmt:=inClass (top 25) 2
abbrev gy:Stmt:=inClass (top 25) 3
abbrev cU:Stmt:=inClass (top 26) 0
abbrev fO:Stmt:=inClass (top 26) 1
abbrev cV:Stmt:=inClass (top 27) 0
abbrev fQ:Stmt:=inClass (top 27) 1
abbrev bZ:Stmt:=inClass (top 28) 0
abbrev dF:Stmt:=inClass (top 28) 1
abbrev cD:Stmt:=inClass (top 29) 0
abbrev dQ:Stmt:=inClass (top 29) 1
abbrev cK:Stmt:=inClass (top 30) 0
abbrev eM:Stmt:=inClass (top 30) 1
abbrev sLaid:Stmt:=eJ
abbrev sOut:Stmt:=gj
abbrev gi:Stmt:=top 7
abbrev lW:Stmt:=top 9
abbrev nh:Stmt:=top 10
abbrev cC:Stmt:=top 11
abbrev bP:Stmt:=top 12
abbrev jA:Stmt:=top 13
abbrev kS:Stmt:=top 15
abbrev dS:Stmt:=top 16
abbrev gh:Stmt:=top 17
abbrev tH:Stmt:=top 18
abbrev fA:Stmt:=top 32
abbrev qh:Stmt:=top 38
abbrev iJ:Stmt:=top 39
abbrev jz:Stmt:=top 40
abbrev ix:Stmt:=top 41
abbrev jC:Stmt:=top 42
abbrev jB:Stmt:=top 43
abbrev gf:Stmt:=top 44
abbrev kT:Stmt:=top 48
abbrev iw:Stmt:=top 49
abbrev ng:Stmt:=top 50
abbrev gQ:Stmt:=top 51
abbrev dU:Stmt:=top 52
abbrev tK:Stmt:=top 54
abbrev AD:Stmt:=top 56
abbrev tL:Stmt:=top 56
abbrev CS:Stmt:=top 57
abbrev sNext:Stmt:=top 57
abbrev xJ:Stmt:=top 58
abbrev jZ:Stmt:=top 58
abbrev xK:Stmt:=top 59
abbrev zp:Stmt:=top 59
abbrev iL:Stmt:=top 60
abbrev CU:Stmt:=top 61
abbrev CY:Stmt:=top 61
abbrev AB:Stmt:=top 62
abbrev CV:Stmt:=top 62
abbrev nj:Stmt:=top 63
abbrev fU:Stmt:=top 64
abbrev nq:Stmt:=top 65
abbrev gS:Stmt:=top 66
abbrev cT:Stmt:=top 67
abbrev lY:Stmt:=top 68
abbrev gR:Stmt:=top 69
abbrev nr:Stmt:=top 70
abbrev iK:Stmt:=top 71
abbrev eI:Stmt:=top 73
abbrev tJ:Stmt:=top 74
abbrev cN:Stmt:=top 75
abbrev qg:Stmt:=top 76
abbrev qf:Stmt:=top 77
abbrev lX:Stmt:=top 78
abbrev sLaw:Stmt:=top 78
variable {P:Program} {w:World} {K:W.Frag} {mg:Str->Option Value} {base:Heap}
theorem qa:az ["self","name"] ["self","name"] (ag fP):=L2.fsc rfl (by decide+kernel)
theorem xZ {x:Str} {C:Addr} (T:MkF K mg x C "Letter.__init__" fP) (n:fg K C "name"):oJ P w K mg base x C 1 ["self","name"] (jX C mJ):=by
 refine Eh T qa (λ_ _ _ _ _ _=>L2.ar2 λ_ _=>rfl) ?_ ?_
 ·walk_at "i1";obtain ⟨a,dx,y,rfl,e,q⟩:=h;rfl
 walk_at "i2";obtain ⟨a,dx,y,rfl,e,q⟩:=h;have nd:=qa.nd;refine ⟨_,(ao (tW (pv 0) (pv 1) rfl)),?_⟩;exact ⟨_,rfl,_,rfl,a,C,dx,[],rfl,e,T.cl,n,(by show 0 < 1000;decide),q⟩
theorem zm:az ["self","part"] ["self","part"] (ag iX):=L2.fsc rfl (by decide+kernel)
theorem ok_iNot {x:Str} {C:Addr} (T:MkF K mg x C "Not.__init__" iX) (n:fg K C "part"):oJ P w K mg base x C 1 ["self","part"] (jX C qK):=by
 refine Eh T zm (λ_ _ _ _ _ _=>L2.ar2 λ_ _=>rfl) ?_ ?_
 ·walk_at "i1";obtain ⟨a,dx,y,rfl,e,q⟩:=h;rfl
 walk_at "i2";obtain ⟨a,dx,y,rfl,e,q⟩:=h;have nd:=zm.nd;refine ⟨_,(ao (tW (pv 0) (pv 1) rfl)),?_⟩;exact ⟨_,rfl,_,rfl,a,C,dx,[],rfl,e,T.cl,n,(by show 0 < 1000;decide),q⟩
theorem vE:az ["self","one","other"] ["self","one","other"] (ag ic):=L2.fsc rfl (by decide+kernel)
theorem DW {x:Str} {C:Addr} (T:MkF K mg x C "Fold.__init__" ic) (n:fg K C "one") (n':fg K C "other"):oJ P w K mg base x C 1 ["self","one","other"] (oQ C):=by
 refine Eh T vE (λ_ _ _ _ _ _=>L2.ar3 λ_ _ _=>rfl) ?_ ?_
 ·walk_at "i1";obtain ⟨a,dx,y,z,rfl,e,q⟩:=h;rfl
 walk_at "i2";obtain ⟨a,dx,y,z,rfl,e,q⟩:=h;have nd:=vE.nd
 refine ⟨_,(ah (tW (pv 0) (pv 1) rfl)
  (ao (tW (pv 0) (pv 2) rfl))),?_⟩
 refine ⟨_,rfl,_,rfl,a,C,dx,[],rfl,e,T.cl,n,(by show 0 < 1000;decide),?_⟩;refine ⟨_,rfl,_,rfl,a,C,dx,_,rfl,ae,T.cl,n',(by show 1 < 1000;decide),?_⟩;rw [Du,oO];exact q
theorem sc_mS:az ["self"] ["self"] (ag bX):=L2.fsc rfl (by decide+kernel)
theorem zF {c:CCs} {C:Addr} {t:Tr} (T:aS K C "made_of" "Saying.made_of" bX) (ht:t.kids=[]):aT P w K mg base C "made_of" 1 ["self"] (tq c t):=by
 refine bh T sc_mS (λ_ _ _ _ _ _=>L2.ar1 λ_=>rfl) ?_ ?_
 ·walk_at "i1";obtain ⟨a,rfl,o,q⟩:=h;rfl
 walk_at "i2";obtain ⟨a,rfl,o,q⟩:=h;have nd:=sc_mS.nd;refine ⟨_,(ao (av (bI af))),?_⟩;refine ⟨(by show 0<=sizeLine;decide),λl hl=>q l [] hl ?_⟩;rw [ht];exact .nil
theorem zj:az ["self"] ["self"] (ag fM):=L2.fsc rfl (by decide+kernel)
theorem ok_mNot {c:CCs} {t:Tr} (T:aS K c.no "made_of" "Not.made_of" fM) (F:Fx K c):aT P w K mg base c.no "made_of" 1 ["self"] (tq c (.no t)):=by
 refine bh T zj (λ_ _ _ _ _ _=>L2.ar1 λ_=>rfl) ?_ ?_
 ·walk_at "i1";obtain ⟨a,rfl,o,q⟩:=h;rfl
 walk_at "i2";obtain ⟨a,rfl,o,q⟩:=h;have nd:=zj.nd;refine ⟨_,(ao (av (bI (aa (iz (pv 0) rfl) af)))),?_⟩;cases o with
 | no e o =>
  refine ⟨_,rfl,a,c.no,_,_,_,rfl,e,T.cl,F.nPart,sf _,(by show 1<=sizeLine;decide),λl hl=>q l _ hl ?_⟩;exact .cons ⟨_,rfl,o⟩ .nil
theorem vz:az ["self"] ["self"] (ag eO):=L2.fsc rfl (by decide+kernel)
theorem DU {c:CCs} {u:W5} {t t':Tr} (T:aS K (c.fold u) "made_of" "Fold.made_of" eO) (F:Fx K c):aT P w K mg base (c.fold u) "made_of" 1 ["self"] (tq c (.fold u t t')):=by
 refine bh T vz (λ_ _ _ _ _ _=>L2.ar1 λ_=>rfl) ?_ ?_
 ·walk_at "i1";obtain ⟨a,rfl,o,q⟩:=h;rfl
 walk_at "i2";obtain ⟨a,rfl,o,q⟩:=h;have nd:=vz.nd;refine ⟨_,(ao (av (bI (aa (iz (pv 0) rfl) (aa (iz (pv 0) rfl) af))))),?_⟩;cases o with
 | fold e o o' =>
  refine ⟨_,rfl,a,_,_,_,_,rfl,e,T.cl,F.nOne u,wA _ _,_,rfl,a,_,_,_,_,rfl,e,T.cl,F.nOther u,qA _ _,(by show 2<=sizeLine;decide),λl hl=>q l _ hl ?_⟩;exact .cons ⟨_,rfl,o⟩ (.cons ⟨_,rfl,o'⟩ .nil)
theorem rK:az ["self"] ["self"] (ag cJ):=L2.fsc rfl (by decide+kernel)
theorem AN {c:CCs} {C:Addr} (T:aS K C "making_word" "Never.making_word" cJ):aT P w K mg base C "making_word" 1 ["self"] (eB c .never):=by
 refine bh T rK (λ_ _ _ _ _ _=>L2.ar1 λ_=>rfl) ?_ ?_
 ·walk_at "i1";obtain ⟨a,rfl,o,q⟩:=h;rfl
 walk_at "i2";obtain ⟨a,rfl,o,q⟩:=h;have nd:=rK.nd;refine ⟨_,(ao (av aI)),?_⟩;exact q
theorem pQ:az ["self"] ["self"] (ag cE):=L2.fsc rfl (by decide+kernel)
theorem xW {c:CCs} {C:Addr} (T:aS K C "making_word" "Always.making_word" cE):aT P w K mg base C "making_word" 1 ["self"] (eB c .always):=by
 refine bh T pQ (λ_ _ _ _ _ _=>L2.ar1 λ_=>rfl) ?_ ?_
 ·walk_at "i1";obtain ⟨a,rfl,o,q⟩:=h;rfl
 walk_at "i2";obtain ⟨a,rfl,o,q⟩:=h;have nd:=pQ.nd;refine ⟨_,(ao (av aI)),?_⟩;exact q
theorem CO:az ["self"] ["self"] (ag bF):=L2.fsc rfl (by decide+kernel)
theorem ok_wLp {c:CCs} (T:aS K c.le "making_word" "Letter.making_word" bF) (F:Fx K c):aT P w K mg base c.le "making_word" 1 ["self"] (eB c .lp):=by
 refine bh T CO (λ_ _ _ _ _ _=>L2.ar1 λ_=>rfl) ?_ ?_
 ·walk_at "i1";obtain ⟨a,rfl,o,q⟩:=h;rfl
 walk_at "i2";obtain ⟨a,rfl,o,q⟩:=h;have nd:=CO.nd;refine ⟨_,(ao (av (iz (pv 0) rfl))),?_⟩;cases o with
 | lp e=>exact ⟨_,rfl,a,_,_,_,_,rfl,e,T.cl,F.nName,ku _,q⟩
theorem CM:az ["self"] ["self"] (ag bF):=L2.fsc rfl (by decide+kernel)
theorem ok_wLq {c:CCs} (T:aS K c.le "making_word" "Letter.making_word" bF) (F:Fx K c):aT P w K mg base c.le "making_word" 1 ["self"] (eB c .lq):=by
 refine bh T CM (λ_ _ _ _ _ _=>L2.ar1 λ_=>rfl) ?_ ?_
 ·walk_at "i1";obtain ⟨a,rfl,o,q⟩:=h;rfl
 walk_at "i2";obtain ⟨a,rfl,o,q⟩:=h;have nd:=CM.nd;refine ⟨_,(ao (av (iz (pv 0) rfl))),?_⟩;cases o with
 | lq e=>exact ⟨_,rfl,a,_,_,_,_,rfl,e,T.cl,F.nName,ku _,q⟩
theorem zf:az ["self"] ["self"] (ag de):=L2.fsc rfl (by decide+kernel)
theorem ok_wNot {c:CCs} {C:Addr} {t:Tr} (T:aS K C "making_word" "Not.making_word" de):aT P w K mg base C "making_word" 1 ["self"] (eB c (.no t)):=by
 refine bh T zf (λ_ _ _ _ _ _=>L2.ar1 λ_=>rfl) ?_ ?_
 ·walk_at "i1";obtain ⟨a,rfl,o,q⟩:=h;rfl
 walk_at "i2";obtain ⟨a,rfl,o,q⟩:=h;have nd:=zf.nd;refine ⟨_,(ao (av aI)),?_⟩;exact q
theorem vv:az ["self"] ["self"] (ag cU):=L2.fsc rfl (by decide+kernel)
theorem DN {c:CCs} {C:Addr} {t t':Tr} (T:aS K C "making_word" "More.making_word" cU):aT P w K mg base C "making_word" 1 ["self"] (eB c (.fold .more t t')):=by
 refine bh T vv (λ_ _ _ _ _ _=>L2.ar1 λ_=>rfl) ?_ ?_
 ·walk_at "i1";obtain ⟨a,rfl,o,q⟩:=h;rfl
 walk_at "i2";obtain ⟨a,rfl,o,q⟩:=h;have nd:=vv.nd;refine ⟨_,(ao (av aI)),?_⟩;exact q
theorem vG:az ["self","n","first","second"] ["self","n","first","second"] (ag fO):=L2.fsc rfl (by decide+kernel)
theorem DZ {C:Addr} (T:aS K C "folded" "More.folded" fO) (bU:mg "min"=none):aT P w K mg base C "folded" 1 ["self","n","first","second"] (gN .more):=by
 refine bh T vG (λ_ _ _ _ _ _=>L2.ar4 λ_ _ _ _=>rfl) ?_ ?_
 ·walk_at "i1";obtain ⟨a,n,i,j,rfl,q⟩:=h;rfl
 walk_at "i2";obtain ⟨a,n,i,j,rfl,q⟩:=h;have nd:=vG.nd;refine ⟨_,(ao (av (aC (fJ rfl) rfl bU (by decide+kernel) (aa (aL bR (pv 2) (pv 3)) (aa (pv 1) af))))),?_⟩;refine ⟨_,rfl,_,rfl,_,_,rfl,rfl,_,rfl,_,_,rfl,?_⟩;rw [jc];exact q
theorem vw:az ["self"] ["self"] (ag cV):=L2.fsc rfl (by decide+kernel)
theorem DO {c:CCs} {C:Addr} {t t':Tr} (T:aS K C "making_word" "Less.making_word" cV):aT P w K mg base C "making_word" 1 ["self"] (eB c (.fold .less t t')):=by
 refine bh T vw (λ_ _ _ _ _ _=>L2.ar1 λ_=>rfl) ?_ ?_
 ·walk_at "i1";obtain ⟨a,rfl,o,q⟩:=h;rfl
 walk_at "i2";obtain ⟨a,rfl,o,q⟩:=h;have nd:=vw.nd;refine ⟨_,(ao (av aI)),?_⟩;exact q
theorem vH:az ["self","n","first","second"] ["self","n","first","second"] (ag fQ):=L2.fsc rfl (by decide+kernel)
theorem Ea {C:Addr} (T:aS K C "folded" "Less.folded" fQ) (ck:mg "max"=none):aT P w K mg base C "folded" 1 ["self","n","first","second"] (gN .less):=by
 refine bh T vH (λ_ _ _ _ _ _=>L2.ar4 λ_ _ _ _=>rfl) ?_ ?_
 ·walk_at "i1";obtain ⟨a,n,i,j,rfl,q⟩:=h;rfl
 walk_at "i2";obtain ⟨a,n,i,j,rfl,q⟩:=h;have nd:=vH.nd;refine ⟨_,(ao (av (aC (iP rfl) rfl ck (by decide+kernel) (aa (aL eW (aL bR (pv 2) (pv 3)) (pv 1)) (fW af))))),?_⟩;refine ⟨_,rfl,_,rfl,_,_,rfl,rfl,_,rfl,_,_,rfl,rfl,_,_,rfl,?_⟩;rw [lz];exact q
theorem nW:az ["self"] ["self"] (ag bZ):=L2.fsc rfl (by decide+kernel)
theorem vU {c:CCs} {C:Addr} {t t':Tr} (T:aS K C "making_word" "Greater.making_word" bZ):aT P w K mg base C "making_word" 1 ["self"] (eB c (.fold .greater t t')):=by
 refine bh T nW (λ_ _ _ _ _ _=>L2.ar1 λ_=>rfl) ?_ ?_
 ·walk_at "i1";obtain ⟨a,rfl,o,q⟩:=h;rfl
 walk_at "i2";obtain ⟨a,rfl,o,q⟩:=h;have nd:=nW.nd;refine ⟨_,(ao (av aI)),?_⟩;exact q
theorem nZ:az ["self","n","first","second"] ["self","n","first","second"] (ag dF):=L2.fsc rfl (by decide+kernel)
theorem vX {C:Addr} (T:aS K C "folded" "Greater.folded" dF) (ck:mg "max"=none):aT P w K mg base C "folded" 1 ["self","n","first","second"] (gN .greater):=by
 refine bh T nZ (λ_ _ _ _ _ _=>L2.ar4 λ_ _ _ _=>rfl) ?_ ?_
 ·walk_at "i1";obtain ⟨a,n,i,j,rfl,q⟩:=h;rfl
 walk_at "i2";obtain ⟨a,n,i,j,rfl,q⟩:=h;have nd:=nZ.nd;refine ⟨_,(ao (av (aC (iP rfl) rfl ck (by decide+kernel) (aa (pv 2) (aa (pv 3) af))))),?_⟩;refine ⟨_,rfl,_,rfl,_,_,rfl,?_⟩;rw [lz];exact q
theorem pP:az ["self"] ["self"] (ag cD):=L2.fsc rfl (by decide+kernel)
theorem xV {c:CCs} {C:Addr} {t t':Tr} (T:aS K C "making_word" "Lesser.making_word" cD):aT P w K mg base C "making_word" 1 ["self"] (eB c (.fold .lesser t t')):=by
 refine bh T pP (λ_ _ _ _ _ _=>L2.ar1 λ_=>rfl) ?_ ?_
 ·walk_at "i1";obtain ⟨a,rfl,o,q⟩:=h;rfl
 walk_at "i2";obtain ⟨a,rfl,o,q⟩:=h;have nd:=pP.nd;refine ⟨_,(ao (av aI)),?_⟩;exact q
theorem qc:az ["self","n","first","second"] ["self","n","first","second"] (ag dQ):=L2.fsc rfl (by decide+kernel)
theorem ya {C:Addr} (T:aS K C "folded" "Lesser.folded" dQ) (bU:mg "min"=none):aT P w K mg base C "folded" 1 ["self","n","first","second"] (gN .lesser):=by
 refine bh T qc (λ_ _ _ _ _ _=>L2.ar4 λ_ _ _ _=>rfl) ?_ ?_
 ·walk_at "i1";obtain ⟨a,n,i,j,rfl,q⟩:=h;rfl
 walk_at "i2";obtain ⟨a,n,i,j,rfl,q⟩:=h;have nd:=qc.nd;refine ⟨_,(ao (av (aC (fJ rfl) rfl bU (by decide+kernel) (aa (pv 2) (aa (pv 3) af))))),?_⟩;refine ⟨_,rfl,_,rfl,_,_,rfl,?_⟩;rw [jc];exact q
theorem rL:az ["self"] ["self"] (ag cK):=L2.fsc rfl (by decide+kernel)
theorem AO {c:CCs} {C:Addr} {t t':Tr} (T:aS K C "making_word" "Leads.making_word" cK):aT P w K mg base C "making_word" 1 ["self"] (eB c (.fold .leads t t')):=by
 refine bh T rL (λ_ _ _ _ _ _=>L2.ar1 λ_=>rfl) ?_ ?_
 ·walk_at "i1";obtain ⟨a,rfl,o,q⟩:=h;rfl
 walk_at "i2";obtain ⟨a,rfl,o,q⟩:=h;have nd:=rL.nd;refine ⟨_,(ao (av aI)),?_⟩;exact q
theorem rS:az ["self","n","first","second"] ["self","n","first","second"] (ag eM):=L2.fsc rfl (by decide+kernel)
theorem AZ {C:Addr} (T:aS K C "folded" "Leads.folded" eM) (bU:mg "min"=none):aT P w K mg base C "folded" 1 ["self","n","first","second"] (gN .leads):=by
 refine bh T rS (λ_ _ _ _ _ _=>L2.ar4 λ_ _ _ _=>rfl) ?_ ?_
 ·walk_at "i1";obtain ⟨a,n,i,j,rfl,q⟩:=h;rfl
 walk_at "i2";obtain ⟨a,n,i,j,rfl,q⟩:=h;have nd:=rS.nd;refine ⟨_,(ao (av (aC (fJ rfl) rfl bU (by decide+kernel) (aa (aL bR (aL eW (pv 1) (pv 2)) (pv 3)) (aa (pv 1) af))))),?_⟩;refine ⟨_,rfl,_,rfl,_,_,rfl,rfl,_,rfl,_,_,rfl,rfl,_,rfl,_,_,rfl,?_⟩;rw [jc];exact q
theorem zg:az ["self"] ["self"] (ag cA):=L2.fsc rfl (by decide+kernel)
theorem oY {c:CCs} {t:Tr} (T:aS K (c.of t) "pieces" "Saying.pieces" cA) (ht:t.pieces=[.w t.word]) (G:aT P w K mg base (c.of t) "making_word" 1 ["self"] (eB c t)):aT P w K mg base (c.of t) "pieces" 2 ["self"] (lS c t):=by
 refine bh T zg (λ_ _ _ _ _ _=>L2.ar1 λ_=>rfl) ?_ ?_
 ·walk_at "i1";obtain ⟨a,rfl,o,q⟩:=h;rfl
 walk_at "i2";obtain ⟨a,rfl,o,q⟩:=h;have nd:=zg.nd;refine ⟨_,(ao (av (bI (aa (cX (k:=1) (pv 0) (hr.mono (by decide))) af)))),?_⟩;obtain ⟨dx,fs,ea,nf⟩:=o.cls;refine ⟨_,rfl,a,_,_,_,_,_,rfl,ea,nf _ (by decide+kernel),G,a,rfl,o,(by show 1<=sizeLine;decide),λl hl=>q l _ hl ?_⟩;rw [ht];exact .cons (.w _) .nil
theorem zh:az ["self"] ["self"] (ag gx):=L2.fsc rfl (by decide+kernel)
theorem ok_pNot {c:CCs} {t:Tr} (T:aS K c.no "pieces" "Not.pieces" gx) (F:Fx K c):aT P w K mg base c.no "pieces" 2 ["self"] (lS c (.no t)):=by
 refine bh T zh (λ_ _ _ _ _ _=>L2.ar1 λ_=>rfl) ?_ ?_
 ·walk_at "i1";obtain ⟨a,rfl,o,q⟩:=h;rfl
 walk_at "i2";obtain ⟨a,rfl,o,q⟩:=h;have nd:=zh.nd;refine ⟨_,(ao (av (bI (aa aI (aa (iz (pv 0) rfl) af))))),?_⟩;cases o with
 | no e o=>exact ⟨_,rfl,a,_,_,_,_,rfl,e,T.cl,F.nPart,sf _,(by show 2<=sizeLine;decide),λl hl=>q l _ hl (.cons (.w _) (.cons (.t o) .nil))⟩
theorem vx:az ["self"] ["self"] (ag fR):=L2.fsc rfl (by decide+kernel)
theorem DR {c:CCs} {u:W5} {t t':Tr} (T:aS K (c.fold u) "pieces" "Fold.pieces" fR) (F:Fx K c) (G:aT P w K mg base (c.fold u) "making_word" 1 ["self"] (eB c (.fold u t t'))):aT P w K mg base (c.fold u) "pieces" 2 ["self"] (lS c (.fold u t t')):=by
 refine bh T vx (λ_ _ _ _ _ _=>L2.ar1 λ_=>rfl) ?_ ?_
 ·walk_at "i1";obtain ⟨a,rfl,o,q⟩:=h;rfl
 walk_at "i2";obtain ⟨a,rfl,o,q⟩:=h;have nd:=vx.nd;refine ⟨_,(ao (av (bI (aa aI (aa (iz (pv 0) rfl) (aa (cX (k:=1) (pv 0) (hr.mono (by decide))) (aa (iz (pv 0) rfl) (aa aI af)))))))),?_⟩;cases o with
 | fold e o o' =>
  refine ⟨_,rfl,a,_,_,_,_,rfl,e,T.cl,F.nOne u,wA _ _,_,rfl,a,_,_,_,_,_,rfl,e,fH (by decide+kernel) (fH (by decide+kernel) rfl),G,a,rfl,.fold e o o',?_⟩;exact ⟨_,rfl,a,_,_,_,_,rfl,e,T.cl,F.nOther u,qA _ _,(by show 5<=sizeLine;decide),λl hl=>q l _ hl (.cons (.w _) (.cons (.t o) (.cons (.w _) (.cons (.t o') (.cons (.w _) .nil)))))⟩
theorem pO:az ["self","worths","n","x","y"] ["self","worths","n","x","y"] (ag fN):=L2.fsc rfl (by decide+kernel)
theorem xU {c:CCs} {C:Addr} (T:aS K C "weigh" "Never.weigh" fN):aT P w K mg base C "weigh" 2 ["self","worths","n","x","y"] (iV c .never):=by
 refine bh T pO (λ_ _ _ _ _ _=>L2.ar5 λ_ _ _ _ _=>rfl) ?_ ?_
 ·walk_at "i1";obtain ⟨a,l,n,i,j,R,R',rfl,o,e,hz,hs,q⟩:=h;rfl
 walk_at "i2";obtain ⟨a,l,n,i,j,R,R',rfl,o,e,hz,hs,q⟩:=h;have nd:=pO.nd;refine ⟨_,(ao (bf (cI PySem.F.plainAttrs_list PySem.F.slot_list_append PySem.F.type_list_append aW (pv 1) (fW af)))),?_⟩;have es:R'=(gK n i j).leaf .never::R:=iE hs rfl;subst es;refine ⟨_,rfl,.inl ⟨rfl,_,SqL.of e⟩,l,_,_,rfl,rfl,e,lQ hz,?_⟩;exact q _ (jy _ _) (by rw [ae];exact congrArg _ (congrArg _ (eS _ _)))
theorem nV:az ["self","worths","n","x","y"] ["self","worths","n","x","y"] (ag eP):=L2.fsc rfl (by decide+kernel)
theorem vT {c:CCs} {C:Addr} (T:aS K C "weigh" "Always.weigh" eP):aT P w K mg base C "weigh" 2 ["self","worths","n","x","y"] (iV c .always):=by
 refine bh T nV (λ_ _ _ _ _ _=>L2.ar5 λ_ _ _ _ _=>rfl) ?_ ?_
 ·walk_at "i1";obtain ⟨a,l,n,i,j,R,R',rfl,o,e,hz,hs,q⟩:=h;rfl
 walk_at "i2";obtain ⟨a,l,n,i,j,R,R',rfl,o,e,hz,hs,q⟩:=h;have nd:=nV.nd;refine ⟨_,(ao (bf (cI PySem.F.plainAttrs_list PySem.F.slot_list_append PySem.F.type_list_append aW (pv 1) (aa (pv 2) af)))),?_⟩;have es:R'=(gK n i j).leaf .always::R:=iE hs rfl;subst es;refine ⟨_,rfl,.inl ⟨rfl,_,SqL.of e⟩,_,rfl,l,_,_,rfl,rfl,e,lQ hz,?_⟩;exact q _ (jy _ _) (by rw [ae];exact congrArg _ (congrArg _ (eS _ _)))
theorem ze:az ["self","worths","n","x","y"] ["self","worths","n","x","y"] (ag cP):=L2.fsc rfl (by decide+kernel)
theorem ok_wgLp {c:CCs} (T:aS K c.le "weigh" "Letter.weigh" cP) (F:Fx K c):aT P w K mg base c.le "weigh" 2 ["self","worths","n","x","y"] (iV c .lp):=by
 refine bh T ze (λ_ _ _ _ _ _=>L2.ar5 λ_ _ _ _ _=>rfl) ?_ ?_
 ·walk_at "i1";obtain ⟨a,l,n,i,j,R,R',rfl,o,e,hz,hs,q⟩:=h;rfl
 walk_at "i2";obtain ⟨a,l,n,i,j,R,R',rfl,o,e,hz,hs,q⟩:=h;have nd:=ze.nd;refine ⟨_,(ao (bf (cI PySem.F.plainAttrs_list PySem.F.slot_list_append PySem.F.type_list_append aW (pv 1) (aa (mr (aA bO (iz (pv 0) rfl) aI (aF _)) (pv 3) (pv 4)) af)))),?_⟩;have es:R'=(gK n i j).leaf .lp::R:=iE hs rfl;subst es;cases o with
 | lp eo =>
  refine ⟨_,rfl,.inl ⟨rfl,_,SqL.of e⟩,_,rfl,a,_,_,_,_,rfl,eo,T.cl,F.nName,ku _,rfl,_,rfl,?_⟩;rw [is_pp];refine dN ⟨_,rfl,l,_,_,rfl,rfl,e,lQ hz,?_⟩;exact q _ (jy _ _) (by rw [ae];exact congrArg _ (congrArg _ (eS _ _)))
theorem zd:az ["self","worths","n","x","y"] ["self","worths","n","x","y"] (ag cP):=L2.fsc rfl (by decide+kernel)
theorem ok_wgLq {c:CCs} (T:aS K c.le "weigh" "Letter.weigh" cP) (F:Fx K c):aT P w K mg base c.le "weigh" 2 ["self","worths","n","x","y"] (iV c .lq):=by
 refine bh T zd (λ_ _ _ _ _ _=>L2.ar5 λ_ _ _ _ _=>rfl) ?_ ?_
 ·walk_at "i1";obtain ⟨a,l,n,i,j,R,R',rfl,o,e,hz,hs,q⟩:=h;rfl
 walk_at "i2";obtain ⟨a,l,n,i,j,R,R',rfl,o,e,hz,hs,q⟩:=h;have nd:=zd.nd;refine ⟨_,(ao (bf (cI PySem.F.plainAttrs_list PySem.F.slot_list_append PySem.F.type_list_append aW (pv 1) (aa (mr (aA bO (iz (pv 0) rfl) aI (aF _)) (pv 3) (pv 4)) af)))),?_⟩;have es:R'=(gK n i j).leaf .lq::R:=iE hs rfl;subst es;cases o with
 | lq eo =>
  refine ⟨_,rfl,.inl ⟨rfl,_,SqL.of e⟩,_,rfl,a,_,_,_,_,rfl,eo,T.cl,F.nName,ku _,rfl,_,rfl,?_⟩;rw [is_qp];refine bH ⟨_,rfl,l,_,_,rfl,rfl,e,lQ hz,?_⟩;exact q _ (jy _ _) (by rw [ae];exact congrArg _ (congrArg _ (eS _ _)))
theorem vq:az ["self","worths","n","x","y"] ["self","worths","n","x","y"] (ag hZ):=L2.fsc rfl (by decide+kernel)
theorem DM {c:CCs} {C:Addr} {t:Tr} (T:aS K C "weigh" "Not.weigh" hZ):aT P w K mg base C "weigh" 2 ["self","worths","n","x","y"] (iV c (.no t)):=by
 refine bh T vq (λ_ _ _ _ _ _=>L2.ar5 λ_ _ _ _ _=>rfl) ?_ ?_
 ·walk_at "i1";obtain ⟨a,l,n,i,j,R,R',rfl,o,e,hz,hs,q⟩:=h;rfl
 walk_at "i2";obtain ⟨a,l,n,i,j,R,R',rfl,o,e,hz,hs,q⟩:=h;have nd:=vq.nd;refine ⟨_,(ao (bf (cI PySem.F.plainAttrs_list PySem.F.slot_list_append PySem.F.type_list_append aW (pv 1) (aa (aL eW (pv 2) (gY PySem.F.plainAttrs_list PySem.F.slot_list_pop PySem.F.type_list_pop jb (pv 1))) af)))),?_⟩;obtain ⟨b,R1,rfl,rfl⟩:=yT hs;have hz':R1.length < 1000:=hz;have el:H l=some (.lst (R1.reverse.map V.int++[V.int b])):=by rw [e];exact congrArg _ (congrArg _ (eS b R1).symm)
 refine ⟨_,rfl,.inl ⟨rfl,_,SqL.of el⟩,_,rfl,_,rfl,.inl ⟨rfl,_,SqL.of el⟩,l,_,_,rfl,rfl,el,gJ _ _,?_⟩;rw [List.dropLast_concat];refine ⟨_,_,rfl,rfl,l,_,_,rfl,rfl,ae,by rw [List.length_map,List.length_reverse];exact Nat.lt_trans hz' (by decide),?_⟩;rw [oO];exact q _ (jy _ _) (by rw [ae];exact congrArg _ (congrArg _ (eS _ _)))
theorem rJ:az ["self","worths","n","x","y","second","first"] ["self","worths","n","x","y"] (ag gy):=L2.fsc rfl (by decide+kernel)
theorem AM {c:CCs} {u:W5} {t t':Tr} (T:aS K (c.fold u) "weigh" "Fold.weigh" gy) (G:aT P w K mg base (c.fold u) "folded" 1 ["self","n","first","second"] (gN u)):aT P w K mg base (c.fold u) "weigh" 2 ["self","worths","n","x","y"] (iV c (.fold u t t')):=by
 refine bh T rJ (λ_ _ _ _ _ _=>L2.ar5 λ_ _ _ _ _=>rfl) ?_ ?_
 ·walk_at "i1";obtain ⟨a,l,n,i,j,R,R',rfl,o,e,hz,hs,q⟩:=h;rfl
 walk_at "i2";obtain ⟨a,l,n,i,j,R,R',rfl,o,e,hz,hs,q⟩:=h;have nd:=rJ.nd
 refine ⟨_,(ah (aJ (i:=5) nd rfl (Or.inl rfl) (gY PySem.F.plainAttrs_list PySem.F.slot_list_pop PySem.F.type_list_pop jb (pv 1)))
  (ah (aJ (i:=6) nd rfl (Or.inl rfl) (gY PySem.F.plainAttrs_list PySem.F.slot_list_pop PySem.F.type_list_pop jb (pv 1)))
  (ao (bf (cI PySem.F.plainAttrs_list PySem.F.slot_list_append PySem.F.type_list_append aW (pv 1) (aa (qq (k:=1) (pv 0) (hr.mono (by decide)) (aa (pv 2) (aa (pv 6) (aa (pv 5) af)))) af)))))),?_⟩
 obtain ⟨b2,b1,R1,rfl,rfl⟩:=rF hs;have hz':R1.length+1 < 1000:=hz;have el:H l=some (.lst (R1.reverse.map V.int++[V.int b1]++[V.int b2])):=by rw [e,eS,eS]
 obtain ⟨dx,fs,ea,nf⟩:=o.cls;have nal:a≠l:=oi ea e (by intro z;cases z)
 refine ⟨_,rfl,.inl ⟨rfl,_,SqL.of el⟩,l,_,_,rfl,rfl,el,gJ _ _,?_⟩;rw [List.dropLast_concat];refine ⟨_,rfl,.inl ⟨rfl,_,SqL.of ae⟩,l,_,_,rfl,rfl,ae,gJ _ _,?_⟩;rw [List.dropLast_concat,oO];refine ⟨_,rfl,.inl ⟨rfl,_,SqL.of ae⟩,_,rfl,a,_,_,_,_,_,rfl,by rw [au nal];exact ea,nf _ (by decide+kernel),G,_,rfl,_,rfl,_,rfl,a,n,b1,b2,rfl,?_⟩;refine ⟨l,_,_,rfl,rfl,ae,by rw [List.length_map,List.length_reverse];exact Nat.lt_trans (Nat.lt_of_succ_lt hz') (by decide),?_⟩;rw [oO];exact q _ (jy _ _) (by rw [ae];exact congrArg _ (congrArg _ (eS _ _)))
abbrev oC:List Str:=["one","other","greater","lesser","rest"]
theorem iH:az oC ["one","other"] (ag gi):=L2.fsc rfl (by decide+kernel)
abbrev Ed:List Str:=[]
theorem Az:az Ed [] (ag lW):=L2.fsc rfl (by decide+kernel)
abbrev Bf:List Str:=["rule","point"]
theorem pR:az Bf ["rule","point"] (ag nh):=L2.fsc rfl (by decide+kernel)
abbrev mv:List Str:=["rule","hull"]
theorem gP:az mv ["rule","hull"] (ag cC):=L2.fsc rfl (by decide+kernel)
abbrev nH:List Str:=["one","other","at_one","at_other","numbers","factor"]
theorem hX:az nH ["one","other","at_one","at_other"] (ag bP):=L2.fsc rfl (by decide+kernel)
abbrev wq:List Str:=["hull","rule","told","low","high","k","corner","following","between"]
theorem CQ:az wq ["hull","rule"] (ag jA):=L2.fsc rfl (by decide+kernel)
abbrev n_both:List Str:=["one","other"]
theorem zo:az n_both ["one","other"] (ag qh):=L2.fsc rfl (by decide+kernel)
abbrev Bd:List Str:=["one","other"]
theorem pN:az Bd ["one","other"] (ag iJ):=L2.fsc rfl (by decide+kernel)
abbrev wk:List Str:=["word"]
theorem lT:az wk ["word"] (ag jz):=L2.fsc rfl (by decide+kernel)
abbrev rj:List Str:=["word","one","other"]
theorem jx:az rj ["word","one","other"] (ag ix):=L2.fsc rfl (by decide+kernel)
abbrev wu:List Str:=["row","rules","rule"]
theorem lV:az wu ["row","rules"] (ag jC):=L2.fsc rfl (by decide+kernel)
abbrev wt:List Str:=["hull","choice","told"]
theorem lU:az wt ["hull","choice"] (ag jB):=L2.fsc rfl (by decide+kernel)
abbrev oB:List Str:=["rows","hull","rules","k","row","choice","rule"]
theorem iG:az oB ["rows","hull"] (ag gf):=L2.fsc rfl (by decide+kernel)
abbrev yc:List Str:=["tree","found","trees","hulls","branch","hull","parts"]
theorem nY:az yc ["tree"] (ag kT):=L2.fsc rfl (by decide+kernel)
abbrev ri:List Str:=["folds"]
theorem jw:az ri ["folds"] (ag iw):=L2.fsc rfl (by decide+kernel)
abbrev Be:List Str:=["hull","rows","told","test","parts"]
theorem kP:az Be ["hull","rows"] (ag ng):=L2.fsc rfl (by decide+kernel)
abbrev qu:List Str:=["one","other","rows","fold"]
theorem jg:az qu ["one","other"] (ag gQ):=L2.fsc rfl (by decide+kernel)
abbrev lj:List Str:=["one","other"]
theorem gv:az lj ["one","other"] (ag dU):=L2.fsc rfl (by decide+kernel)
abbrev n_alike:List Str:=["one","other","tree","hull","corner"]
theorem vI:az n_alike ["one","other"] (ag tK):=L2.fsc rfl (by decide+kernel)
abbrev Bl:List Str:=["_law_tree"]
theorem kR:az Bl ["_law_tree"] (ag iL):=L2.fsc rfl (by decide+kernel)
abbrev wo:List Str:=["_law_tree","_law_rows","_law_places","_law_row"]
theorem iW:az wo ["_law_tree","_law_rows"] (ag fU):=L2.fsc rfl (by decide+kernel)
abbrev Bi:List Str:=["_law_rule_here","_law_corner"]
theorem pW:az Bi ["_law_rule_here","_law_corner"] (ag nq):=L2.fsc rfl (by decide+kernel)
abbrev yb:List Str:=["_law_point","_law_by","_law_number"]
theorem nX:az yb ["_law_point"] (ag gS):=L2.fsc rfl (by decide+kernel)
abbrev mw:List Str:=["_law_hull","_law_rule_here","_law_some","_law_low","_law_high","_law_k","_law_corner","_law_here","_law_there","_law_other","_law_fresh"]
theorem vD:az mw ["_law_hull","_law_rule_here"] (ag cT):=L2.fsc rfl (by decide+kernel)
abbrev n_l_sum:List Str:=["_law_one","_law_other","_law_by"]
theorem vB:az n_l_sum ["_law_one","_law_other","_law_by"] (ag lY):=L2.fsc rfl (by decide+kernel)
abbrev wm:List Str:=["_law_row","_law_rules_here","_law_hull","_law_known","_law_one","_law_other","_law_test","_law_ways","_law_some"]
theorem rQ:az wm ["_law_row","_law_rules_here","_law_hull"] (ag gR):=L2.fsc rfl (by decide+kernel)
abbrev Bj:List Str:=["_law_rows","_law_hull","_law_rules_here","_law_row","_law_rule_here","_law_test"]
theorem pX:az Bj ["_law_rows","_law_hull"] (ag nr):=L2.fsc rfl (by decide+kernel)
abbrev Bk:List Str:=["_law_tree","_law_hull","_law_both","_law_low","_law_high"]
theorem kQ:az Bk ["_law_tree","_law_hull"] (ag iK):=L2.fsc rfl (by decide+kernel)
abbrev ug:List Str:=["_law_found"]
theorem kI:az ug ["_law_found"] (ag eI):=L2.fsc rfl (by decide+kernel)
abbrev n_l_few:List Str:=["_law_cells","_law_room","_law_most","_law_tree"]
theorem vC:az n_l_few ["_law_cells","_law_room","_law_most"] (ag tJ):=L2.fsc rfl (by decide+kernel)
abbrev Bh:List Str:=["_law_cell","_law_a","_law_b","_law_some"]
theorem pV:az Bh ["_law_cell","_law_a","_law_b"] (ag cN):=L2.fsc rfl (by decide+kernel)
abbrev Ef:List Str:=["_law_tree","_law_one","_law_other","_law_both","_law_first","_law_second","_law_hulls_here","_law_hull","_law_rules_here"]
theorem rP:az Ef ["_law_tree","_law_one","_law_other"] (ag qg):=L2.fsc rfl (by decide+kernel)
abbrev Ee:List Str:=["_law_one","_law_other","_law_found","_law_n","_law_x","_law_y"]
theorem rO:az Ee ["_law_one","_law_other"] (ag qf):=L2.fsc rfl (by decide+kernel)
def t3D (p:T3):PyData:=.tuple [.int p.u,.int p.v,.int p.w]
section
variable {K:W.Frag} {H H':Hp} {a:Addr} {v:V} {p:T3}
theorem bY (g:SqT K H a [.int p.u,.int p.v,.int p.w]):Dat K H (t3D p) (.ref a):=⟨a,_,rfl,g,_,_,rfl,rfl,_,_,rfl,rfl,_,_,rfl,rfl,rfl⟩
theorem dX (g:Dat K H (t3D p) v):∃ a,v=.ref a/\SqT K H a [.int p.u,.int p.v,.int p.w]:=by
 obtain ⟨a,xs,rfl,g,x,r,rfl,hx,y,t,rfl,hy,z,u,rfl,hz,hu⟩:=g;cases (show x=V.int p.u from hx)
 cases (show y=V.int p.v from hy)
 cases (show z=V.int p.w from hz)
 cases (show u=[] from hu)
 exact ⟨a,rfl,g⟩
theorem kH {xs:List V} {h:List T3} (g:DatAll K H (h.map t3D) xs) {i:Nat} (e:h[i]?=some p):∃ x,xs[i]?=some x/\Dat K H (t3D p) x:=g.get (by rw [List.getElem?_map,e];rfl)
theorem sW {xs:List V} {h:List T3} (g:DatAll K H (h.map t3D) xs) {i:Nat} {x:V} (e:xs[i]?=some x):∃ p,h[i]?=some p/\Dat K H (t3D p) x:=by
 obtain ⟨d,e1,e2⟩:=g.get' e;rw [List.getElem?_map] at e1;cases z:h[i]? with
 | none=>rw [z] at e1;cases e1
 | some s=>rw [z] at e1;cases e1;exact ⟨s,rfl,e2⟩
theorem jr {xs:List V} {h:List T3} (g:DatAll K H (h.map t3D) xs):xs.length=h.length:=by rw [g.len,List.length_map]
end
def Bg (x:Int):Prop:=x.natAbs < 2 ^ 8000
theorem jH {a b:Int} (ha:Bg a) (hb:Bg b):IntMulOk a b:=IntMulOk.of_le (m:=8000) (n:=8000) (Ae ha) (Ae hb) (by decide)
theorem jS {x:Int} {n:Nat} (h:x.natAbs < 2 ^ n) (hn:n<=8000):Bg x:=Nat.lt_of_lt_of_le h (Nat.pow_le_pow_right (by decide) hn)
theorem divB {t x:Int} (h0:x≠0) (h:Bg x):CDivK t x:=⟨h0,Nat.lt_of_lt_of_le ((Nat.log2_lt (by omega)).mpr h) (by decide)⟩
def vk:Sp:=λvs H Q _=>∃ a b:Int,vs=[.int a,.int b]/\Q (.int (Lo.gc a b)) H
def Cw (K:W.Frag):Sp:=λvs H Q _=>∃(x y:V) (r p:T3),vs=[x,y]/\Dat K H (t3D r) x/\Dat K H (t3D p) y/\Hu.R3 3000 r/\Hu.R3 3000 p/\Q (.int (Hu.tl r p)) H
def Cy (K:W.Frag):Sp:=λvs H Q _=>∃(x:V) (l:Addr) (us:List V) (r:T3) (h:List T3),vs=[x,.ref l]/\Dat K H (t3D r) x/\SqL K H l us/\DatAll K H (h.map t3D) us/\Hu.R3 3000 r/\(∀ p∈h,Hu.R3 3000 p)/\h.length<=900/\(∀ H',aK H H'->SqL K H' l us)/\
 ∀(d:Addr) (H':Hp),aK H H'->H d=none->H' d=some (.lst ((h.map (Hu.tl r)).map V.int))->Q (.ref d) H'
def spCB (K:W.Frag):Sp:=λvs H Q _=>∃(x y:V) (p q:T3) (s t:Int),vs=[x,y,.int s,.int t]/\Dat K H (t3D p) x/\Dat K H (t3D q) y/\Hu.P3 600 p/\Hu.P3 600 q/\s*t < 0/\s.natAbs < 2 ^ 2000/\t.natAbs < 2 ^ 2000/\
 ∀(v:V) (H':Hp),aK H H'->Dat K H' (t3D (Hu.mid p q s t)) v->Q v H'
theorem AY (T:aD K mg "common_factor" gi) (hV:mg "abs"=none):Def P w K mg base 1 "common_factor" ["one","other"] vk:=by
 refine aR T iH (λ_ _ _ _ _ _=>L2.ar2 λ_ _=>rfl) ?_ ?_
 ·walk_at "i1";obtain ⟨a,b,rfl,_⟩:=h;rfl
 walk_at "i2";obtain ⟨a,b,rfl,q⟩:=h;have nd:=iH.nd
 refine ⟨_,(ah (aJ (i:=2) nd rfl (Or.inl rfl) (aC hJ rfl hV (by decide+kernel) (aa (pv 0) af)))
  (ah (aJ (i:=3) nd rfl (Or.inl rfl) (aC hJ rfl hV (by decide+kernel) (aa (pv 1) af)))
  (ah (jE PassesOwn.never (aA jh (pv 3) aq (aF _)) (ah (aJ (i:=4) nd rfl (Or.inl rfl) (aL ik (pv 2) (pv 3)))
  (ah (aJ (i:=2) nd rfl (Or.inl rfl) (pv 3))
  (ao (aJ (i:=3) nd rfl (Or.inl rfl) (pv 4))))))
  (ao (av (pv 2)))))),?_⟩
 refine ⟨_,rfl,_,rfl,_,rfl,_,rfl,?_⟩;rw [cZ,cZ];refine ⟨λm σ H'=>H'=H/\∃(g l:Int) (o:Option V),σ=[some (.int a),some (.int b),some (.int g),some (.int l),o]/\0<=g/\0<=l/\l.toNat=m/\Lo.gc g l=Lo.gc a b,⟨_,rfl,_,_,_,rfl,by omega,by omega,rfl,Lo.Bx a b⟩,?_⟩;rintro m σ H' ⟨rfl,g,l,o,rfl,hg,hl,rfl,e⟩
 refine ⟨_,rfl,rfl,_,rfl,?_⟩;refine eA (λc=>?_) (λc=>?_)
 ·have c':l≠0:=λz=>by
   rw [z,decide_eq_true (rfl:V.int 0=V.int 0)] at c;cases c
  have c2:0 < l:=by omega
  refine ⟨λσ' H''=>H''=H'/\σ'=[some (.int a),some (.int b),some (.int l),some (.int (g.fmod l)),some (.int (g.fmod l))],?_,?_⟩
  ·rintro σ' H'' ⟨rfl,rfl⟩
   have z0:=Int.fmod_nonneg_of_pos g c2;have z1:=Int.fmod_lt_of_pos g c2;exact ⟨_,(show (g.fmod l).toNat < l.toNat by omega),rfl,l,g.fmod l,_,rfl,by omega,z0,rfl,by rw [Lo.zS];exact e⟩
  ·exact ⟨_,rfl,_,rfl,_,_,rfl,rfl,c',_,rfl,_,rfl,rfl,rfl⟩
 ·have l0:l=0:=by
   by_cases z:l=0
   ·exact z
   ·exfalso;refine c ?_;have n:¬ (V.int l=V.int 0):=λq=>z (V.int.inj q);simp [n]
  subst l0;rw [Lo.zR hg] at e;subst e;exact ⟨_,rfl,q⟩
theorem r3b {r:T3} (h:Hu.R3 3000 r):Bg r.u/\Bg r.v/\Bg r.w:=⟨jS h.a (by decide),jS h.b (by decide),jS h.c (by decide)⟩
theorem ok_told (T:aD K mg "told_by" nh):Def P w K mg base 1 "told_by" ["rule","point"] (Cw K):=by
 refine aR T pR (λ_ _ _ _ _ _=>L2.ar2 λ_ _=>rfl) ?_ ?_
 ·walk_at "i1";obtain ⟨x,y,r,p,rfl,_⟩:=h;rfl
 walk_at "i2";obtain ⟨x,y,r,p,rfl,dx,dy,br,bp,q⟩:=h;obtain ⟨ar,rfl,sr⟩:=dX dx;obtain ⟨ap,rfl,st⟩:=dX dy;obtain ⟨r1,r2,r3⟩:=r3b br;obtain ⟨p1,p2,p3⟩:=r3b bp;have nd:=pR.nd;refine ⟨_,(ao (av (aL bR (aL bR (aL cf (aG aB (pv 0) aq (λ_ _=>rfl)) (aG aB (pv 1) aq (λ_ _=>rfl))) (aL cf (aG aB (pv 0) aq (λ_ _=>rfl)) (aG aB (pv 1) aq (λ_ _=>rfl)))) (aL cf (aG aB (pv 0) aq (λ_ _=>rfl)) (aG aB (pv 1) aq (λ_ _=>rfl)))))),?_⟩;exact ⟨_,rfl,_,_,_,_,rfl,rfl,sr,rfl,_,rfl,_,_,_,_,rfl,rfl,st,rfl,_,_,rfl,rfl,jH r1 p2,_,rfl,_,_,_,_,rfl,rfl,sr,rfl,_,rfl,_,_,_,_,rfl,rfl,st,rfl,_,_,rfl,rfl,jH r2 p3,_,_,rfl,rfl,_,rfl,_,_,_,_,rfl,rfl,sr,rfl,_,rfl,_,_,_,_,rfl,rfl,st,rfl,_,_,rfl,rfl,jH r3 p1,_,_,rfl,rfl,q⟩
theorem pE {H1:Hp} {l D:Addr} {us:List V} {r:T3} {h:List T3} {te:TE} {js:List Nat} {σ:St} {R:Hp->Prop} (hl:∀ H',aK H1 H'->SqL K H' l us) (da:DatAll K H1 (h.map t3D) us) (few:h.length<=900) (hD:H1 D=none)
  (step:∀(v:V) (p:T3) (H':Hp) (k:VK),aK H1 H'->p∈h->Dat K H' (t3D p) v->k (.int (Hu.tl r p)) H'->te (some v::bL js σ) H' k)
  (fin:∀ H',aK H1 H'->H' D=some (.lst ((h.map (Hu.tl r)).map V.int))->R H') :
  ∃ W:Nat->Nat->Hp->Prop,(∃ m,W 0 m (upd H1 D (.lst [])))/\∀ i m H2,W i m H2->((Itl K l).stop i H2/\R H2)\/
   ((
    Itl K l).go i H2/\∀ v H3,(Itl K l).yld i H2 v H3->kG (some v::bL js σ) H3 λb H4=>if b=true then te (some v::bL js σ) H4 λy H5 =>
    ∃ ys,H5 D=some (.lst ys)/\ys.length < sizeLine/\∃ m',m' < m/\W (i+1) m' (upd H5 D (.lst (ys++[y]))) else ∃ m',m' < m/\W (i+1) m' H4):=by
 have lu:=jr da;refine ⟨λi m H2=>m=us.length - i/\i<=us.length/\aK H1 H2/\H2 D=some (.lst (((h.take i).map (Hu.tl r)).map V.int)),⟨_,rfl,Nat.zero_le _,ak hD _,ae⟩,?_⟩;rintro i m H2 ⟨rfl,hi,sm,hlD⟩
 by_cases hlt:i < us.length
 ·refine .inr ⟨⟨us,_,hl _ sm,List.getElem?_eq_getElem hlt⟩,λv H3 y=>?_⟩;obtain ⟨rfl,y⟩:=y;obtain ⟨p,hp,dp⟩:=sW (da.ts sm.ts) (y us (hl _ sm));refine iC ?_;refine step v p _ _ sm (List.mem_of_getElem? hp) dp ?_;refine ⟨_,hlD,aO (by simp;omega),us.length - (i+1),by omega,rfl,hlt,aQ sm hD _,?_⟩;rw [ae]
  have e:h.take (i+1)=h.take i++[p]:=by
   obtain ⟨q1,q2⟩:=List.getElem?_eq_some_iff.mp hp;rw [List.take_succ_eq_append_getElem q1,q2]
  rw [e,List.map_append,List.map_append];rfl
 ·have ei:i=us.length:=by omega
  subst ei;refine .inl ⟨⟨us,hl _ sm,Nat.le_refl _⟩,fin _ sm ?_⟩;rw [hlD,lu,List.take_length]
theorem ok_tic (T:aD K mg "told_in_corners" cC) (BX:Def P w K mg base 1 "told_by" ["rule","point"] (Cw K)):Def P w K mg base 2 "told_in_corners" ["rule","hull"] (Cy K):=by
 refine aR T gP (λ_ _ _ _ _ _=>L2.ar2 λ_ _=>rfl) ?_ ?_
 ·walk_at "i1";obtain ⟨x,l,us,r,h,rfl,_⟩:=h;rfl
 walk_at "i2";obtain ⟨x,l,us,r,h,rfl,dx,sl,da,br,bp,few,hl,k⟩:=h;have nd:=gP.nd;refine ⟨_,(ao (av (fV rfl (di (pv 1)) rfl (by decide+kernel) (by decide+kernel) rfl (show ∀ p∈Scope.names _,p.2=NameKind.free->List.lookup p.1 (ag cC).names=some .cell\/List.lookup p.1 (ag cC).names=some .free by decide+kernel) (dR (j:=0) rfl (Or.inl rfl) (by decide+kernel) (Or.inl rfl) dD) (show (["corner","rule"]:List Str).Nodup by decide+kernel) (λ_ _ _ _=>eU) (λ_ _ _ _=>(aE BX (hr.mono (by decide)) rfl (aa (pv 1) (aa (pv 0) af))))))),?_⟩;refine ⟨_,rfl,l,rfl,⟨us,sl⟩,λD hD=>?_⟩;exact pE (r:=r) hl da few hD (λv p H' kk sm hp dp q=>⟨_,rfl,_,rfl,x,v,r,p,rfl,dx.ts sm.ts,dp,br,bp p hp,q⟩) λH' sm e=>k D H' sm hD e
theorem mq {X:Cx} {K:W.Frag} {es:List Expr} {k:Nat} {pos:Pos} {t:TGs} {n:Nat} (e:X.K=K) (hc:X.calm=true) (h:PGs X es t)
  (hn:(assignEach es X.env).length=n:=by rfl) (hst:(assignEach es X.env).findIdx? (·.1)=none:=by rfl):PG X (.Tuple es k pos) (gTup K n t):=by
 subst e;exact kY hc h hn hst
theorem len2 {o:St} (h:o.length=2):∃ a b,o=[a,b]:=match o,h with | [a,b],_=>⟨a,b,rfl⟩
theorem EN {H1:Hp} {l D:Addr} {a b c g:Int} {te:TE} {js:List Nat} {σ:St} {R:Hp->Prop} (hl:H1 l=some (.lst [.int a,.int b,.int c])) (hD:H1 D=none)
  (step:∀(n:Int) (H':Hp) (k:VK),k (.int (n.fdiv g)) H'->te (some (.int n)::bL js σ) H' k)
  (fin:∀ H',aK H1 H'->H' D=some (.lst [.int (a.fdiv g),.int (b.fdiv g),.int (c.fdiv g)])->R H') :
  ∃ W:Nat->Nat->Hp->Prop,(∃ m,W 0 m (upd H1 D (.lst [])))/\∀ i m H2,W i m H2->((Itl K l).stop i H2/\R H2)\/
   ((
    Itl K l).go i H2/\∀ v H3,(Itl K l).yld i H2 v H3->kG (some v::bL js σ) H3 λb H4=>if b=true then te (some v::bL js σ) H4 λy H5 =>
    ∃ ys,H5 D=some (.lst ys)/\ys.length < sizeLine/\∃ m',m' < m/\W (i+1) m' (upd H5 D (.lst (ys++[y]))) else ∃ m',m' < m/\W (i+1) m' H4):=by
 refine ⟨λi m H2=>m=3 - i/\i<=3/\aK H1 H2/\H2 D=some (.lst ([V.int (a.fdiv g),.int (b.fdiv g),.int (c.fdiv g)].take i)),⟨_,rfl,Nat.zero_le _,ak hD _,ae⟩,?_⟩;rintro i m H2 ⟨rfl,hi,sm,hlD⟩
 have sl:SqL K H2 l [.int a,.int b,.int c]:=SqL.of (sm _ _ hl)
 by_cases hlt:i < 3
 ·refine .inr ⟨⟨_,_,sl,List.getElem?_eq_getElem (show i < 3 from hlt)⟩,λv H3 y=>?_⟩;obtain ⟨rfl,y⟩:=y;have z:=y _ sl;refine iC ?_;rcases (show i=0\/i=1\/i=2 by omega) with rfl | rfl | rfl
  ·cases z
   exact step _ _ _ ⟨_,hlD,aO (by simp),3 - 1,by omega,rfl,by omega,aQ sm hD _,ae⟩
  ·cases z
   exact step _ _ _ ⟨_,hlD,aO (by simp),3 - 2,by omega,rfl,by omega,aQ sm hD _,ae⟩
  ·cases z
   exact step _ _ _ ⟨_,hlD,aO (by simp),3 - 3,by omega,rfl,by omega,aQ sm hD _,ae⟩
 ·have ei:i=3:=by omega
  subst ei;exact .inl ⟨⟨_,sl,Nat.le_refl _⟩,fin _ sm hlD⟩
theorem rY {p q s t:Int} {a b:T3} (p0:0<=p) (q0:0<=q) (p1:p < 2 ^ 600) (q1:q < 2 ^ 600) (hs:s.natAbs < 2 ^ 2000) (ht:t.natAbs < 2 ^ 2000):0<=Hu.nm p q s t/\Bg (Hu.nm p q s t):=by
 obtain ⟨a,b⟩:=Hu.nm_b p0 q0 p1 q1 hs ht;exact ⟨a,jS b (by decide)⟩
theorem gg_bg {U V W:Int} (h0:0 < U) (h:Bg U):Hu.gg U V W≠0/\Bg (Hu.gg U V W):=by
 have g0:=Hu.lC (V:=V) (W:=W) h0;have g1:=Hu.gg_le (V:=V) (W:=W) h0;exact ⟨by omega,Nat.lt_of_le_of_lt (by omega) h⟩
theorem ok_cb (T:aD K mg "corner_between" bP) (hU:mg "zip"=none) (hV:mg "abs"=none) (aZ:mg "tuple"=none) (jj:Def P w K mg base 1 "common_factor" ["one","other"] vk):Def P w K mg base 2 "corner_between" ["one","other","at_one","at_other"] (spCB K):=by
 refine aR T hX (λ_ _ _ _ _ _=>L2.ar4 λ_ _ _ _=>rfl) ?_ ?_
 ·walk_at "i1";obtain ⟨x,y,p,q,s,t,rfl,_⟩:=h;rfl
 walk_at "i2";obtain ⟨x,y,p,q,s,t,rfl,dx,dy,hp,hq,st,hs,ht,k⟩:=h;obtain ⟨ax,rfl,sx⟩:=dX dx;obtain ⟨ay,rfl,sy⟩:=dX dy;have nd:=hX.nd;obtain ⟨u0,ub⟩:=rY (a:=p) (b:=p) (Int.le_of_lt hp.n0) (Int.le_of_lt hq.n0) hp.n1 hq.n1 hs ht;obtain ⟨v0,vb⟩:=rY (a:=p) (b:=p) hp.x0 hq.x0 hp.x1 hq.x1 hs ht;obtain ⟨w0,wb⟩:=rY (a:=p) (b:=p) hp.y0 hq.y0 hp.y1 hq.y1 hs ht;have up:=Hu.il hp hq st;obtain ⟨g0,gb⟩:=gg_bg (V:=Hu.nm p.v q.v s t) (W:=Hu.nm p.w q.w s t) up ub;have bs:Bg (s.natAbs:Int):=jS (n:=2000) (by simpa using hs) (by decide);have bt:Bg (t.natAbs:Int):=jS (n:=2000) (by simpa using ht) (by decide);have pb:=r3b (hp.r.mono (by decide));have qb:=r3b (hq.r.mono (by decide))
 refine ⟨_,(ah (Dw (i:=4) (xs:=["first","second"]) nd rfl (Or.inl rfl) (Or.inl rfl) rfl rfl (mn rfl hU (pv 0) (pv 1)) rfl (by decide+kernel) (by decide+kernel) (show ∀ p∈Scope.names _,p.2=NameKind.free->List.lookup p.1 (ag bP).names=some .cell\/List.lookup p.1 (ag bP).names=some .free by decide+kernel) (dR (j:=3) rfl (Or.inl rfl) (by decide+kernel) (Or.inl rfl) (dR (j:=2) rfl (Or.inl rfl) (by decide+kernel) (Or.inl rfl) dD)) (show (["first","second","at_other","at_one"]:List Str).Nodup by decide+kernel) (λ_ _ _ _=>mq (K:=K) (n:=2) rfl rfl (bw (aY (i:=0) (show (["first","second","at_other","at_one"]:List Str).Nodup by decide+kernel) rfl (Or.inl rfl) (.inr rfl)) (bw (aY (i:=1) (show (["first","second","at_other","at_one"]:List Str).Nodup by decide+kernel) rfl (Or.inl rfl) (.inr rfl)) eV))) (λ_ _ _ _=>(aL bR (aL cf (aC hJ rfl hV (by decide+kernel) (aa (pv 2) af)) (pv 0)) (aL cf (aC hJ rfl hV (by decide+kernel) (aa (pv 3) af)) (pv 1)))))
  (ah (aJ (i:=5) nd rfl (Or.inr rfl) (aE jj (hr.mono (by decide)) rfl (aa (aE jj (hr.mono (by decide)) rfl (aa (aG bG (pv 4) aq (λ_ _=>rfl)) (aa (aG bG (pv 4) aq (λ_ _=>rfl)) af))) (aa (aG bG (pv 4) aq (λ_ _=>rfl)) af))))
  (ao (av (cB cH rfl aZ (by decide+kernel) (aa (fV rfl (di (pv 4)) rfl (by decide+kernel) (by decide+kernel) rfl (show ∀ p∈Scope.names _,p.2=NameKind.free->List.lookup p.1 (ag bP).names=some .cell\/List.lookup p.1 (ag bP).names=some .free by decide+kernel) (dR (j:=5) rfl (Or.inl rfl) (by decide+kernel) (Or.inl rfl) dD) (show (["number","factor"]:List Str).Nodup by decide+kernel) (λ_ _ _ _=>eU) (λ_ _ _ _=>(aL vS (pv 0) (pv 1)))) af)))))),?_⟩
 refine ⟨_,rfl,_,rfl,ax,ay,_,_,rfl,rfl,sx,sy,λD hD=>?_⟩;refine ⟨λi m H2=>m=3 - i/\i<=3/\aK H H2/\H2 D=some (.lst ([V.int (Hu.nm p.u q.u s t),.int (Hu.nm p.v q.v s t),.int (Hu.nm p.w q.w s t)].take i)),⟨_,rfl,Nat.zero_le _,ak hD _,ae⟩,?_⟩;rintro i m H2 ⟨rfl,hi,sm,hlD⟩
 have sx2:=sx.ts sm.ts;have sy2:=sy.ts sm.ts
 by_cases hlt:i < 3
 ·refine .inr ⟨⟨_,_,sx2,sy2,hlt,Nat.le_refl _⟩,λo ho v H3 y=>?_⟩;obtain ⟨T',vs,nT,rfl,rfl,x,y,rfl,hx,hy⟩:=y;have zx:=hx _ sx2;have zy:=hy _ sy2;obtain ⟨o1,o2,rfl⟩:=len2 ho;have uT:=ak nT (.tup [x,y]);refine ⟨T',_,rfl,SqT.of ae,rfl,_,_,rfl,_,_,rfl,rfl,[some x,some y],rfl,rfl,?_⟩;have hlD2:=uT _ _ hlD;rcases (show i=0\/i=1\/i=2 by omega) with rfl | rfl | rfl
  ·cases zx
   cases zy
   refine ⟨_,rfl,_,rfl,_,rfl,_,_,rfl,rfl,(by rw [cZ];exact jH bt pb.1),_,rfl,_,rfl,_,rfl,_,_,rfl,rfl,(by rw [cZ];exact jH bs qb.1),_,_,rfl,rfl,?_⟩;refine ⟨_,hlD2,aO (by simp),3 - 1,by omega,rfl,by omega,aQ (sm.trans uT) hD _,?_⟩;rw [ae,cZ,cZ];rfl
  ·cases zx
   cases zy
   refine ⟨_,rfl,_,rfl,_,rfl,_,_,rfl,rfl,(by rw [cZ];exact jH bt pb.2.1),_,rfl,_,rfl,_,rfl,_,_,rfl,rfl,(by rw [cZ];exact jH bs qb.2.1),_,_,rfl,rfl,?_⟩;refine ⟨_,hlD2,aO (by simp),3 - 2,by omega,rfl,by omega,aQ (sm.trans uT) hD _,?_⟩;rw [ae,cZ,cZ];rfl
  ·cases zx
   cases zy
   refine ⟨_,rfl,_,rfl,_,rfl,_,_,rfl,rfl,(by rw [cZ];exact jH bt pb.2.2),_,rfl,_,rfl,_,rfl,_,_,rfl,rfl,(by rw [cZ];exact jH bs qb.2.2),_,_,rfl,rfl,?_⟩;refine ⟨_,hlD2,aO (by simp),3 - 3,by omega,rfl,by omega,aQ (sm.trans uT) hD _,?_⟩;rw [ae,cZ,cZ];rfl
 have ei:i=3:=by omega
 subst ei;refine .inl ⟨⟨_,_,sx2,sy2,Nat.le_refl _,Nat.le_refl _⟩,?_⟩;have hl3:H2 D=some (.lst [.int (Hu.nm p.u q.u s t),.int (Hu.nm p.v q.v s t),.int (Hu.nm p.w q.w s t)]):=hlD;have sD:SqL K H2 D [.int (Hu.nm p.u q.u s t),.int (Hu.nm p.v q.v s t),.int (Hu.nm p.w q.w s t)]:=SqL.of hl3;refine ⟨_,rfl,_,_,_,_,rfl,rfl,sD,rfl,_,rfl,_,_,_,_,rfl,rfl,sD,rfl,_,_,rfl,_,rfl,_,_,_,_,rfl,rfl,sD,rfl,_,_,rfl,?_⟩;refine ⟨_,rfl,D,rfl,⟨_,sD⟩,λD2 hD2=>?_⟩;refine EN (K:=K) (g:=Hu.gg (Hu.nm p.u q.u s t) (Hu.nm p.v q.v s t) (Hu.nm p.w q.w s t)) hl3 hD2 ?step ?fin
 case step =>
  intro n H' kk q;exact ⟨_,rfl,_,rfl,_,_,rfl,rfl,divB g0 gb,q⟩
 intro H' sm2 e2;refine ⟨D2,_,rfl,.inl ⟨SqL.of e2,λtt htt=>?_⟩⟩;have u3:=ak htt (.tup [.int ((Hu.nm p.u q.u s t).fdiv (Hu.gg (Hu.nm p.u q.u s t) (Hu.nm p.v q.v s t) (Hu.nm p.w q.w s t))),.int ((Hu.nm p.v q.v s t).fdiv (Hu.gg (Hu.nm p.u q.u s t) (Hu.nm p.v q.v s t) (Hu.nm p.w q.w s t))),.int ((Hu.nm p.w q.w s t).fdiv (Hu.gg (Hu.nm p.u q.u s t) (Hu.nm p.v q.v s t) (Hu.nm p.w q.w s t)))]);exact k _ _ (sm.trans (sm2.trans u3)) (bY (p:=Hu.mid p q s t) (SqT.of ae))
def kz (s:Stmt):List Stmt:=match s with
 | .For _ _ b _ _=>b
 | _=>[]
def Aw (s:Stmt) (i:Nat):Stmt:=(bu s).getD i (.Pass ⟨0,0,0,0⟩)
def CutR (K:W.Frag) (H H':Hp) (r:T3) (h:List T3) (v:V):Prop:=∃(t a b:Addr) (us1 us2:List V),v=.ref t/\a≠b/\H a=none/\H b=none/\SqT K H' t [.ref a,.ref b]/\H' a=some (.lst us1)/\H' b=some (.lst us2)/\DatAll K H' ((Hu.low r h).map t3D) us1/\DatAll K H' ((Hu.high r h).map t3D) us2
def CK (K:W.Frag) (CN:Addr):Sp:=λvs H Q E=>∃(l:Addr) (x:V) (us:List V) (h:List T3) (r:T3),vs=[.ref l,x]/\H l=some (.lst us)/\DatAll K H (h.map t3D) us/\Dat K H (t3D r) x/\Hu.uM 600 256 h/\Hu.R3 1200 r/\
 (Hu.fZ r h->∀ H',aK H H'->E (.ref CN) none H')/\(¬Hu.fZ r h->∀(v:V) (H':Hp),aK H H'->CutR K H H' r h v->Q v H')
def CI (K:W.Frag):Sp:=λvs H Q _=>∃(l:Addr) (x:V) (us:List V) (h:List T3) (r:T3),vs=[.ref l,x]/\H l=some (.lst us)/\DatAll K H (h.map t3D) us/\Dat K H (t3D r) x/\Hu.uM 600 256 h/\Hu.R3 1200 r/\
 (Hu.fZ r h->∀ H',aK H H'->Q .non H')/\(¬Hu.fZ r h->∀(v:V) (H':Hp),aK H H'->CutR K H H' r h v->Q v H')
structure MI (K:W.Frag) (H H':Hp) (lo hi:Addr) (L1 L2:List T3):Prop where
 sm:aK H H'
 ex:∃ us1 us2,H' lo=some (.lst us1)/\H' hi=some (.lst us2)/\DatAll K H' (L1.map t3D) us1/\DatAll K H' (L2.map t3D) us2
section
variable {K:W.Frag} {H H' H'':Hp} {lo hi:Addr} {L1 L2:List T3} {p:T3} {v:V} {us:List V}
theorem MI.new (m:MI K H H' lo hi L1 L2) (s:aK H' H''):MI K H H'' lo hi L1 L2:=by
 obtain ⟨u1,u2,e1,e2,d1,d2⟩:=m.ex;exact ⟨m.sm.trans s,u1,u2,s _ _ e1,s _ _ e2,d1.ts s.ts,d2.ts s.ts⟩
theorem MI.app1 (m:MI K H H' lo hi L1 L2) (h0:H lo=none) (ne:lo≠hi) (e:H' lo=some (.lst us)) (d:Dat K H' (t3D p) v):MI K H (upd H' lo (.lst (us++[v]))) lo hi (L1++[p]) L2:=by
 obtain ⟨u1,u2,e1,e2,d1,d2⟩:=m.ex;rw [e] at e1;cases e1
 have t:Tst H' (upd H' lo (.lst (us++[v]))):=dJ e;refine ⟨aQ m.sm h0 _,_,u2,ae,by rw [au (Ne.symm ne)];exact e2,?_,d2.ts t⟩;rw [List.map_append];exact (d1.ts t).snoc (d.ts t)
theorem MI.app2 (m:MI K H H' lo hi L1 L2) (h0:H hi=none) (ne:lo≠hi) (e:H' hi=some (.lst us)) (d:Dat K H' (t3D p) v):MI K H (upd H' hi (.lst (us++[v]))) lo hi L1 (L2++[p]):=by
 obtain ⟨u1,u2,e1,e2,d1,d2⟩:=m.ex;rw [e] at e2;cases e2
 have t:Tst H' (upd H' hi (.lst (us++[v]))):=dJ e;refine ⟨aQ m.sm h0 _,u1,_,by rw [au ne];exact e1,ae,d1.ts t,?_⟩;rw [List.map_append];exact (d2.ts t).snoc (d.ts t)
theorem MI.len (m:MI K H H' lo hi L1 L2) (l1:L1.length<=990) (l2:L2.length<=990):(∃ us,H' lo=some (.lst us)/\us.length<=1000)/\∃ us,H' hi=some (.lst us)/\us.length<=1000:=by
 obtain ⟨u1,u2,e1,e2,d1,d2⟩:=m.ex;exact ⟨⟨u1,e1,by rw [jr d1];omega⟩,u2,e2,by rw [jr d2];omega⟩
end
theorem gw {r:T3} {h:List T3} {i:Nat} (hi:i < h.length):atI ((h.map (Hu.tl r)).map V.int) ((i:Nat):Int)=some (.int (Hu.tv r h i)):=by
 refine cg ?_;rw [List.getElem?_map,List.getElem?_map,Hu.mK hi];rfl
theorem ok_cut {CN:Addr} (T:aD K mg "cut" jA) (M_NoCut:mg "NoCut"=some (.ref CN)) (X_NoCut:PySem.W.excIn K CN bmV "ValueError.__new__"=true) (bU:mg "min"=none) (ck:mg "max"=none) (cG:mg "enumerate"=none) (bg:mg "len"=none)
  (fi:Def P w K mg base 2 "told_in_corners" ["rule","hull"] (Cy K)) (nS:Def P w K mg base 2 "corner_between" ["one","other","at_one","at_other"] (spCB K)):xb P w K mg base 3 "cut" ["hull","rule"] (CK K CN):=by
 refine zX T CQ (λ_ _ _ _ _ _=>L2.ar2 λ_ _=>rfl) ?_ ?_
 ·walk_at "i1";obtain ⟨l,x,us,h,r,rfl,_⟩:=h;rfl
 walk_at "i2";obtain ⟨l,x,us,h,r,rfl,hl,da,dx,hu,hr3,kn,kc⟩:=h;have nd:=CQ.nd;have lu:=jr da;have hpos:=hu.pos;have hfew:=hu.few;have br:Hu.R3 3000 r:=hr3.mono (by decide);have bp:∀ p∈h,Hu.R3 3000 p:=λp hp=>((hu.ok p hp).r).mono (by decide);have tb:∀ i,(Hu.tv r h i).natAbs < 2 ^ 2000:=λi=>Nat.lt_of_lt_of_le (Hu.tl_b hr3 (hu.ok _ (Hu.bS hpos i)).r) (Nat.pow_le_pow_right (by decide) (by decide));have tB:∀ i,Bg (Hu.tv r h i):=λi=>jS (tb i) (by decide)
 have t3:∃ t,PSs (cS (CXr P w) P w K mg base wq "cut" (ag jA) f cdv A outer s H E) ((kz (Aw jA 4)).drop 3) t/\
   ∀(
    N B:St->Hp->Prop) (H1 H':Hp) (d lo hi:Addr) (v:V) (i:Nat) (L1 L2:List T3) (o8:Option V),i < h.length->MI K H1 H' lo hi L1 L2->H1 l=some (.lst us)->H1 d=some (.lst ((h.map (Hu.tl r)).map V.int))->H1 lo=none->H1 hi=none->lo≠hi->DatAll K H1 (h.map t3D) us->Dat K H' (t3D (Hu.cor h i)) v->L1.length<=900->L2.length<=900->
    (∀(H'':Hp) (o8':Option V),MI K H1 H'' lo hi (L1++(if Hu.tv r h i*Hu.tv r h (i+1) < 0 then [Hu.mid (Hu.cor h i) (Hu.cor h (i+1)) (Hu.tv r h i) (Hu.tv r h (i+1))] else [])) (L2++(if Hu.tv r h i*Hu.tv r h (i+1) < 0 then [Hu.mid (Hu.cor h i) (Hu.cor h (i+1)) (Hu.tv r h i) (Hu.tv r h (i+1))] else []))->
     N [some (.ref l),some x,some (.ref d),some (.ref lo),some (.ref hi),some (.int i),some v,some (.int (((i+1) % h.length:Nat):Int)),o8'] H'')->
    t {nx:=N,ct:=N,bk:=B,rt:=Q} [some (.ref l),some x,some (.ref d),some (.ref lo),some (.ref hi),some (.int i),some v,some (.int (((i+1) % h.length:Nat):Int)),o8] H':=by
  refine ⟨_,(ao (aP (aA rX (aL cf (aG bG (pv 2) (pv 5) (λ_ _=>rfl)) (aG bG (pv 2) (pv 7) (λ_ _=>rfl))) aq (aF _)) (ah (aJ (i:=8) nd rfl (Or.inl rfl) (aE nS (hr.mono (by decide)) rfl (aa (pv 6) (aa (aG bG (pv 0) (pv 7) (λ_ _=>rfl)) (aa (aG bG (pv 2) (pv 5) (λ_ _=>rfl)) (aa (aG bG (pv 2) (pv 7) (λ_ _=>rfl)) af))))))
  (ah (bf (cI PySem.F.plainAttrs_list PySem.F.slot_list_append PySem.F.type_list_append aW (pv 3) (aa (pv 8) af)))
  (ao (bf (cI PySem.F.plainAttrs_list PySem.F.slot_list_append PySem.F.type_list_append aW (pv 4) (aa (pv 8) af)))))) aH)),?_⟩
  intro N B H1 H' d lo hi v i L1 L2 o8 hi' mi hl1 hd1 hlo hhi ne da1 dv l1 l2 n;have jl:(i+1) % h.length < h.length:=Nat.mod_lt _ hpos;have sd:SqL K H' d ((h.map (Hu.tl r)).map V.int):=SqL.of (mi.sm _ _ hd1);have ai:=gw (r:=r) hi';have aj:=gw (r:=r) jl;rw [Hu.xp] at aj;refine ⟨_,rfl,_,rfl,_,_,_,_,rfl,rfl,sd,ai,_,rfl,_,rfl,_,_,_,_,rfl,rfl,sd,aj,_,_,rfl,rfl,jH (tB _) (tB _),_,_,rfl,rfl,_,rfl,?_⟩;refine eA (λc=>?_) (λc=>?_)
  ·have c':Hu.tv r h i*Hu.tv r h (i+1) < 0:=of_decide_eq_true c;rw [if_pos c'] at n;obtain ⟨y,hy,dy⟩:=kH (da1.ts mi.sm.ts) (Hu.mK jl);rw [Hu.uA] at dy;have sl:SqL K H' l us:=SqL.of (mi.sm _ _ hl1);refine ⟨_,rfl,_,rfl,_,rfl,_,_,_,_,rfl,rfl,sl,cg hy,_,rfl,_,rfl,_,_,_,_,rfl,rfl,sd,ai,_,rfl,_,rfl,_,_,_,_,rfl,rfl,sd,aj,v,y,Hu.cor h i,Hu.cor h (i+1),_,_,rfl,dv,dy,hu.ok _ (Hu.bS hpos i),hu.ok _ (Hu.bS hpos (i+1)),c',tb _,tb _,λm H2 s2 dm=>?_⟩;have m2:=mi.new s2;obtain ⟨⟨u1,e1,k1⟩,u2,e2,k2⟩:=m2.len (by omega) (by omega);refine ⟨_,rfl,.inl ⟨rfl,_,SqL.of e1⟩,_,rfl,lo,u1,_,rfl,rfl,e1,aO k1,?_⟩;have m3:=m2.app1 hlo ne e1 dm;have e2':(upd H2 lo (.lst (u1++[m]))) hi=some (.lst u2):=by rw [au (Ne.symm ne)];exact e2
   refine ⟨_,rfl,.inl ⟨rfl,_,SqL.of e2'⟩,_,rfl,hi,u2,_,rfl,rfl,e2',aO k2,?_⟩;exact n _ _ (m3.app2 hhi ne e2' (dm.ts (dJ e1)))
  ·have c':¬Hu.tv r h i*Hu.tv r h (i+1) < 0:=λz=>c (decide_eq_true z);rw [if_neg c',List.append_nil,List.append_nil] at n;exact n _ _ mi
 obtain ⟨t3,ht3,hq3⟩:=t3
 have t2:∃ t,PSs (cS (CXr P w) P w K mg base wq "cut" (ag jA) f cdv A outer s H E) ((kz (Aw jA 4)).drop 2) t/\
   ∀(
    N B:St->Hp->Prop) (H1 H':Hp) (d lo hi:Addr) (v:V) (i:Nat) (L1 L2:List T3) (o8:Option V),i < h.length->MI K H1 H' lo hi L1 L2->H1 l=some (.lst us)->H1 d=some (.lst ((h.map (Hu.tl r)).map V.int))->H1 lo=none->H1 hi=none->lo≠hi->DatAll K H1 (h.map t3D) us->Dat K H' (t3D (Hu.cor h i)) v->L1.length<=800->L2.length<=800->
    (∀(H'':Hp) (o8':Option V),MI K H1 H'' lo hi (L1++(if Hu.tv r h i*Hu.tv r h (i+1) < 0 then [Hu.mid (Hu.cor h i) (Hu.cor h (i+1)) (Hu.tv r h i) (Hu.tv r h (i+1))] else [])) (L2++Hu.stp h (Hu.tn r h) i)->
     N [some (.ref l),some x,some (.ref d),some (.ref lo),some (.ref hi),some (.int i),some v,some (.int (((i+1) % h.length:Nat):Int)),o8'] H'')->
    t {nx:=N,ct:=N,bk:=B,rt:=Q} [some (.ref l),some x,some (.ref d),some (.ref lo),some (.ref hi),some (.int i),some v,some (.int (((i+1) % h.length:Nat):Int)),o8] H':=by
  refine ⟨_,ah (aP (aA qr (aG bG (pv 2) (pv 5) (λ_ _=>rfl)) aq (aF _)) (ao (bf (cI PySem.F.plainAttrs_list PySem.F.slot_list_append PySem.F.type_list_append aW (pv 4) (aa (pv 6) af)))) aH) ht3,?_⟩;intro N B H1 H' d lo hi v i L1 L2 o8 hi' mi hl1 hd1 hlo hhi ne da1 dv l1 l2 n;have sd:SqL K H' d ((h.map (Hu.tl r)).map V.int):=SqL.of (mi.sm _ _ hd1);have ai:=gw (r:=r) hi';rw [Hu.uY] at n;refine ⟨_,rfl,_,rfl,_,_,_,_,rfl,rfl,sd,ai,_,_,rfl,rfl,_,rfl,?_⟩;refine eA (λc=>?_) (λc=>?_)
  ·have c':0<=Hu.tv r h i:=of_decide_eq_true c;rw [if_pos c'] at n;obtain ⟨_,u2,e2,k2⟩:=mi.len (by omega) (by omega);refine ⟨_,rfl,.inl ⟨rfl,_,SqL.of e2⟩,_,rfl,hi,u2,_,rfl,rfl,e2,aO k2,?_⟩;refine hq3 N B H1 _ d lo hi v i L1 (L2++[Hu.cor h i]) o8 hi' (mi.app2 hhi ne e2 dv) hl1 hd1 hlo hhi ne da1 (dv.ts (dJ e2)) (by omega) (by simp;omega) λH'' o' m=>n H'' o' ?_;rw [List.append_assoc] at m;exact m
  ·have c':¬0<=Hu.tv r h i:=λz=>c (decide_eq_true z);rw [if_neg c',List.nil_append] at n;exact hq3 N B H1 _ d lo hi v i L1 L2 o8 hi' mi hl1 hd1 hlo hhi ne da1 dv (by omega) (by omega) n
 obtain ⟨t2,ht2,hq2⟩:=t2
 have t1:∃ t,PSs (cS (CXr P w) P w K mg base wq "cut" (ag jA) f cdv A outer s H E) (kz (Aw jA 4)) t/\
   ∀(
    N B:St->Hp->Prop) (H1 H':Hp) (d lo hi:Addr) (v:V) (i:Nat) (L1 L2:List T3) (o7 o8:Option V),i < h.length->MI K H1 H' lo hi L1 L2->H1 l=some (.lst us)->H1 d=some (.lst ((h.map (Hu.tl r)).map V.int))->H1 lo=none->H1 hi=none->lo≠hi->DatAll K H1 (h.map t3D) us->Dat K H' (t3D (Hu.cor h i)) v->L1.length<=700->L2.length<=700->
    (∀(H'':Hp) (o7' o8':Option V),MI K H1 H'' lo hi (L1++Hu.stp h (Hu.tv r h) i) (L2++Hu.stp h (Hu.tn r h) i)->
     N [some (.ref l),some x,some (.ref d),some (.ref lo),some (.ref hi),some (.int i),some v,o7',o8'] H'')->
    t {nx:=N,ct:=N,bk:=B,rt:=Q} [some (.ref l),some x,some (.ref d),some (.ref lo),some (.ref hi),some (.int i),some v,o7,o8] H':=by
  refine ⟨_,ah (aJ (i:=7) nd rfl (Or.inl rfl) (aL ik (aL bR (pv 5) aq) (aC bC rfl bg (by decide+kernel) (aa (pv 0) af)))) (ah (aP (aA ji (aG bG (pv 2) (pv 5) (λ_ _=>rfl)) aq (aF _)) (ao (bf (cI PySem.F.plainAttrs_list PySem.F.slot_list_append PySem.F.type_list_append aW (pv 3) (aa (pv 6) af)))) aH) ht2),?_⟩;intro N B H1 H' d lo hi v i L1 L2 o7 o8 hi' mi hl1 hd1 hlo hhi ne da1 dv l1 l2 n;have sl:SqL K H' l us:=SqL.of (mi.sm _ _ hl1);have sd:SqL K H' d ((h.map (Hu.tl r)).map V.int):=SqL.of (mi.sm _ _ hd1);have ai:=gw (r:=r) hi';refine ⟨_,rfl,_,_,rfl,rfl,_,rfl,_,_,rfl,.inl ⟨_,sl,rfl⟩,_,_,rfl,rfl,(by rw [lu];omega),?_⟩;rw [lu];dsimp only;rw [Hu.qG];refine ⟨_,rfl,_,rfl,_,_,_,_,rfl,rfl,sd,ai,_,_,rfl,rfl,_,rfl,?_⟩;refine eA (λc=>?_) (λc=>?_)
  ·have c':Hu.tv r h i<=0:=of_decide_eq_true c;obtain ⟨⟨u1,e1,k1⟩,_⟩:=mi.len (by omega) (by omega);refine ⟨_,rfl,.inl ⟨rfl,_,SqL.of e1⟩,_,rfl,lo,u1,_,rfl,rfl,e1,aO k1,?_⟩;refine hq2 N B H1 _ d lo hi v i (L1++[Hu.cor h i]) L2 o8 hi' (mi.app1 hlo ne e1 dv) hl1 hd1 hlo hhi ne da1 (dv.ts (dJ e1)) (by simp;omega) (by omega) λH'' o' m=>n H'' _ o' ?_;rw [List.append_assoc] at m;rw [show Hu.stp h (Hu.tv r h) i=[Hu.cor h i]++(if Hu.tv r h i*Hu.tv r h (i+1) < 0 then [Hu.mid (Hu.cor h i) (Hu.cor h (i+1)) (Hu.tv r h i) (Hu.tv r h (i+1))] else []) by unfold Hu.stp;rw [if_pos c']];exact m
  ·have c':¬Hu.tv r h i<=0:=λz=>c (decide_eq_true z);refine hq2 N B H1 _ d lo hi v i L1 L2 o8 hi' mi hl1 hd1 hlo hhi ne da1 dv (by omega) (by omega) λH'' o' m=>n H'' _ o' ?_;rw [show Hu.stp h (Hu.tv r h) i=(if Hu.tv r h i*Hu.tv r h (i+1) < 0 then [Hu.mid (Hu.cor h i) (Hu.cor h (i+1)) (Hu.tv r h i) (Hu.tv r h (i+1))] else []) by unfold Hu.stp;rw [if_neg c',List.nil_append]];exact m
 obtain ⟨t1,ht1,hq1⟩:=t1
 have t4:∃ t,PSs (cS (CXr P w) P w K mg base wq "cut" (ag jA) f cdv A outer s H E) ((bu jA).drop 2) t/\
   ∀(H1:Hp) (d:Addr),¬Hu.fZ r h->aK H H1->H1 d=some (.lst ((h.map (Hu.tl r)).map V.int))->t {nx:=λ_ H'=>Q .non H',rt:=Q} [some (.ref l),some x,some (.ref d),none,none,none,none,none,none] H1:=by
  refine ⟨_,ah (aJ (i:=3) nd rfl (Or.inl rfl) (bI af)) (ah (aJ (i:=4) nd rfl (Or.inl rfl) (bI af)) (ah (gX PassesOwn.leaving rfl (tX rfl cG (pv 0)) (kY rfl (bw (aY (i:=5) nd rfl (Or.inl rfl)) (bw (aY (i:=6) nd rfl (Or.inl rfl)) eV))) ht1) (ao (av (ba (aa (pv 3) (aa (pv 4) af))))))),?_⟩;intro H1 d nc sm hd;have hl1:=sm _ _ hl;have da1:=da.ts sm.ts;refine ⟨(by show 0<=sizeLine;decide),λlo hlo=>⟨(by show 0<=sizeLine;decide),λhi hhi=>?_⟩⟩;have u1:=ak hlo (.lst []);have u2:=ak hhi (.lst []);have ne:lo≠hi:=λz=>by subst z;rw [ae] at hhi;cases hhi
  have hhi1:H1 hi=none:=by rw [au (Ne.symm ne)] at hhi;exact hhi
  refine ⟨_,rfl,l,rfl,⟨us,SqL.of ((u1.trans u2) _ _ hl1)⟩,?_⟩
  refine qF (xs:=us) (λi σ H'=>i<=us.length/\MI K H1 H' lo hi (Hu.fl (Hu.stp h (Hu.tv r h)) i) (Hu.fl (Hu.stp h (Hu.tn r h)) i)/\∃ o5 o6 o7 o8,σ=[some (.ref l),some x,some (.ref d),some (.ref lo),some (.ref hi),o5,o6,o7,o8])
   ⟨Nat.zero_le _,⟨u1.trans u2,[],[],u2 _ _ ae,ae,rfl,rfl⟩,_,_,_,_,rfl⟩ (λi σ H' _ z=>SqL.of (z.2.1.sm _ _ hl1)) (λi v T' σ H' hv z hT=>?_) (λσ H' z=>?_)
  ·obtain ⟨_,mi,o5,o6,o7,o8,rfl⟩:=z;have hi':i < us.length:=(List.getElem?_eq_some_iff.mp hv).1;have uT:=ak hT (.tup [.int i,v]);obtain ⟨p,hp,dp⟩:=sW (da1.ts mi.sm.ts) hv;have ep:p=Hu.cor h i:=by rw [Hu.mK (by omega)] at hp;exact (Option.some.inj hp).symm
   subst ep;have f1:=Hu.qH (Hu.lN hu (Hu.tv r h)).len i;have f2:=Hu.qH (Hu.lN hu (Hu.tn r h)).len i;refine ⟨T',_,rfl,SqT.of ae,rfl,_,_,rfl,_,_,rfl,rfl,?_⟩;refine hq1 _ _ H1 _ d lo hi v i _ _ o7 o8 (by omega) (mi.new uT) hl1 hd hlo hhi1 ne da1 (dp.ts uT.ts) (by omega) (by omega) λH'' o7' o8' m=>⟨hi',?_,_,_,_,_,rfl⟩;rw [Hu.aX,Hu.aX];exact m
  ·obtain ⟨_,mi,o5,o6,o7,o8,rfl⟩:=z;rw [lu] at mi;refine ⟨_,rfl,_,rfl,(by show 2<=sizeLine;decide),λtt htt=>?_⟩;have u3:=ak htt (.tup [.ref lo,.ref hi]);obtain ⟨w1,w2,e1,e2,d1,d2⟩:=(mi.new u3).ex;refine kc nc _ _ (sm.trans (mi.sm.trans u3)) ⟨tt,lo,hi,w1,w2,rfl,ne,?_,?_,SqT.of ae,e1,e2,d1,d2⟩
   ·exact sm.free hlo
   ·exact sm.free hhi1
 obtain ⟨t4,ht4,hq4⟩:=t4;refine ⟨_,ah (aJ (i:=2) nd rfl (Or.inl rfl) (aE fi (hr.mono (by decide)) rfl (aa (pv 1) (aa (pv 0) af)))) (ah (aP (PW.pt (ig (aA qr (aC (kA rfl) rfl bU (by decide+kernel) (aa (pv 2) af)) aq (aF _)) (gW (aA ji (aC (kB rfl) rfl ck (by decide+kernel) (aa (pv 2) af)) aq (aF _))))) (ao (Dx rfl M_NoCut X_NoCut (aa aI af))) aH) ht4),?_⟩;refine ⟨_,rfl,_,rfl,x,l,us,r,h,rfl,dx,SqL.of hl,da,br,bp,by omega,λH' s'=>SqL.of (s' _ _ hl),λd H1 s1 hd0 hd=>?_⟩;have hne:0 < (h.map (Hu.tl r)).length:=by rw [List.length_map];exact hpos
 refine ⟨_,rfl,d,_,rfl,SqL.of hd,hne,λM hM hmin=>?_⟩;refine ⟨_,_,rfl,rfl,_,rfl,?_⟩;refine eA (λc=>?_) (λc=>?_)
 ·have c':0<=M:=of_decide_eq_true c;exact ⟨(by show 1<=sizeLine;decide),kn (.inl λp hp=>Int.le_trans c' (hmin _ (List.mem_map.mpr ⟨p,hp,rfl⟩))) _ s1⟩
 have c1:¬0<=M:=λz=>c (decide_eq_true z);refine ⟨_,rfl,d,_,rfl,SqL.of hd,hne,λM2 hM2 hmax=>?_⟩;refine ⟨_,_,rfl,rfl,_,rfl,?_⟩;refine eA (λc=>?_) (λc=>?_)
 ·have c':M2<=0:=of_decide_eq_true c;exact ⟨(by show 1<=sizeLine;decide),kn (.inr λp hp=>Int.le_trans (hmax _ (List.mem_map.mpr ⟨p,hp,rfl⟩)) c') _ s1⟩
 have c2:¬M2<=0:=λz=>c (decide_eq_true z);obtain ⟨p1,hp1,ep1⟩:=List.mem_map.mp hM;obtain ⟨p2,hp2,ep2⟩:=List.mem_map.mp hM2;refine hq4 H1 d (λnc=>?_) s1 hd;rcases nc with z | z
 ·have:=z p1 hp1;omega
 ·have:=z p2 hp2;omega
def lw (k:Nat):Str:=if k=0 then "never" else if k=1 then "always" else if k=2 then "p" else "q"
def fw (k:Nat):Str:=if k=0 then "more" else if k=1 then "less" else if k=2 then "greater" else if k=3 then "lesser" else "leads"
def rwV:Hu.Row->List PyData
 | .lf k=>[.str (lw k)]
 | .nt i=>[.str "not",.int i]
 | .fd k i j=>[.str (fw k),.int i,.int j]
def rwX:Hu.Row->List V
 | .lf k=>[.str (lw k)]
 | .nt i=>[.str "not",.int i]
 | .fd k i j=>[.str (fw k),.int i,.int j]
def kU (r:Hu.Row):PyData:=.tuple (rwV r)
def lF (rows:List Hu.Row):Prop:=∀(k:Nat) (r:Hu.Row),rows[k]?=some r->r.Ok k
section
variable {K:W.Frag} {H H':Hp} {v:V} {r:Hu.Row}
theorem Dl (g:Dat K H (kU r) v):∃ a,v=.ref a/\SqT K H a (rwX r):=by
 cases r with
 | lf k =>
  obtain ⟨a,xs,rfl,g,x,t,rfl,hx,ht⟩:=g;cases (show x=V.str (lw k) from hx)
  cases (show t=[] from ht)
  exact ⟨a,rfl,g⟩
 | nt i =>
  obtain ⟨a,xs,rfl,g,x,t,rfl,hx,y,u,rfl,hy,ht⟩:=g;cases (show x=V.str "not" from hx)
  cases (show y=V.int i from hy)
  cases (show u=[] from ht)
  exact ⟨a,rfl,g⟩
 | fd k i j =>
  obtain ⟨a,xs,rfl,g,x,t,rfl,hx,y,u,rfl,hy,z,w,rfl,hz,ht⟩:=g;cases (show x=V.str (fw k) from hx)
  cases (show y=V.int i from hy)
  cases (show z=V.int j from hz)
  cases (show w=[] from ht)
  exact ⟨a,rfl,g⟩
theorem row_mk {a:Addr} (g:SqT K H a (rwX r)):Dat K H (kU r) (.ref a):=by
 cases r with
 | lf k=>exact ⟨a,_,rfl,g,_,_,rfl,rfl,rfl⟩
 | nt i=>exact ⟨a,_,rfl,g,_,_,rfl,rfl,_,_,rfl,rfl,rfl⟩
 | fd k i j=>exact ⟨a,_,rfl,g,_,_,rfl,rfl,_,_,rfl,rfl,_,_,rfl,rfl,rfl⟩
theorem zt {xs:List V} {rows:List Hu.Row} (g:DatAll K H (rows.map kU) xs) {i:Nat} {x:V} (e:xs[i]?=some x):∃ r,rows[i]?=some r/\Dat K H (kU r) x:=by
 obtain ⟨d,e1,e2⟩:=g.get' e;rw [List.getElem?_map] at e1;cases z:rows[i]? with
 | none=>rw [z] at e1;cases e1
 | some s=>rw [z] at e1;cases e1;exact ⟨s,rfl,e2⟩
theorem zr {xs:List V} {rows:List Hu.Row} (g:DatAll K H (rows.map kU) xs):xs.length=rows.length:=by rw [g.len,List.length_map]
end
def sp2 (K:W.Frag) (f:T3->T3->T3):Sp:=λvs H Q _=>∃(x y:V) (p q:T3),vs=[x,y]/\Dat K H (t3D p) x/\Dat K H (t3D q) y/\∀(t:Addr) (H':Hp),aK H H'->Dat K H' (t3D (f p q)) (.ref t)->Q (.ref t) H'
def Ch (K:W.Frag) (H:Hp) (c:T3×T3×T3) (v:V):Prop:=∃(t:Addr) (x y z:V),v=.ref t/\SqT K H t [x,y,z]/\Dat K H (t3D c.1) x/\Dat K H (t3D c.2.1) y/\Dat K H (t3D c.2.2) z
def CH (K:W.Frag):Sp:=λvs H Q _=>∃ k:Nat,vs=[.str (lw k)]/\k < 4/\∀ v,Dat K H (t3D (Hu.lft k)) v->Q v H
def CJ (K:W.Frag):Sp:=λvs H Q _=>∃(k:Nat) (x y:V) (a b:T3),vs=[.str (fw k),x,y]/\k < 5/\Dat K H (t3D a) x/\Dat K H (t3D b) y/\∀(v:V) (H':Hp),aK H H'->Ch K H' (Hu.fch k a b) v->Q v H'
theorem ok_both (T:aD K mg "both" qh) (hU:mg "zip"=none) (aZ:mg "tuple"=none):Def P w K mg base 1 "both" ["one","other"] (sp2 K Hu.pl):=by
 refine aR T zo (λ_ _ _ _ _ _=>L2.ar2 λ_ _=>rfl) ?_ ?_
 ·walk_at "i1";obtain ⟨x,y,p,q,rfl,_⟩:=h;rfl
 walk_at "i2";obtain ⟨x,y,p,q,rfl,dx,dy,k⟩:=h;obtain ⟨ax,rfl,sx⟩:=dX dx;obtain ⟨ay,rfl,sy⟩:=dX dy;have nd:=zo.nd;refine ⟨_,(ao (av (cB cH rfl aZ (by decide+kernel) (aa (ko (xs:=["first","second"]) rfl (mn rfl hU (pv 0) (pv 1)) rfl (by decide+kernel) (by decide+kernel) (show ∀ p∈Scope.names _,p.2=NameKind.free->List.lookup p.1 (ag qh).names=some .cell\/List.lookup p.1 (ag qh).names=some .free by decide+kernel) dD (show (["first","second"]:List Str).Nodup by decide+kernel) (λ_ _ _ _=>mq (K:=K) (n:=2) rfl rfl (bw (aY (i:=0) (show (["first","second"]:List Str).Nodup by decide+kernel) rfl (Or.inl rfl) (.inr rfl)) (bw (aY (i:=1) (show (["first","second"]:List Str).Nodup by decide+kernel) rfl (Or.inl rfl) (.inr rfl)) eV))) (λ_ _ _ _=>(aL bR (pv 0) (pv 1)))) af)))),?_⟩;refine ⟨_,rfl,_,rfl,ax,ay,_,_,rfl,rfl,sx,sy,λD hD=>?_⟩;refine ⟨λi m H2=>m=3 - i/\i<=3/\aK H H2/\H2 D=some (.lst ([V.int (p.u+q.u),.int (p.v+q.v),.int (p.w+q.w)].take i)),⟨_,rfl,Nat.zero_le _,ak hD _,ae⟩,?_⟩;rintro i m H2 ⟨rfl,hi,sm,hlD⟩
 have sx2:=sx.ts sm.ts;have sy2:=sy.ts sm.ts
 by_cases hlt:i < 3
 ·refine .inr ⟨⟨_,_,sx2,sy2,hlt,Nat.le_refl _⟩,λo ho v H3 y=>?_⟩;obtain ⟨T',vs,nT,rfl,rfl,x,y,rfl,hx,hy⟩:=y;have zx:=hx _ sx2;have zy:=hy _ sy2;obtain ⟨o1,o2,rfl⟩:=len2 ho;have uT:=ak nT (.tup [x,y]);refine ⟨T',_,rfl,SqT.of ae,rfl,_,_,rfl,_,_,rfl,rfl,[some x,some y],rfl,rfl,?_⟩;have hlD2:=uT _ _ hlD;rcases (show i=0\/i=1\/i=2 by omega) with rfl | rfl | rfl
  ·cases zx
   cases zy
   exact ⟨_,rfl,_,rfl,_,_,rfl,rfl,_,hlD2,aO (by simp),3 - 1,by omega,rfl,by omega,aQ (sm.trans uT) hD _,ae⟩
  ·cases zx
   cases zy
   exact ⟨_,rfl,_,rfl,_,_,rfl,rfl,_,hlD2,aO (by simp),3 - 2,by omega,rfl,by omega,aQ (sm.trans uT) hD _,ae⟩
  ·cases zx
   cases zy
   exact ⟨_,rfl,_,rfl,_,_,rfl,rfl,_,hlD2,aO (by simp),3 - 3,by omega,rfl,by omega,aQ (sm.trans uT) hD _,ae⟩
 have ei:i=3:=by omega
 subst ei;refine .inl ⟨⟨_,_,sx2,sy2,Nat.le_refl _,Nat.le_refl _⟩,?_⟩;refine ⟨D,_,rfl,.inl ⟨SqL.of hlD,λtt htt=>?_⟩⟩;exact k tt _ (sm.trans (ak htt _)) (bY (p:=Hu.pl p q) (SqT.of ae))
theorem xS (T:aD K mg "without" iJ) (hU:mg "zip"=none) (aZ:mg "tuple"=none):Def P w K mg base 1 "without" ["one","other"] (sp2 K Hu.mi):=by
 refine aR T pN (λ_ _ _ _ _ _=>L2.ar2 λ_ _=>rfl) ?_ ?_
 ·walk_at "i1";obtain ⟨x,y,p,q,rfl,_⟩:=h;rfl
 walk_at "i2";obtain ⟨x,y,p,q,rfl,dx,dy,k⟩:=h;obtain ⟨ax,rfl,sx⟩:=dX dx;obtain ⟨ay,rfl,sy⟩:=dX dy;have nd:=pN.nd;refine ⟨_,(ao (av (cB cH rfl aZ (by decide+kernel) (aa (ko (xs:=["first","second"]) rfl (mn rfl hU (pv 0) (pv 1)) rfl (by decide+kernel) (by decide+kernel) (show ∀ p∈Scope.names _,p.2=NameKind.free->List.lookup p.1 (ag iJ).names=some .cell\/List.lookup p.1 (ag iJ).names=some .free by decide+kernel) dD (show (["first","second"]:List Str).Nodup by decide+kernel) (λ_ _ _ _=>mq (K:=K) (n:=2) rfl rfl (bw (aY (i:=0) (show (["first","second"]:List Str).Nodup by decide+kernel) rfl (Or.inl rfl) (.inr rfl)) (bw (aY (i:=1) (show (["first","second"]:List Str).Nodup by decide+kernel) rfl (Or.inl rfl) (.inr rfl)) eV))) (λ_ _ _ _=>(aL eW (pv 0) (pv 1)))) af)))),?_⟩;refine ⟨_,rfl,_,rfl,ax,ay,_,_,rfl,rfl,sx,sy,λD hD=>?_⟩;refine ⟨λi m H2=>m=3 - i/\i<=3/\aK H H2/\H2 D=some (.lst ([V.int (p.u - q.u),.int (p.v - q.v),.int (p.w - q.w)].take i)),⟨_,rfl,Nat.zero_le _,ak hD _,ae⟩,?_⟩;rintro i m H2 ⟨rfl,hi,sm,hlD⟩
 have sx2:=sx.ts sm.ts;have sy2:=sy.ts sm.ts
 by_cases hlt:i < 3
 ·refine .inr ⟨⟨_,_,sx2,sy2,hlt,Nat.le_refl _⟩,λo ho v H3 y=>?_⟩;obtain ⟨T',vs,nT,rfl,rfl,x,y,rfl,hx,hy⟩:=y;have zx:=hx _ sx2;have zy:=hy _ sy2;obtain ⟨o1,o2,rfl⟩:=len2 ho;have uT:=ak nT (.tup [x,y]);refine ⟨T',_,rfl,SqT.of ae,rfl,_,_,rfl,_,_,rfl,rfl,[some x,some y],rfl,rfl,?_⟩;have hlD2:=uT _ _ hlD;rcases (show i=0\/i=1\/i=2 by omega) with rfl | rfl | rfl
  ·cases zx
   cases zy
   exact ⟨_,rfl,_,rfl,_,_,rfl,rfl,_,hlD2,aO (by simp),3 - 1,by omega,rfl,by omega,aQ (sm.trans uT) hD _,ae⟩
  ·cases zx
   cases zy
   exact ⟨_,rfl,_,rfl,_,_,rfl,rfl,_,hlD2,aO (by simp),3 - 2,by omega,rfl,by omega,aQ (sm.trans uT) hD _,ae⟩
  ·cases zx
   cases zy
   exact ⟨_,rfl,_,rfl,_,_,rfl,rfl,_,hlD2,aO (by simp),3 - 3,by omega,rfl,by omega,aQ (sm.trans uT) hD _,ae⟩
 have ei:i=3:=by omega
 subst ei;refine .inl ⟨⟨_,_,sx2,sy2,Nat.le_refl _,Nat.le_refl _⟩,?_⟩;refine ⟨D,_,rfl,.inl ⟨SqL.of hlD,λtt htt=>?_⟩⟩;exact k tt _ (sm.trans (ak htt _)) (bY (p:=Hu.mi p q) (SqT.of ae))
theorem ok_leaf (T:aD K mg "leaf_rule" jz) (gE:fK K mg "NEVER" [0,0,0]) (ff:fK K mg "ALWAYS" [0,0,1]) (lH:fK K mg "LETTER_P" [1,0,0]) (lG:fK K mg "LETTER_Q" [0,1,0]):Def P w K mg base 1 "leaf_rule" ["word"] (CH K):=by
 refine aR T lT (λ_ _ _ _ _ _=>L2.ar1 λ_=>rfl) ?_ ?_
 ·walk_at "i1";obtain ⟨k,rfl,_⟩:=h;rfl
 walk_at "i2";obtain ⟨k,rfl,hk,q⟩:=h;obtain ⟨aNE,mP,sNE⟩:=gE.ex;obtain ⟨aAL,dO,sAL⟩:=ff.ex;obtain ⟨aLP,yH,sLP⟩:=lH.ex;obtain ⟨aLQ,yG,sLQ⟩:=lG.ex;have nd:=lT.nd
 refine ⟨_,(ah (aP (aA bO (pv 0) aI (aF _)) (ao (av (cL (v:=V.ref aNE) rfl mP rfl))) aH)
  (ah (aP (aA bO (pv 0) aI (aF _)) (ao (av (cL (v:=V.ref aAL) rfl dO rfl))) aH)
  (ao (av (mr (aA bO (pv 0) aI (aF _)) (cL (v:=V.ref aLP) rfl yH rfl) (cL (v:=V.ref aLQ) rfl yG rfl)))))),?_⟩
 rcases (by omega:k=0\/k=1\/k=2\/k=3) with rfl | rfl | rfl | rfl
 ·refine ⟨_,rfl,rfl,_,rfl,?_⟩;rw [show decide (V.str (lw 0)=V.str "never")=true by decide+kernel];exact dN (q _ (bY (p:=⟨0,0,0⟩) (sNE H)))
 ·refine ⟨_,rfl,rfl,_,rfl,?_⟩;rw [show decide (V.str (lw 1)=V.str "never")=false by decide+kernel];refine bH ?_;refine ⟨_,rfl,rfl,_,rfl,?_⟩;rw [show decide (V.str (lw 1)=V.str "always")=true by decide+kernel];exact dN (q _ (bY (p:=⟨0,0,1⟩) (sAL H)))
 ·refine ⟨_,rfl,rfl,_,rfl,?_⟩;rw [show decide (V.str (lw 2)=V.str "never")=false by decide+kernel];refine bH ?_;refine ⟨_,rfl,rfl,_,rfl,?_⟩;rw [show decide (V.str (lw 2)=V.str "always")=false by decide+kernel];refine bH ?_;refine ⟨_,rfl,rfl,_,rfl,?_⟩;rw [show decide (V.str (lw 2)=V.str "p")=true by decide+kernel];exact dN (q _ (bY (p:=⟨1,0,0⟩) (sLP H)))
 ·refine ⟨_,rfl,rfl,_,rfl,?_⟩;rw [show decide (V.str (lw 3)=V.str "never")=false by decide+kernel];refine bH ?_;refine ⟨_,rfl,rfl,_,rfl,?_⟩;rw [show decide (V.str (lw 3)=V.str "always")=false by decide+kernel];refine bH ?_;refine ⟨_,rfl,rfl,_,rfl,?_⟩;rw [show decide (V.str (lw 3)=V.str "p")=false by decide+kernel];exact bH (q _ (bY (p:=⟨0,1,0⟩) (sLQ H)))
theorem ok_fold (T:aD K mg "fold_choice" ix) (gE:fK K mg "NEVER" [0,0,0]) (ff:fK K mg "ALWAYS" [0,0,1]) (qZ:Def P w K mg base 1 "both" ["one","other"] (sp2 K Hu.pl)) (dG:Def P w K mg base 1 "without" ["one","other"] (sp2 K Hu.mi)):Def P w K mg base 2 "fold_choice" ["word","one","other"] (CJ K):=by
 refine aR T jx (λ_ _ _ _ _ _=>L2.ar3 λ_ _ _=>rfl) ?_ ?_
 ·walk_at "i1";obtain ⟨k,x,y,a,b,rfl,_⟩:=h;rfl
 walk_at "i2";obtain ⟨k,x,y,a,b,rfl,hk,dx,dy,q⟩:=h;obtain ⟨aNE,mP,sNE⟩:=gE.ex;obtain ⟨aAL,dO,sAL⟩:=ff.ex;have dAL:∀ H,Dat K H (t3D Hu.al) (.ref aAL):=λH=>bY (p:=Hu.al) (sAL H);have dNE:∀ H,Dat K H (t3D Hu.z0) (.ref aNE):=λH=>bY (p:=Hu.z0) (sNE H);have nd:=jx.nd
 refine ⟨_,(ah (aP (aA bO (pv 0) aI (aF _)) (ao (av (ba (aa (aE dG (hr.mono (by decide)) rfl (aa (aE qZ (hr.mono (by decide)) rfl (aa (pv 1) (aa (pv 2) af))) (aa (cL (v:=V.ref aAL) rfl dO rfl) af))) (aa (aE qZ (hr.mono (by decide)) rfl (aa (pv 1) (aa (pv 2) af))) (aa (cL (v:=V.ref aAL) rfl dO rfl) af)))))) aH)
  (ah (aP (aA bO (pv 0) aI (aF _)) (ao (av (ba (aa (aE dG (hr.mono (by decide)) rfl (aa (aE qZ (hr.mono (by decide)) rfl (aa (pv 1) (aa (pv 2) af))) (aa (cL (v:=V.ref aAL) rfl dO rfl) af))) (aa (cL (v:=V.ref aNE) rfl mP rfl) (aa (aE dG (hr.mono (by decide)) rfl (aa (aE qZ (hr.mono (by decide)) rfl (aa (pv 1) (aa (pv 2) af))) (aa (cL (v:=V.ref aAL) rfl dO rfl) af))) af)))))) aH)
  (ah (aP (aA bO (pv 0) aI (aF _)) (ao (av (ba (aa (aE dG (hr.mono (by decide)) rfl (aa (pv 1) (aa (pv 2) af))) (aa (pv 2) (aa (pv 1) af)))))) aH)
  (ah (aP (aA bO (pv 0) aI (aF _)) (ao (av (ba (aa (aE dG (hr.mono (by decide)) rfl (aa (pv 1) (aa (pv 2) af))) (aa (pv 1) (aa (pv 2) af)))))) aH)
  (ao (av (ba (aa (aE dG (hr.mono (by decide)) rfl (aa (pv 2) (aa (pv 1) af))) (aa (aE qZ (hr.mono (by decide)) rfl (aa (cL (v:=V.ref aAL) rfl dO rfl) (aa (aE dG (hr.mono (by decide)) rfl (aa (pv 2) (aa (pv 1) af))) af))) (aa (cL (v:=V.ref aAL) rfl dO rfl) af)))))))))),?_⟩
 have d2:(2:Nat)<=sizeLine:=by decide
 have d3:(3:Nat)<=sizeLine:=by decide
 rcases (by omega:k=0\/k=1\/k=2\/k=3\/k=4) with rfl | rfl | rfl | rfl | rfl
 ·refine ⟨_,rfl,rfl,_,rfl,?_⟩;rw [show decide (V.str (fw 0)=V.str "more")=true by decide+kernel];refine dN ?_;refine ⟨_,rfl,_,rfl,_,_,a,b,rfl,dx,dy,λt1 H1 s1 e1=>?_⟩;refine ⟨_,_,_,_,rfl,e1,dAL H1,λt2 H2 s2 e2=>?_⟩;have m2:=s1.trans s2;refine ⟨_,rfl,_,rfl,_,_,a,b,rfl,dx.ts m2.ts,dy.ts m2.ts,λt3 H3 s3 e3=>⟨d3,λt ht=>?_⟩⟩;have u:=ak ht (.tup [.ref t2,.ref t3,.ref aAL]);exact q _ _ (m2.trans (s3.trans u)) ⟨t,_,_,_,rfl,SqT.of ae,(e2.ts s3.ts).ts u.ts,e3.ts u.ts,dAL _⟩
 ·refine ⟨_,rfl,rfl,_,rfl,?_⟩;rw [show decide (V.str (fw 1)=V.str "more")=false by decide+kernel];refine bH ?_;refine ⟨_,rfl,rfl,_,rfl,?_⟩;rw [show decide (V.str (fw 1)=V.str "less")=true by decide+kernel];refine dN ?_;refine ⟨_,rfl,_,rfl,_,_,a,b,rfl,dx,dy,λt1 H1 s1 e1=>?_⟩;refine ⟨_,_,_,_,rfl,e1,dAL H1,λt2 H2 s2 e2=>?_⟩;have m2:=s1.trans s2;refine ⟨_,rfl,_,rfl,_,_,a,b,rfl,dx.ts m2.ts,dy.ts m2.ts,λt3 H3 s3 e3=>?_⟩;refine ⟨_,_,_,_,rfl,e3,dAL H3,λt4 H4 s4 e4=>⟨d3,λt ht=>?_⟩⟩;have u:=ak ht (.tup [.ref t2,.ref aNE,.ref t4]);exact q _ _ (m2.trans (s3.trans (s4.trans u))) ⟨t,_,_,_,rfl,SqT.of ae,((e2.ts s3.ts).ts s4.ts).ts u.ts,dNE _,e4.ts u.ts⟩
 ·refine ⟨_,rfl,rfl,_,rfl,?_⟩;rw [show decide (V.str (fw 2)=V.str "more")=false by decide+kernel];refine bH ?_;refine ⟨_,rfl,rfl,_,rfl,?_⟩;rw [show decide (V.str (fw 2)=V.str "less")=false by decide+kernel];refine bH ?_;refine ⟨_,rfl,rfl,_,rfl,?_⟩;rw [show decide (V.str (fw 2)=V.str "greater")=true by decide+kernel];refine dN ?_;refine ⟨_,rfl,_,rfl,_,_,a,b,rfl,dx,dy,λt1 H1 s1 e1=>?_⟩;refine ⟨_,rfl,_,rfl,d3,λt ht=>?_⟩;have u:=ak ht (.tup [.ref t1,y,x]);exact q _ _ (s1.trans u) ⟨t,_,_,_,rfl,SqT.of ae,e1.ts u.ts,(dy.ts s1.ts).ts u.ts,(dx.ts s1.ts).ts u.ts⟩
 ·refine ⟨_,rfl,rfl,_,rfl,?_⟩;rw [show decide (V.str (fw 3)=V.str "more")=false by decide+kernel];refine bH ?_;refine ⟨_,rfl,rfl,_,rfl,?_⟩;rw [show decide (V.str (fw 3)=V.str "less")=false by decide+kernel];refine bH ?_;refine ⟨_,rfl,rfl,_,rfl,?_⟩;rw [show decide (V.str (fw 3)=V.str "greater")=false by decide+kernel];refine bH ?_;refine ⟨_,rfl,rfl,_,rfl,?_⟩;rw [show decide (V.str (fw 3)=V.str "lesser")=true by decide+kernel];refine dN ?_;refine ⟨_,rfl,_,rfl,_,_,a,b,rfl,dx,dy,λt1 H1 s1 e1=>?_⟩;refine ⟨_,rfl,_,rfl,d3,λt ht=>?_⟩;have u:=ak ht (.tup [.ref t1,x,y]);exact q _ _ (s1.trans u) ⟨t,_,_,_,rfl,SqT.of ae,e1.ts u.ts,(dx.ts s1.ts).ts u.ts,(dy.ts s1.ts).ts u.ts⟩
 ·refine ⟨_,rfl,rfl,_,rfl,?_⟩;rw [show decide (V.str (fw 4)=V.str "more")=false by decide+kernel];refine bH ?_;refine ⟨_,rfl,rfl,_,rfl,?_⟩;rw [show decide (V.str (fw 4)=V.str "less")=false by decide+kernel];refine bH ?_;refine ⟨_,rfl,rfl,_,rfl,?_⟩;rw [show decide (V.str (fw 4)=V.str "greater")=false by decide+kernel];refine bH ?_;refine ⟨_,rfl,rfl,_,rfl,?_⟩;rw [show decide (V.str (fw 4)=V.str "lesser")=false by decide+kernel];refine bH ?_;refine ⟨_,rfl,_,rfl,_,_,b,a,rfl,dy,dx,λt1 H1 s1 e1=>?_⟩;refine ⟨_,rfl,_,rfl,_,_,b,a,rfl,dy.ts s1.ts,dx.ts s1.ts,λt2 H2 s2 e2=>?_⟩;refine ⟨_,_,_,_,rfl,dAL H2,e2,λt3 H3 s3 e3=>⟨d3,λt ht=>?_⟩⟩;have u:=ak ht (.tup [.ref t1,.ref t3,.ref aAL]);exact q _ _ (s1.trans (s2.trans (s3.trans u))) ⟨t,_,_,_,rfl,SqT.of ae,((e1.ts s2.ts).ts s3.ts).ts u.ts,e3.ts u.ts,dAL _⟩
def vn (K:W.Frag):Sp:=λvs H Q _=>∃(x:V) (lr:Addr) (ws:List V) (r:Hu.Row) (rs:List T3),vs=[x,.ref lr]/\Dat K H (kU r) x/\H lr=some (.lst ws)/\DatAll K H (rs.map t3D) ws/\r.Ok rs.length/\∀(v:V) (H':Hp),aK H H'->Ch K H' (Hu.choice rs r) v->Q v H'
def vm (K:W.Frag):Sp:=λvs H Q _=>∃(l:Addr) (v:V) (us:List V) (h:List T3) (c:T3×T3×T3),vs=[.ref l,v]/\H l=some (.lst us)/\DatAll K H (h.map t3D) us/\Ch K H c v/\Hu.R3 3000 c.1/\(∀ p∈h,Hu.R3 3000 p)/\0 < h.length/\h.length<=900/\
 (∀(x:T3) (u:V) (H':Hp),aK H H'->Hu.aV h c=some x->Dat K H' (t3D x) u->Q u H')/\(Hu.aV h c=none->∀ H',aK H H'->Q .non H')
def yW (K:W.Frag):Sp:=λvs H Q _=>∃(l lh:Addr) (us hs:List V) (rows:List Hu.Row) (h:List T3),vs=[.ref l,.ref lh]/\H l=some (.lst us)/\DatAll K H (rows.map kU) us/\lF rows/\0 < rows.length/\rows.length<=100/\H lh=some (.lst hs)/\DatAll K H (h.map t3D) hs/\(∀ p∈h,Hu.R3 3000 p)/\0 < h.length/\h.length<=900/\
 (∀(rs:List T3) (t lr:Addr) (ws:List V) (H':Hp),aK H H'->Hu.run h rows []=.rules rs->Hu.Rb rs->rs.length=rows.length->H lr=none->SqT K H' t [.str "rules",.ref lr]->H' lr=some (.lst ws)->DatAll K H' (rs.map t3D) ws->Q (.ref t) H')/\
 (∀(k:Nat) (tt:T3) (t:Addr) (v:V) (H':Hp),aK H H'->Hu.run h rows []=.mixed k tt->k < rows.length->Hu.R3 (k+1) tt->SqT K H' t [.str "mixed",.int k,v]->Dat K H' (t3D tt) v->Q (.ref t) H')
theorem getD_at {rs:List T3} {i:Nat} (hi:i < rs.length):rs[i]?=some (rs.getD i Hu.z0):=by rw [List.getD_eq_getElem?_getD,List.getElem?_eq_getElem hi];rfl
theorem Bb (T:aD K mg "choice_of" jC) (bg:mg "len"=none) (gE:fK K mg "NEVER" [0,0,0]) (ff:fK K mg "ALWAYS" [0,0,1]) (dG:Def P w K mg base 1 "without" ["one","other"] (sp2 K Hu.mi)) (xc:Def P w K mg base 1 "leaf_rule" ["word"] (CH K))
  (rp:Def P w K mg base 2 "fold_choice" ["word","one","other"] (CJ K)):Def P w K mg base 3 "choice_of" ["row","rules"] (vn K):=by
 refine aR T lV (λ_ _ _ _ _ _=>L2.ar2 λ_ _=>rfl) ?_ ?_
 ·walk_at "i1";obtain ⟨x,lr,ws,r,rs,rfl,_⟩:=h;rfl
 walk_at "i2";obtain ⟨x,lr,ws,r,rs,rfl,dx,hl,da,ok,q⟩:=h;obtain ⟨aNE,mP,sNE⟩:=gE.ex;obtain ⟨aAL,dO,sAL⟩:=ff.ex;have dAL:∀ H,Dat K H (t3D Hu.al) (.ref aAL):=λH=>bY (p:=Hu.al) (sAL H);have dNE:∀ H,Dat K H (t3D Hu.z0) (.ref aNE):=λH=>bY (p:=Hu.z0) (sNE H);obtain ⟨a,rfl,sx⟩:=Dl dx;have nd:=lV.nd;have d3:(3:Nat)<=sizeLine:=by decide
 have sl:SqL K H lr ws:=SqL.of hl
 refine ⟨_,(ah (aP (aA bO (aC bC rfl bg (by decide+kernel) (aa (pv 0) af)) aq (aF _)) (ao (av (aE rp (hr.mono (by decide)) rfl (aa (aG aB (pv 0) aq (λ_ _=>rfl)) (aa (aG bG (pv 1) (aG aB (pv 0) aq (λ_ _=>rfl)) (λ_ _=>rfl)) (aa (aG bG (pv 1) (aG aB (pv 0) aq (λ_ _=>rfl)) (λ_ _=>rfl)) af)))))) aH)
  (ah (aJ (i:=2) nd rfl (Or.inl rfl) (mr (aA bO (aC bC rfl bg (by decide+kernel) (aa (pv 0) af)) aq (aF _)) (aE xc (hr.mono (by decide)) rfl (aa (aG aB (pv 0) aq (λ_ _=>rfl)) af)) (aE dG (hr.mono (by decide)) rfl (aa (cL (v:=V.ref aAL) rfl dO rfl) (aa (aG bG (pv 1) (aG aB (pv 0) aq (λ_ _=>rfl)) (λ_ _=>rfl)) af)))))
  (ao (av (ba (aa (cL (v:=V.ref aNE) rfl mP rfl) (aa (pv 2) (aa (pv 2) af)))))))),?_⟩
 cases r with
 | fd k i j =>
  obtain ⟨hk,hi,hj⟩:=ok;obtain ⟨y,hy,dy⟩:=kH da (getD_at hi);obtain ⟨z,hz,dz⟩:=kH da (getD_at hj);refine ⟨_,rfl,_,_,rfl,.inr ⟨_,sx,rfl⟩,rfl,_,rfl,dN ?_⟩;exact ⟨_,rfl,_,_,_,_,rfl,rfl,sx,rfl,_,rfl,_,rfl,_,_,_,_,rfl,rfl,sx,rfl,_,_,_,_,rfl,rfl,sl,cg hy,_,rfl,_,rfl,_,_,_,_,rfl,rfl,sx,rfl,_,_,_,_,rfl,rfl,sl,cg hz,k,_,_,_,_,rfl,hk,dy,dz,q⟩
 | lf k =>
  refine ⟨_,rfl,_,_,rfl,.inr ⟨_,sx,rfl⟩,rfl,_,rfl,bH ?_⟩;refine ⟨_,rfl,_,_,rfl,.inr ⟨_,sx,rfl⟩,rfl,_,rfl,dN ?_⟩;refine ⟨_,rfl,_,_,_,_,rfl,rfl,sx,rfl,k,rfl,ok,λv dv=>?_⟩;refine ⟨_,rfl,_,rfl,d3,λt ht=>?_⟩;have u:=ak ht (.tup [.ref aNE,v,v]);exact q _ _ u ⟨t,_,_,_,rfl,SqT.of ae,dNE _,dv.ts u.ts,dv.ts u.ts⟩
 | nt i =>
  obtain ⟨y,hy,dy⟩:=kH da (getD_at (show i < rs.length from ok));refine ⟨_,rfl,_,_,rfl,.inr ⟨_,sx,rfl⟩,rfl,_,rfl,bH ?_⟩;refine ⟨_,rfl,_,_,rfl,.inr ⟨_,sx,rfl⟩,rfl,_,rfl,bH ?_⟩;refine ⟨_,rfl,_,rfl,_,_,_,_,rfl,rfl,sx,rfl,_,_,_,_,rfl,rfl,sl,cg hy,_,_,_,_,rfl,dAL H,dy,λt1 H1 s1 e1=>?_⟩;refine ⟨_,rfl,_,rfl,d3,λt ht=>?_⟩;have u:=ak ht (.tup [.ref aNE,.ref t1,.ref t1]);exact q _ _ (s1.trans u) ⟨t,_,_,_,rfl,SqT.of ae,dNE _,e1.ts u.ts,e1.ts u.ts⟩
theorem Ba (T:aD K mg "chosen_on" jB) (ck:mg "max"=none) (bU:mg "min"=none) (fi:Def P w K mg base 2 "told_in_corners" ["rule","hull"] (Cy K)):Def P w K mg base 3 "chosen_on" ["hull","choice"] (vm K):=by
 refine aR T lU (λ_ _ _ _ _ _=>L2.ar2 λ_ _=>rfl) ?_ ?_
 ·walk_at "i1";obtain ⟨l,v,us,h,c,rfl,_⟩:=h;rfl
 walk_at "i2";obtain ⟨l,v,us,h,c,rfl,hl,da,⟨t,x,y,z,rfl,st,d1,d2,d3⟩,br,bp,pos,few,qs,qn⟩:=h;have nd:=lU.nd
 refine ⟨_,(ah (aJ (i:=2) nd rfl (Or.inl rfl) (aE fi (hr.mono (by decide)) rfl (aa (aG aB (pv 1) aq (λ_ _=>rfl)) (aa (pv 0) af))))
  (ah (aP (aA ji (aC (kB rfl) rfl ck (by decide+kernel) (aa (pv 2) af)) aq (aF _)) (ao (av (aG aB (pv 1) aq (λ_ _=>rfl)))) aH)
  (ah (aP (aA qr (aC (kA rfl) rfl bU (by decide+kernel) (aa (pv 2) af)) aq (aF _)) (ao (av (aG aB (pv 1) aq (λ_ _=>rfl)))) aH)
  (ao (av cQ))))),?_⟩
 refine ⟨_,rfl,_,_,_,_,rfl,rfl,st,rfl,_,rfl,x,l,us,c.1,h,rfl,d1,SqL.of hl,da,br,bp,few,λH' s'=>SqL.of (s' _ _ hl),λd H1 s1 _ hd=>?_⟩;have hne:0 < (h.map (Hu.tl c.1)).length:=by rw [List.length_map];exact pos
 have st1:=st.ts s1.ts;refine ⟨_,rfl,d,_,rfl,SqL.of hd,hne,λM hM hmax=>?_⟩;refine ⟨_,_,rfl,rfl,_,rfl,?_⟩;obtain ⟨p1,hp1,ep1⟩:=List.mem_map.mp hM;refine eA (λcc=>?_) (λcc=>?_)
 ·have c':M<=0:=of_decide_eq_true cc;have al:∀ q∈h,Hu.tl c.1 q<=0:=λq hq=>Int.le_trans (hmax _ (List.mem_map.mpr ⟨q,hq,rfl⟩)) c';exact ⟨_,rfl,_,_,_,_,rfl,rfl,st1,rfl,qs _ _ _ s1 (by unfold Hu.aV;rw [if_pos al]) (d2.ts s1.ts)⟩
 have c1:¬M<=0:=λz=>cc (decide_eq_true z);have n1:¬ ∀ q∈h,Hu.tl c.1 q<=0:=λz=>by have:=z p1 hp1;omega
 refine ⟨_,rfl,d,_,rfl,SqL.of hd,hne,λM2 hM2 hmin=>?_⟩;refine ⟨_,_,rfl,rfl,_,rfl,?_⟩;obtain ⟨p2,hp2,ep2⟩:=List.mem_map.mp hM2;refine eA (λcc=>?_) (λcc=>?_)
 ·have c':0<=M2:=of_decide_eq_true cc;have al:∀ q∈h,0<=Hu.tl c.1 q:=λq hq=>Int.le_trans c' (hmin _ (List.mem_map.mpr ⟨q,hq,rfl⟩));exact ⟨_,rfl,_,_,_,_,rfl,rfl,st1,rfl,qs _ _ _ s1 (by unfold Hu.aV;rw [if_neg n1,if_pos al]) (d3.ts s1.ts)⟩
 ·have c2:¬0<=M2:=λz=>cc (decide_eq_true z);have n2:¬ ∀ q∈h,0<=Hu.tl c.1 q:=λz=>by have:=z p2 hp2;omega
  exact qn (by unfold Hu.aV;rw [if_neg n1,if_neg n2]) _ s1
theorem DQ (T:aD K mg "rules_of_rows" gf) (cG:mg "enumerate"=none) (xi:Def P w K mg base 3 "choice_of" ["row","rules"] (vn K)) (xh:Def P w K mg base 3 "chosen_on" ["hull","choice"] (vm K)):Def P w K mg base 4 "rules_of_rows" ["rows","hull"] (yW K):=by
 refine aR T iG (λ_ _ _ _ _ _=>L2.ar2 λ_ _=>rfl) ?_ ?_
 ·walk_at "i1";obtain ⟨l,lh,us,hs,rows,h,rfl,_⟩:=h;rfl
 walk_at "i2";obtain ⟨l,lh,us,hs,rows,h,rfl,hl,da,ok,ne,few,hlh,dh,bp,pos,hfew,q1,q2⟩:=h;have nd:=iG.nd;have lu:=zr da;have d2:(2:Nat)<=sizeLine:=by decide
 have d3:(3:Nat)<=sizeLine:=by decide
 refine ⟨_,(ah (aJ (i:=2) nd rfl (Or.inl rfl) (bI af))
  (ah (gX PassesOwn.never rfl (tX rfl cG (pv 0)) (kY rfl (bw (aY (i:=3) nd rfl (Or.inl rfl)) (bw (aY (i:=4) nd rfl (Or.inl rfl)) eV))) (ah (aJ (i:=5) nd rfl (Or.inl rfl) (aE xi (hr.mono (by decide)) rfl (aa (pv 4) (aa (pv 2) af))))
  (ah (aJ (i:=6) nd rfl (Or.inl rfl) (aE xh (hr.mono (by decide)) rfl (aa (pv 1) (aa (pv 5) af))))
  (ah (aP (aA lg (pv 6) cQ (aF _)) (ao (av (ba (aa aI (aa (pv 3) (aa (aG aB (pv 5) aq (λ_ _=>rfl)) af)))))) aH)
  (ao (bf (cI PySem.F.plainAttrs_list PySem.F.slot_list_append PySem.F.type_list_append aW (pv 2) (aa (pv 6) af))))))))
  (ao (av (ba (aa aI (aa (pv 2) af))))))),?_⟩
 refine ⟨(by show 0<=sizeLine;decide),λlr hlr=>?_⟩;have u0:=ak hlr (.lst []);have nl:l≠lr:=aw hl hlr;refine ⟨_,rfl,l,rfl,⟨us,SqL.of (u0 _ _ hl)⟩,?_⟩
 refine qF (xs:=us) (λi σ H'=>i<=us.length/\aK H H'/\∃(ws:List V) (rs:List T3) (o3 o4 o5 o6:Option V),σ=[some (.ref l),some (.ref lh),some (.ref lr),o3,o4,o5,o6]/\H' lr=some (.lst ws)/\DatAll K H' (rs.map t3D) ws/\rs.length=i/\Hu.Rb rs/\Hu.run h rows []=Hu.run h (rows.drop i) rs)
  ⟨Nat.zero_le _,u0,[],[],_,_,_,_,rfl,ae,rfl,rfl,(λi x e=>by simp at e),rfl⟩ (λi σ H' _ z=>SqL.of (z.2.1 _ _ hl)) (λi v T' σ H' hv z hT=>?_) (λσ H' z=>?_)
 ·obtain ⟨_,sm,ws,rs,o3,o4,o5,o6,rfl,hr',dr,lrs,rb,er⟩:=z;have hi:i < us.length:=(List.getElem?_eq_some_iff.mp hv).1;have uT:=ak hT (.tup [.int i,v]);have s2:=sm.trans uT;obtain ⟨r,er',dv⟩:=zt (da.ts s2.ts) hv;have okr:r.Ok rs.length:=by rw [lrs];exact ok i r er'
  have dp:rows.drop i=r::rows.drop (i+1):=by
   obtain ⟨g1,g2⟩:=List.getElem?_eq_some_iff.mp er';rw [<- g2];exact List.drop_eq_getElem_cons g1
  rw [dp] at er;obtain ⟨cb,_,_⟩:=Hu.jQ rb okr;refine ⟨T',_,rfl,SqT.of ae,rfl,_,_,rfl,_,_,rfl,rfl,?_⟩;refine ⟨_,rfl,_,rfl,v,lr,ws,r,rs,rfl,dv,uT _ _ hr',dr.ts uT.ts,okr,λc H3 s3 hc=>?_⟩;have m3:=s2.trans s3;have hr3:=s3 _ _ (uT _ _ hr');have dr3:=(dr.ts uT.ts).ts s3.ts;refine ⟨_,rfl,_,rfl,lh,c,hs,h,Hu.choice rs r,rfl,m3 _ _ hlh,dh.ts m3.ts,hc,cb.mono (by omega),bp,pos,hfew,λx u H4 s4 ex du=>?_,λex H4 s4=>?_⟩
  ·obtain ⟨ua,rfl,su⟩:=dX du;refine ⟨_,rfl,rfl,_,rfl,bH ?_⟩;have m4:=m3.trans s4;have hr4:=s4 _ _ hr3;have lw:=jr dr3;refine ⟨_,rfl,.inl ⟨rfl,_,SqL.of hr4⟩,_,rfl,lr,ws,_,rfl,rfl,hr4,aO (by omega),?_⟩;have t5:Tst H4 (upd H4 lr (.lst (ws++[.ref ua]))):=dJ hr4;refine ⟨hi,aQ m4 hlr _,ws++[.ref ua],rs++[x],_,_,_,_,rfl,ae,?_,?_,Hu.tS rb (Hu.qS rb okr ex),?_⟩
   ·rw [List.map_append];exact ((dr3.ts s4.ts).ts t5).snoc (du.ts t5)
   ·rw [List.length_append,lrs];rfl
   ·rw [er];show (match Hu.aV h (Hu.choice rs r) with | some x=>_ | none=>_)=_
    rw [ex]
  ·obtain ⟨t,x,y,z,rfl,st,e1,_,_⟩:=hc;refine ⟨_,rfl,rfl,_,rfl,dN ?_⟩;refine ⟨_,rfl,_,rfl,_,_,_,_,rfl,rfl,st.ts s4.ts,rfl,d3,λp hp=>?_⟩;have u:=ak hp (.tup [.str "mixed",.int i,x]);refine q2 i (Hu.choice rs r).1 p x _ (m3.trans (s4.trans u)) ?_ (by omega) (by rw [<- lrs];exact cb) (SqT.of ae) ((e1.ts s4.ts).ts u.ts);rw [er];show (match Hu.aV h (Hu.choice rs r) with | some x=>_ | none=>_)=_
   rw [ex,lrs]
 ·obtain ⟨_,sm,ws,rs,o3,o4,o5,o6,rfl,hr',dr,lrs,rb,er⟩:=z;refine ⟨_,rfl,d2,λp hp=>?_⟩;have u:=ak hp (.tup [.str "rules",.ref lr]);refine q1 rs p lr ws _ (sm.trans u) ?_ rb (by omega) hlr (SqT.of ae) (u _ _ hr') (dr.ts u.ts);rw [er,List.drop_eq_nil_of_le (by omega)];rfl
structure Ms (P:Program) (w:World) (K:W.Frag) (mg:Str->Option Value) (base:Heap) (c:CCs):Prop where
 made:∀ t,aT P w K mg base (c.of t) "made_of" 1 ["self"] (tq c t)
 word:∀ t,aT P w K mg base (c.of t) "making_word" 1 ["self"] (eB c t)
 pieces:∀ t,aT P w K mg base (c.of t) "pieces" 2 ["self"] (lS c t)
 weigh:∀ t,aT P w K mg base (c.of t) "weigh" 2 ["self","worths","n","x","y"] (iV c t)
variable {c:CCs}
theorem zk:az ["self","laid","waiting","part"] ["self"] (ag sLaid):=L2.fsc rfl (by decide+kernel)
theorem ok_laid {C:Addr} {t:Tr} (T:aS K C "laid_out" "Saying.laid_out" sLaid) (M:Ms P w K mg base c):aT P w K mg base C "laid_out" 2 ["self"] (pJ c t):=by
 refine bh T zk (λ_ _ _ _ _ _=>L2.ar1 λ_=>rfl) ?_ ?_
 ·walk_at "i1";obtain ⟨a,rfl,_⟩:=h;rfl
 walk_at "i2";obtain ⟨a,rfl,oa,ht,q⟩:=h;have nd:=zk.nd
 refine ⟨_,(ah (aJ (i:=1) nd rfl (Or.inl rfl) (bI af))
  (ah (aJ (i:=2) nd rfl (Or.inl rfl) (bI (aa (pv 0) af)))
  (ah (jE PassesOwn.never (ql (pv 2) (λ_=>rfl)) (ah (aJ (i:=3) nd rfl (Or.inl rfl) (gY PySem.F.plainAttrs_list PySem.F.slot_list_pop PySem.F.type_list_pop jb (pv 2)))
  (ah (bf (cI PySem.F.plainAttrs_list PySem.F.slot_list_append PySem.F.type_list_append aW (pv 1) (aa (pv 3) af)))
  (ao (bf (cI PySem.F.plainAttrs_list PySem.F.slot_list_extend PySem.F.type_list_extend nI (pv 2) (aa (cX (k:=1) (pv 3) (hr.mono (by decide))) af)))))))
  (ah (bf (gY PySem.F.plainAttrs_list PySem.F.slot_list_reverse PySem.F.type_list_reverse qw (pv 1)))
  (ao (av (pv 1))))))),?_⟩
 refine ⟨(by show 0<=sizeLine;decide),λl1 h1=>?_⟩;refine ⟨_,rfl,(by show 1<=sizeLine;decide),λl2 h2'=>?_⟩;have h2:H l2=none:=jo h2';have n12:l1≠l2:=λe=>by subst e;rw [ae] at h2';cases h2'
 have smI:aK H (upd (upd H l1 (.lst [])) l2 (.lst [.ref a])):=λb o e=>by rw [au (aw e h2),au (aw e h1)];exact e
 refine ⟨λm σ H'=>∃(L W:List V) (Lt Wt:List Tr) (o:Option V),σ=[some (.ref a),some (.ref l1),some (.ref l2),o]/\aK H H'/\H' l1=some (.lst L)/\H' l2=some (.lst W)/\bW (ObV c H') L Lt/\bW (ObV c H') W Wt/\
   Lt++(Wt.reverse.flatMap λx=>x.post.reverse)=t.post.reverse/\m=bK Wt,
  ⟨_,[],[.ref a],[],[t],_,rfl,smI,by rw [au n12,ae],ae,.nil,.cons ⟨a,rfl,oa.to (Kp.of smI)⟩ .nil,by simp,rfl⟩,?_⟩
 rintro m σ H' ⟨L,W,Lt,Wt,o,rfl,sm,e1,e2,oL,oW,hp,rfl⟩
 have hlen:Lt.length+bK Wt=t.size:=by
  have z:=congrArg List.length hp;rw [List.length_append,wG,Ax,List.length_reverse,eT] at z;exact z
 have hLl:=oL.len
 by_cases hw:W=[]
 ·subst hw;cases oW
  refine ⟨_,rfl,false,.inl ⟨[],SqL.of e2,rfl⟩,bH ?_⟩;refine ⟨_,rfl,.inl ⟨rfl,_,SqL.of e1⟩,l1,_,rfl,rfl,e1,?_⟩;have eL:Lt=t.post.reverse:=by simpa using hp
  have kp:=gp (u:=.lst L.reverse) e1 rfl;refine ⟨_,rfl,q l1 L.reverse _ (λb o z=>?_) h1 ae ?_⟩
  ·rw [au (aw z h1)];exact sm b o z
  ·have:=(oL.imp (ObV.to kp)).rev;rw [eL,List.reverse_reverse] at this;exact this
 ·obtain ⟨W',v,Wt',x,rfl,rfl,⟨b,rfl,ob⟩,oW'⟩:=oW.last hw;refine ⟨_,rfl,true,.inl ⟨_,SqL.of e2,by cases W' <;> rfl⟩,dN ?_⟩;have sz:bK (Wt'++[x])=bK Wt'+x.size:=by rw [jY];simp [bK]
  refine ⟨λσ' H''=>∃ m',m' < bK (Wt'++[x])/\∃(L W:List V) (Lt Wt:List Tr) (o:Option V),σ'=[some (.ref a),some (.ref l1),some (.ref l2),o]/\aK H H''/\H'' l1=some (.lst L)/\H'' l2=some (.lst W)/\bW (ObV c H'') L Lt/\bW (ObV c H'') W Wt/\
   Lt++(Wt.reverse.flatMap λx=>x.post.reverse)=t.post.reverse/\m'=bK Wt,λ_ _ z=>z,?_⟩
  refine ⟨_,rfl,.inl ⟨rfl,_,SqL.of e2⟩,l2,_,_,rfl,rfl,e2,gJ _ _,?_⟩;rw [List.dropLast_concat];have e1':upd H' l2 (.lst W') l1=some (.lst L):=by rw [au n12];exact e1
  refine ⟨_,rfl,.inl ⟨rfl,_,SqL.of e1'⟩,_,rfl,l1,_,_,rfl,rfl,e1',by rw [hLl];exact Nat.lt_of_le_of_lt (show Lt.length<=1000 by omega) (by decide),?_⟩;have k1:Kp H' (upd (upd H' l2 (.lst W')) l1 (.lst (L++[.ref b]))):=(gp e2 rfl).trans (gp e1' rfl);have e2':upd (upd H' l2 (.lst W')) l1 (.lst (L++[.ref b])) l2=some (.lst W'):=by rw [au n12.symm,ae]
  have ob1:=ob.to k1;obtain ⟨dx,fs,eb,nf⟩:=ob1.cls;refine ⟨_,rfl,.inl ⟨rfl,_,SqL.of e2'⟩,_,rfl,b,_,_,_,_,_,rfl,eb,nf _ (by decide+kernel),M.made x,b,rfl,ob1,λl us hl ou=>?_⟩;have nl2:l2≠l:=aw e2' hl;have nl1:l1≠l:=aw (ae (H:=upd H' l2 (.lst W'))) hl;have e2'':upd (upd (upd H' l2 (.lst W')) l1 (.lst (L++[.ref b]))) l (.lst us) l2=some (.lst W'):=by rw [au nl2];exact e2'
  have hWl:=oW'.len;have hul:=ou.len;have hkl:=jJ x;have hWs:=si Wt';refine ⟨l2,l,_,_,rfl,rfl,e2'',ae,by rw [hWl,hul];exact Nat.le_trans (show _<=1002 by omega) (by decide),?_⟩;have k2:Kp (upd (upd H' l2 (.lst W')) l1 (.lst (L++[.ref b]))) (upd (upd (upd (upd H' l2 (.lst W')) l1 (.lst (L++[.ref b]))) l (.lst us)) l2 (.lst (W'++us))):=(kp_new hl _).trans (gp e2'' rfl);have k3:=k1.trans k2;have ks:=sv x;refine ⟨bK (Wt'++x.kids),by rw [sz,jY];omega,L++[.ref b],W'++us,Lt++[x],Wt'++x.kids,_,rfl,λd o z=>?_,by rw [au n12,au nl1,ae],ae,(oL.imp (ObV.to k3)).app (.cons ⟨b,rfl,ob.to k3⟩ .nil),(oW'.imp (ObV.to k3)).app (ou.imp (ObV.to k2)),?_,rfl⟩
  ·have z1:upd (upd H' l2 (.lst W')) l1 (.lst (L++[.ref b])) d=some o:=by rw [au (aw z h1),au (aw z h2)];exact sm d o z
   rw [au (aw z h2),au (aw z1 hl)];exact z1
  ·rw [<- hp];simp only [List.reverse_append,List.flatMap_append,List.reverse_cons,List.reverse_nil,List.nil_append,List.append_assoc,List.flatMap_cons,List.flatMap_nil,List.append_nil,List.singleton_append,DA x,List.cons_append]
theorem CP:az ["self","n","x","y","worths","part"] ["self","n","x","y"] (ag sOut):=L2.fsc rfl (by decide+kernel)
theorem ok_out {C:Addr} {t:Tr} (T:aS K C "out_of" "Saying.out_of" sOut) (M:Ms P w K mg base c) (G:∀ t,aT P w K mg base (c.of t) "laid_out" 2 ["self"] (pJ c t)):aT P w K mg base C "out_of" 3 ["self","n","x","y"] (CD c t):=by
 refine bh T CP (λ_ _ _ _ _ _=>L2.ar4 λ_ _ _ _=>rfl) ?_ ?_
 ·walk_at "i1";obtain ⟨a,n,x,y,rfl,_⟩:=h;rfl
 walk_at "i2";obtain ⟨a,n,x,y,rfl,oa,ht,q⟩:=h;have nd:=CP.nd
 refine ⟨_,(ah (aJ (i:=4) nd rfl (Or.inl rfl) (bI af))
  (ah (gX PassesOwn.never rfl (di (cX (k:=2) (pv 0) (hr.mono (by omega)))) (aY (i:=5) nd rfl (Or.inl rfl)) (ao (bf (qq (k:=2) (pv 5) (hr.mono (by decide)) (aa (pv 4) (aa (pv 1) (aa (pv 2) (aa (pv 3) af))))))))
  (ao (av (gY PySem.F.plainAttrs_list PySem.F.slot_list_pop PySem.F.type_list_pop jb (pv 4)))))),?_⟩
 refine ⟨(by show 0<=sizeLine;decide),λl1 h1=>?_⟩;have sm1:aK H (upd H l1 (.lst [])):=ak h1 _;have oa1:=oa.to (Kp.of sm1);obtain ⟨dx,fs,ea,nf⟩:=oa1.cls;refine ⟨_,rfl,a,_,_,_,_,_,rfl,ea,nf _ (by decide+kernel),G t,a,rfl,oa1,ht,λl us H' sm hl el ou=>⟨l,rfl,⟨_,SqL.of el⟩,?_⟩⟩;have nl:l≠l1:=λe=>by subst e;rw [ae] at hl;cases hl
 refine hI (xs:=us) (λi σ H2=>∃(o:Option V) (R:List Int),σ=[some (.ref a),some (.int n),some (.int x),some (.int y),some (.ref l1),o]/\SB (.ref l1) H' H2/\H2 l1=some (.lst (R.reverse.map V.int))/\R.length<=i/\(gK n x y).run R (t.post.drop i)=some [t.worth n x y])
  ⟨none,[],rfl,SB.refl _ _,sm _ _ ae,Nat.le_refl _,run_all _ t⟩ (λi σ H2 _ h=>?_) (λi v σ H2 hi h=>?_) (λσ H2 h=>?_)
 ·obtain ⟨o,R,_,sb,_⟩:=h;exact SqL.of (sb _ _ el λz=>nl (V.ref.inj z))
 ·obtain ⟨o,R,rfl,sb,e,hR,hrun⟩:=h;obtain ⟨z,hz,b,rfl,ob⟩:=ou.get i v hi;rw [zV hz] at hrun;obtain ⟨R',hs,hrun'⟩:=Df hrun;have kp:Kp H' H2:=sb.kp λa' o' z1 z2=>by cases z1;rw [sm _ _ ae] at z2;cases z2;rfl
  have ob2:=ob.to kp;obtain ⟨dx',fs',eb,nf'⟩:=ob2.cls;have hil:i < t.post.length:=(List.getElem?_eq_some_iff.mp hz).1;rw [eT] at hil;refine ⟨_,rfl,b,_,_,_,_,_,rfl,eb,nf' _ (by decide+kernel),M.weigh z,_,rfl,_,rfl,_,rfl,_,rfl,b,l1,n,x,y,R,R',rfl,ob2,e,by omega,hs,λH3 sb3 e3=>?_⟩;exact ⟨_,R',rfl,sb.trans sb3,e3,Nat.le_trans (Cv hs) (Nat.succ_le_succ hR),hrun'⟩
 ·obtain ⟨o,R,rfl,sb,e,hR,hrun⟩:=h;have ul:=ou.len;rw [ul,List.drop_length] at hrun;have eR:R=[t.worth n x y]:=Option.some.inj hrun;subst eR;refine ⟨_,rfl,.inl ⟨rfl,_,SqL.of e⟩,l1,_,_,rfl,rfl,e,rfl,q _ λb o z=>?_⟩;rw [au (aw z h1)];exact sb b o (sm b o (sm1 b o z)) λz1=>(aw z h1) (V.ref.inj z1)
theorem cut1 (x:V) (us:List V):qP (x::us) (some 1) none=us:=by
 unfold qP
 rw [show _root_.HT.sIx (x::us).length 0 (some 1)=1 from by
  rw [show (some (1:Int))=some ((1:Nat):Int) from rfl,_root_.HT.tM,List.length_cons];omega,_root_.HT.CW]
 show List.take ((x::us).length - 1) us=us;rw [List.length_cons,Nat.add_sub_cancel,List.take_length]
theorem sl1 {K:W.Frag} {H:Hp} {a:Addr} {x:V} {us:List V} {Q:VK} (e:H a=some (.tup (x::us))) (h:∀ p,H p=none->Q (.ref p) (upd H p (.tup us))):rSlA K (.ref a) (some 1) none H Q:=by
 refine ⟨a,_,rfl,SqT.of e,λz=>?_,λ_ p=>?_⟩
 ·have hix0:_root_.HT.sIx (x::us).length 0 (some 1)=1:=by
   rw [show (some (1:Int))=some ((1:Nat):Int) from rfl,_root_.HT.tM,List.length_cons];omega
  exact absurd (hix0.symm.trans z) (by decide)
 ·intro hp';rw [cut1];exact h _ hp'
theorem pY:az ["thing"] ["thing"] (ag kS):=L2.fsc rfl (by decide+kernel)
theorem xY (T:aD K mg "is_whole" kS) (aM:mg "isinstance"=none) (fe:mg "int"=none) (nP:mg "bool"=none) (kb:PySem.W.kitOne K (.type "int") (.type "bool")=some false):Def P w K mg base 1 "is_whole" ["thing"] va:=by
 refine aR T pY (λ_ _ _ _ _ _=>L2.ar1 λ_=>rfl) ?_ ?_
 ·walk_at "i1";obtain ⟨i,rfl,_⟩:=h;rfl
 walk_at "i2";obtain ⟨i,rfl,q⟩:=h;have nd:=pY.nd;refine ⟨_,(ao (av (kZ (aC jR rfl aM (by decide+kernel) (aa (pv 0) (aa (gD (v:=V.ty "int") rfl fe (by decide+kernel) rfl) af))) (qp (DD (aC jR rfl aM (by decide+kernel) (aa (pv 0) (aa (gD (v:=V.ty "bool") rfl nP (by decide+kernel) rfl) af)))))))),?_⟩;exact ⟨_,rfl,_,_,_,_,true,rfl,(λ_ h=>h),jd.int _,fX,_,rfl,dN ⟨_,rfl,_,_,_,_,false,rfl,(λ_ h=>h),jd.int _,kb,_,rfl,q⟩⟩
abbrev ptN:List Str:=["thing","n"]
theorem pZ:az ptN ["thing"] (ag dS):=L2.fsc rfl (by decide+kernel)
abbrev ptAt (i:Nat):Stmt:=(bu dS).getD i (.Pass ⟨0,0,0,0⟩)
def allArg (s:Stmt):Expr:=match s with
 | .If (.UnaryOp _ (.Call _ [e] _ _) _) _ _ _=>e
 | _=>.Constant .none 0 ⟨0,0,0,0⟩
theorem rN:az ["thing"] ["thing"] (ag gh):=L2.fsc rfl (by decide+kernel)
abbrev roN:List Str:=["saying","rows","place_of","waiting","part","taken","row"]
abbrev roAt (i j:Nat):Stmt:=match (bu fA).getD i (.Pass ⟨0,0,0,0⟩) with
 | .For _ _ b _ _=>b.getD j (.Pass ⟨0,0,0,0⟩)
 | _=>.Pass ⟨0,0,0,0⟩
theorem Ck {α:Type}:∀{R:List α} {k:Nat},k < R.length->∃ x R1,R.drop k=x::R1/\R.take (k+1)=R.take k++[x]/\R.drop (k+1)=R1:=by
 intro R k h;refine ⟨R[k],R.drop (k+1),List.drop_eq_getElem_cons h,?_,rfl⟩;rw [List.take_add_one,List.getElem?_eq_getElem h];rfl
theorem rM:az roN ["saying"] (ag fA):=L2.fsc rfl (by decide+kernel)
theorem AU (T:aD K mg "rows_of" fA) (bg:mg "len"=none) (aZ:mg "tuple"=none) (M:Ms P w K mg base c) (G:∀ t,aT P w K mg base (c.of t) "laid_out" 2 ["self"] (pJ c t)):Def P w K mg base 3 "rows_of" ["saying"] (vg c):=by
 refine aR T rM (λ_ _ _ _ _ _=>L2.ar1 λ_=>rfl) ?_ ?_
 ·walk_at "i1";obtain ⟨a,t,rfl,_⟩:=h;rfl
 walk_at "i2";obtain ⟨a,t,rfl,oa,ht,q⟩:=h;have nd:=rM.nd;have hu:=zO hr
 have stT:∃ ts,PS (cS CX0 P w K mg base roN "rows_of" (ag fA) f cdv A outer s H E).nox (roAt 3 0) ts/\∀(D:Ends) (o5 o6:Option V) (l1 d1 l3 b:Addr) (x:Tr) (R:List Nat) (H1:Hp),Ob c H1 b x->H1 l3=some (.lst (R.reverse.map λi:Nat=>V.int (i:Int)))->x.kids.length<=R.length->
   (∀ l4 H2,l4≠l3->H1 l4=none->(∀ d o,H1 d=some o->d≠l3->H2 d=some o)->H2 l3=some (.lst ((R.drop x.kids.length).reverse.map λi:Nat=>V.int (i:Int)))->H2 l4=some (.lst ((R.take x.kids.length).map λi:Nat=>V.int (i:Int)))->
    D.nx [some (.ref a),some (.ref l1),some (.ref d1),some (.ref l3),some (.ref b),some (.ref l4),o6] H2)->
   ts D [some (.ref a),some (.ref l1),some (.ref d1),some (.ref l3),some (.ref b),o5,o6] H1:=by
  refine ⟨_,(oU (i:=5) nd rfl (Or.inl rfl) (Or.inl rfl) rfl rfl (di (cX (k:=1) (pv 4) (hr.mono (by decide)))) rfl (by decide+kernel) (by decide+kernel) rfl (show ∀ p∈Scope.names _,p.2=NameKind.free->List.lookup p.1 (ag fA).names=some .cell\/List.lookup p.1 (ag fA).names=some .free by decide+kernel) (dR (j:=3) rfl (Or.inl rfl) (by decide+kernel) (Or.inl rfl) dD) (show (["piece","waiting"]:List Str).Nodup by decide+kernel) (λ_ _ _ _=>eU) (λ_ _ _ _=>(pe_bm0K (K:=K) rfl PySem.F.plainAttrs_list PySem.F.slot_list_pop PySem.F.type_list_pop jb (pv 1)))),?_⟩;intro D o5 o6 l1 d1 l3 b x R H1 ob e3 hk fin;obtain ⟨dx,fs,eb,nf⟩:=ob.cls;unfold uV;refine iO ?_;refine ⟨_,rfl,b,_,_,_,_,_,rfl,eb,nf _ (by decide+kernel),M.made x,b,rfl,ob,λl us hl ou=>⟨l,rfl,⟨_,SqL.of ae⟩,?_⟩⟩;have hul:=ou.len;have nl:l≠l3:=(aw e3 hl).symm
  refine sN (K:=K) (xs:=us) (λl' H'=>l'=l/\H'=upd H1 l (.lst us)) (λR' h=>h l _ ⟨rfl,rfl⟩) (λl' H' h=>by obtain ⟨rfl,rfl⟩:=h;exact ae) (by rw [hul];have:=jJ x;omega)
   (λl' D' i ys H'=>l'=l/\H1 D'=none/\D'≠l3/\ys=((R.take i).map λi:Nat=>V.int (i:Int))/\H' l3=some (.lst ((R.drop i).reverse.map λi:Nat=>V.int (i:Int)))/\∀ d o,H1 d=some o->d≠l3->H' d=some o)
   (λl' H' D' h hD=>?_) (λl' D' i v ys H' hv nl' el eD h N hN=>?_) (λl' D' ys H' el eD h=>?_)
  ·obtain ⟨rfl,rfl⟩:=h;have hD':=jo hD;refine ⟨rfl,hD',(aw e3 hD').symm,rfl,?_,λd o z _=>?_⟩
   ·rw [au (aw e3 hD'),au nl.symm];exact e3
   ·rw [au (aw z hD'),au (aw z hl)];exact z
  ·obtain ⟨rfl,hD',nD,rfl,e3',sm⟩:=h
   have hi:i < R.length:=by
    have:=(List.getElem?_eq_some_iff.mp hv).1;omega
   obtain ⟨y,R1,d1',d2',d3'⟩:=Ck hi;rw [d1',List.reverse_cons,List.map_append] at e3';refine ⟨_,rfl,.inl ⟨rfl,_,SqL.of e3'⟩,l3,_,_,rfl,rfl,e3',gJ _ _,?_⟩;refine hN _ _ (by rw [au nl];exact el) (by rw [au nD];exact eD) ⟨rfl,hD',nD,?_,?_,λd o z n=>?_⟩
   ·rw [d2',List.map_append];rfl
   ·rw [au nD.symm,ae,d3'];exact congrArg some (congrArg HO.lst List.dropLast_concat)
   ·rw [au (aw z hD'),au n];exact sm d o z n
  ·obtain ⟨rfl,hD',nD,rfl,e3',sm⟩:=h;rw [hul] at e3' eD;exact fin D' H' nD hD' sm e3' eD
 obtain ⟨tsT,htT,hqT⟩:=stT
 refine ⟨_,ah (aJ (i:=1) nd rfl (Or.inl rfl) (bI af)) (ah (aJ (i:=2) nd rfl (Or.inl rfl) DE) (ah (aJ (i:=3) nd rfl (Or.inr rfl) (bI af)) (ah (gX PassesOwn.never rfl (di (cX (k:=2) (pv 0) (hr.mono (by omega)))) (aY (i:=4) nd rfl (Or.inl rfl)) (ah htT (ah (bf (gY PySem.F.plainAttrs_list PySem.F.slot_list_reverse PySem.F.type_list_reverse qw (pv 5)))
  (ah (aJ (i:=6) nd rfl (Or.inl rfl) (aL zE (ba (aa (cX (k:=1) (pv 4) (hr.mono (by decide))) af)) (cB cH rfl aZ (by decide+kernel) (aa (pv 5) af))))
  (ah (aP (pt_cmp (AK hu (pv 6) (pv 2))) (ah (ps_dput hu (pv 2) (pv 6) (aC bC rfl bg (by decide+kernel) (aa (pv 1) af)) rfl)
  (ao (bf (cI PySem.F.plainAttrs_list PySem.F.slot_list_append PySem.F.type_list_append aW (pv 1) (aa (pv 6) af))))) aH)
  (ao (bf (cI PySem.F.plainAttrs_list PySem.F.slot_list_append PySem.F.type_list_append aW (pv 3) (aa (oV hu (pv 2) (pv 6) (λ_ _=>rfl)) af))))))))) (ao (av (pv 1)))))),?_⟩
 refine ⟨(by show 0<=sizeLine;decide),λl1 h1=>?_⟩;intro d1 h2';refine ⟨(by show 0<=sizeLine;decide),λl3 h3'=>?_⟩;have h2:H d1=none:=jo h2';have n12:l1≠d1:=λe=>by subst e;rw [ae] at h2';cases h2'
 have h3a:upd H l1 (.lst []) l3=none:=jo h3';have h3:H l3=none:=jo h3a;have n13:l1≠l3:=λe=>by subst e;rw [ae] at h3a;cases h3a
 have n23:d1≠l3:=λe=>by subst e;rw [ae] at h3';cases h3'
 have sm0:aK H (upd (upd (upd H l1 (.lst [])) d1 (.dT [])) l3 (.lst [])):=λb o e=>by rw [au (aw e h3),au (aw e h2),au (aw e h1)];exact e
 have oa0:=oa.to (Kp.of sm0);obtain ⟨dx,fs,ea,nf⟩:=oa0.cls;refine ⟨_,rfl,a,_,_,_,_,_,rfl,ea,nf _ (by decide+kernel),G t,a,rfl,oa0,ht,λl us H' sm hl el ou=>⟨l,rfl,⟨_,SqL.of el⟩,?_⟩⟩;have ul:=ou.len;rw [eT] at ul;have g1:H' l1=some (.lst []):=sm _ _ (by rw [au n13,au n12,ae]);have g2:H' d1=some (.dT []):=sm _ _ (by rw [au n23,ae]);have g3:H' l3=some (.lst []):=sm _ _ ae
 have hl0:H l=none:=by
  cases z:H l with
  | none=>rfl
  | some o=>rw [sm0 _ _ z] at hl;cases hl
 have nl1:l≠l1:=λe=>by subst e;rw [au n13,au n12,ae] at hl;cases hl
 have nl3:l≠l3:=λe=>by subst e;rw [ae] at hl;cases hl
 have nld:l≠d1:=λe=>by subst e;rw [au n23,ae] at hl;cases hl
 refine hI (xs:=us) (λi σ H2=>∃(o4 o5 o6:Option V) (rs:List Rw) (R:List Nat) (kvs:List (Rw×V)) (vs:List V),σ=[some (.ref a),some (.ref l1),some (.ref d1),some (.ref l3),o4,o5,o6]/\(∀ d o,H' d=some o->d≠l1->d≠d1->d≠l3->H2 d=some o)/\
   H2 l1=some (.lst vs)/\bW (RwV H2) vs rs/\H2 d1=some (.dT kvs)/\PlO kvs rs/\H2 l3=some (.lst (R.reverse.map λi:Nat=>V.int (i:Int)))/\R.length<=i/\rs.length<=i/\rg (rs,R) (t.post.drop i)=some (t.rows,[(t.putR []).2]))
  ⟨_,_,_,[],[],[],[],rfl,λd o z _ _ _=>z,g1,.nil,g2,PlO.nil,g3,Nat.le_refl _,Nat.le_refl _,Dh t⟩ (λi σ H2 _ h=>?_) (λi v σ H2 hi h=>?_) (λσ H2 h=>?_)
 ·obtain ⟨o4,o5,o6,rs,R,kvs,vs,_,sb,_⟩:=h;exact SqL.of (sb _ _ el nl1 nld nl3)
 ·obtain ⟨o4,o5,o6,rs,R,kvs,vs,rfl,sb,e1,rv,e2,pl,e3,hR,hrs,hrun⟩:=h;obtain ⟨x,hx,b,rfl,ob⟩:=ou.get i v hi;rw [zV hx] at hrun;obtain ⟨s',hs',hrun'⟩:=AG hrun;obtain ⟨hk,rfl⟩:=Dg hs';have hil:i < us.length:=(List.getElem?_eq_some_iff.mp hi).1;have kp:Kp H' H2:=λd o z f=>sb d o z (λe=>by subst e;rw [g1] at z;cases z;cases f) (λe=>by subst e;rw [g2] at z;cases z;cases f) (λe=>by subst e;rw [g3] at z;cases z;cases f)
  have ob2:=ob.to kp;refine hqT _ _ _ l1 d1 l3 b x R H2 ob2 e3 hk λl4 H3 n43 h4 sm3 e33 e34=>?_;have nl41:l4≠l1:=(aw e1 h4).symm;have nl4d:l4≠d1:=(aw e2 h4).symm;have e31:H3 l1=some (.lst vs):=sm3 _ _ e1 n13;have e3d:H3 d1=some (.dT kvs):=sm3 _ _ e2 n23;have kp3:Kp H2 H3:=λd o z f=>sm3 d o z (λe=>by subst e;rw [e3] at z;cases z;cases f)
  refine ⟨_,rfl,.inl ⟨rfl,_,SqL.of e34⟩,l4,_,rfl,rfl,e34,?_⟩;have kp4:Kp H3 (upd H3 l4 (.lst ((R.take x.kids.length).map λi:Nat=>V.int (i:Int)).reverse)):=gp e34 rfl;rw [<- List.map_reverse] at kp4 ⊢;have ob4:=(ob2.to kp3).to kp4;obtain ⟨dx',fs',eb,nf'⟩:=ob4.cls;refine ⟨_,rfl,b,_,_,_,_,_,rfl,eb,nf' _ (by decide+kernel),M.word x,b,rfl,ob4,(by show 1<=sizeLine;decide),λp1 hp1=>?_⟩;have kx:=jJ x;have e44:upd H3 l4 (.lst ((R.take x.kids.length).reverse.map λi:Nat=>V.int (i:Int))) l4=_:=ae;have np1:l4≠p1:=aw e44 hp1;refine ⟨_,rfl,l4,_,rfl,.inl ⟨SqL.of (by rw [au np1];exact e44),λp2 hp2=>?_⟩⟩;have np12:p1≠p2:=aw (ae (H:=upd H3 l4 (.lst ((R.take x.kids.length).reverse.map λi:Nat=>V.int (i:Int))))) hp2;refine wO (K:=K) (by rw [au np12,ae]) ae (by simp) (by simp only [List.length_cons,List.length_nil,List.length_map,List.length_reverse,List.length_take];exact Nat.le_trans (show _<=3 by omega) (by decide)) λrw' H6 s6 e6=>?_;have s46:aK (upd H3 l4 (.lst ((R.take x.kids.length).reverse.map λi:Nat=>V.int (i:Int)))) H6:=((ak hp1 _).trans (ak hp2 _)).trans s6;have e6':H6 rw'=some (.tup ((dj x.word (R.take x.kids.length).reverse).map kV)):=by rw [tQ];exact e6
  generalize hr0:dj x.word (R.take x.kids.length).reverse=r at e6' hrun';have g1':H6 l1=some (.lst vs):=s46 _ _ (by rw [au nl41.symm];exact e31);have gd':H6 d1=some (.dT kvs):=s46 _ _ (by rw [au nl4d.symm];exact e3d);have g3':H6 l3=some (.lst ((R.drop x.kids.length).reverse.map λi:Nat=>V.int (i:Int))):=s46 _ _ (by rw [au n43.symm];exact e33);have kp6:Kp H2 H6:=(kp3.trans kp4).trans (Kp.of s46)
  have sb6:∀ d o,H' d=some o->d≠l1->d≠d1->d≠l3->H6 d=some o:=λd o z z1 z2 z3=>by
   have y2:=sb d o z z1 z2 z3;exact s46 _ _ (by rw [au (aw y2 h4)];exact sm3 d o y2 z3)
  have rv6:=rv.imp (RwV.to kp6);have vl:=rv.len;refine ⟨_,rfl,_,rfl,d1,_,rfl,jk.t gd' e6',_,rfl,?_⟩;have hv:=pl.2 r;have big:kvs.length < sizeLine:=by rw [pl.1];exact Nat.lt_of_le_of_lt (show rs.length<=1000 by omega) (by decide)
  cases hx0:idx rs r with
  | some j =>
   rw [hx0] at hv;rw [hv];refine bH ?_;have hp:aN rs r=(rs,j):=by unfold aN;rw [hx0]
   rw [hp] at hrun';refine ⟨_,rfl,.inl ⟨rfl,_,SqL.of g3'⟩,_,rfl,_,rfl,d1,_,rfl,(by have z:=jk.t gd' e6';rw [hv] at z;exact z),l3,_,_,rfl,rfl,g3',?_,?_⟩
   ·rw [List.length_map,List.length_reverse];exact Nat.lt_of_le_of_lt (show _<=1000 by rw [List.length_drop];omega) (by decide)
   ·have km:Kp H6 (upd H6 l3 (.lst (((R.drop x.kids.length).reverse.map λi:Nat=>V.int (i:Int))++[V.int (j:Int)]))):=gp g3' rfl;refine ⟨_,_,_,rs,j::R.drop x.kids.length,kvs,vs,rfl,λd o z z1 z2 z3=>by rw [au z3];exact sb6 d o z z1 z2 z3,by rw [au n13];exact g1',rv6.imp (RwV.to km),by rw [au n23];exact gd',pl,by rw [ae,List.reverse_cons,List.map_append];rfl,?_,by omega,hrun'⟩;rw [List.length_cons,List.length_drop];omega
  | none =>
   rw [hx0] at hv;rw [hv];refine dN ?_;have hp:aN rs r=(rs++[r],rs.length):=by unfold aN;rw [hx0]
   rw [hp] at hrun';refine ⟨_,rfl,_,vs.length,rfl,.inl ⟨_,SqL.of g1',rfl⟩,_,rfl,_,rfl,d1,_,rfl,Fp.t gd' e6' big,?_⟩;rw [vl];have gA:upd H6 d1 (.dT (putK kvs r (.int (rs.length:Int)))) l1=some (.lst vs):=by rw [au n12];exact g1'
   refine ⟨_,rfl,.inl ⟨rfl,_,SqL.of gA⟩,_,rfl,l1,_,_,rfl,rfl,gA,by rw [vl];exact Nat.lt_of_le_of_lt (show rs.length<=1000 by omega) (by decide),?_⟩;have k7:Kp H6 (upd (upd H6 d1 (.dT (putK kvs r (.int (rs.length:Int))))) l1 (.lst (vs++[.ref rw']))):=(gp gd' rfl).trans (gp gA rfl);have gB:upd (upd H6 d1 (.dT (putK kvs r (.int (rs.length:Int))))) l1 (.lst (vs++[.ref rw'])) d1=some (.dT (putK kvs r (.int (rs.length:Int)))):=by rw [au n12.symm,ae]
   have gC:upd (upd H6 d1 (.dT (putK kvs r (.int (rs.length:Int))))) l1 (.lst (vs++[.ref rw'])) l3=some (.lst ((R.drop x.kids.length).reverse.map λi:Nat=>V.int (i:Int))):=by rw [au n13.symm,au n23.symm];exact g3'
   have e7:=k7 _ _ e6' rfl;have pl':=pl.put hx0;have hv':ee (putK kvs r (.int (rs.length:Int))) r=some (.int (rs.length:Int)):=by rw [iB,if_pos rfl]
   refine ⟨_,rfl,.inl ⟨rfl,_,SqL.of gC⟩,_,rfl,_,rfl,d1,_,rfl,(by have z:=jk.t gB e7;rw [hv'] at z;exact z),l3,_,_,rfl,rfl,gC,?_,?_⟩
   ·rw [List.length_map,List.length_reverse];exact Nat.lt_of_le_of_lt (show _<=1000 by rw [List.length_drop];omega) (by decide)
   ·have km:=gp (u:=.lst (((R.drop x.kids.length).reverse.map λi:Nat=>V.int (i:Int))++[V.int (rs.length:Int)])) gC rfl;refine ⟨_,_,_,rs++[r],rs.length::R.drop x.kids.length,_,vs++[.ref rw'],rfl,λd o z z1 z2 z3=>by rw [au z3,au z1,au z2];exact sb6 d o z z1 z2 z3,by rw [au n13,ae],?_,by rw [au n23];exact gB,pl',by rw [ae,List.reverse_cons,List.map_append];rfl,?_,by rw [List.length_append];simp;omega,hrun'⟩
    ·exact ((rv6.imp (RwV.to k7)).imp (RwV.to km)).app (.cons ⟨rw',rfl,km _ _ e7 rfl⟩ .nil)
    ·rw [List.length_cons,List.length_drop];omega
 ·obtain ⟨o4,o5,o6,rs,R,kvs,vs,rfl,sb,e1,rv,e2,pl,e3,hR,hrs,hrun⟩:=h;rw [ul,<- eT,List.drop_length] at hrun;cases hrun
  refine ⟨_,rfl,q l1 vs H2 (λd o z=>?_) h1 e1 rv⟩;exact sb d o (sm _ _ (sm0 _ _ z)) (aw z h1) (aw z h2) (aw z h3)
theorem EV {K:W.Frag} {wi:TI} {tc:TT} {te:TE} {js:List Nat} {σ:St} {H:Hp} {Q:VK} {xs:List V} (bs:List Bool) (hb:bs.length=xs.length) (Src:Addr->Hp->Prop)
  (hwi:∀ R:It->Hp->Prop,(∀ l H,Src l H->R (Itl K l) H)->wi σ H R) (hsrc:∀ l H',Src l H'->H' l=some (.lst xs)/\aK H H') (hx:xs.length<=1000)
  (ht:∀ l H0 (i:Nat) v H' (N:Bool->Hp->Prop),Src l H0->xs[i]?=some v->aK H0 H'->(∀ H'',aK H' H''->N (bs.getD i false) H'')->tc (some v::bL js σ) H' N)
  (hs:∀(i:Nat) v H' (N:VK),xs[i]?=some v->aK H H'->(∀ H'',aK H' H''->N v H'')->te (some v::bL js σ) H' N)
  (hd:∀ D ys H',aK H H'->H D=none->H' D=some (.lst ys)->ys.length=bs.countP id->Q (.ref D) H'):iD wi tc te js σ H Q:=by
 refine hwi _ λl H1 src=>?_;intro D hD;obtain ⟨e,s1⟩:=hsrc l H1 src;have nl:l≠D:=aw e hD;have hD0:H D=none:=s1.free hD;refine ⟨λi m H'=>m=xs.length - i/\i<=xs.length/\H' l=some (.lst xs)/\aK H1 H'/\∃ ys,H' D=some (.lst ys)/\ys.length=(bs.take i).countP id,⟨xs.length,rfl,Nat.zero_le _,by rw [au nl];exact e,ak hD _,[],ae,rfl⟩,?_⟩;rintro i m H2 ⟨rfl,hi,e2,s2,ys,eD,ly⟩
 have cle:(bs.take i).countP id<=i:=Nat.le_trans List.countP_le_length (by rw [List.length_take];omega)
 by_cases hlt:i < xs.length
 ·refine .inr ⟨⟨xs,xs[i],SqL.of e2,by simp [hlt]⟩,λv H3 y=>?_⟩;obtain ⟨eh,y⟩:=y;subst eh;have hv:=y xs (SqL.of e2);have hbi:i < bs.length:=by omega
  have tk:bs.take (i+1)=bs.take i++[bs.getD i false]:=by
   rw [List.take_add_one,List.getElem?_eq_getElem hbi,List.getD_eq_getElem?_getD,List.getElem?_eq_getElem hbi];rfl
  have ct:(bs.take (i+1)).countP id=(bs.take i).countP id+(if bs.getD i false=true then 1 else 0):=by
   rw [tk,List.countP_append];congr 1;cases bs.getD i false <;> rfl
  refine ht l H1 i v _ _ src hv s2 λH4 s4=>?_
  by_cases hp:bs.getD i false=true
  ·rw [if_pos hp] at ct;rw [if_pos hp];refine hs i v H4 _ hv ((s1.trans s2).trans s4) λH5 s5=>?_;have e5:=s5 _ _ (s4 _ _ eD);refine ⟨_,e5,Nat.lt_of_le_of_lt (show _<=1000 by omega) (by decide),xs.length - (i+1),by omega,rfl,hlt,?_,λd u z=>?_,ys++[v],ae,by rw [ct,List.length_append,ly];rfl⟩
   ·rw [au nl];exact s5 _ _ (s4 _ _ e2)
   ·rw [au (aw z hD)];exact s5 _ _ (s4 _ _ (s2 _ _ z))
  ·rw [if_neg hp] at ct;rw [if_neg hp];exact ⟨xs.length - (i+1),by omega,rfl,hlt,s4 _ _ e2,s2.trans s4,ys,s4 _ _ eD,by rw [ct,ly];rfl⟩
 ·have ei:i=xs.length:=by omega
  subst ei;rw [<- hb,List.take_length] at ly;exact .inl ⟨⟨xs,SqL.of e2,Nat.le_refl _⟩,hd D ys H2 (s1.trans s2) hD0 eD ly⟩
def isF:Tr->Bool
 | .fold _ _ _=>true
 | _=>false
def Tr.nf (t:Tr):Nat:=(t.post.map isF).countP id
def pK (c:CCs) (t:Tr):Sp:=λvs H Q _=>∃ a,vs=[.ref a]/\Ob c H a t/\t.size<=1000/\∀ H',aK H H'->Q (.int (t.nf:Int)) H'
theorem rR:az ["self"] ["self"] (ag cO):=L2.fsc rfl (by decide+kernel)
theorem AX {C yN:Addr} {t:Tr} (T:aS K C "folds" "Saying.folds" cO) (bg:mg "len"=none) (aM:mg "isinstance"=none) (M_Fold:mg "Fold"=some (.ref yN)) (fx:Fx K c) (kf:∀ t,PySem.W.kitOne K (.ref (c.of t)) (.ref yN)=some (isF t)) (G:∀ t,aT P w K mg base (c.of t) "laid_out" 2 ["self"] (pJ c t)):aT P w K mg base C "folds" 3 ["self"] (pK c t):=by
 refine bh T rR (λ_ _ _ _ _ _=>L2.ar1 λ_=>rfl) ?_ ?_
 ·walk_at "i1";obtain ⟨a,rfl,_⟩:=h;rfl
 walk_at "i2";obtain ⟨a,rfl,oa,ht,q⟩:=h;have nd:=rR.nd;obtain ⟨dx,fs,ea,nf⟩:=oa.cls;refine ⟨_,(ao (av (aC bC rfl bg (by decide+kernel) (aa (fV rfl (di (cX (k:=2) (pv 0) (hr.mono (by omega)))) rfl (by decide+kernel) (by decide+kernel) rfl (show ∀ p∈Scope.names _,p.2=NameKind.free->List.lookup p.1 (ag cO).names=some .cell\/List.lookup p.1 (ag cO).names=some .free by decide+kernel) dD (show (["part"]:List Str).Nodup by decide+kernel) (λ_ _ _ _=>(pif_one (gk (aC (BH (K:=K) rfl) rfl aM (by decide+kernel) (aa (pv 0) (aa (cL (v:=V.ref yN) rfl M_Fold rfl) af)))))) (λ_ _ _ _=>(pv 0))) af)))),?_⟩;dsimp only [Cn,tOp,tC,tCB,fo,pG];refine iO ?_;refine ⟨_,rfl,a,_,_,_,_,_,rfl,ea,nf _ (by decide+kernel),G t,a,rfl,oa,ht,λl us H1 s1 hl el ou=>⟨l,rfl,⟨_,SqL.of el⟩,?_⟩⟩;have lu:=ou.len;have lp:=eT t;refine EV (K:=K) (t.post.map isF) (by rw [List.length_map,lu]) (λl' H'=>l'=l/\H'=H1) (λR k=>k l H1 ⟨rfl,rfl⟩) (λl' H' z=>by obtain ⟨rfl,rfl⟩:=z;exact ⟨el,aK.refl _⟩) (by omega) (λl' H0 i v H2 N z hv s2 hN=>?_) (λi v H2 N hv s2 hN=>⟨_,rfl,hN _ (aK.refl _)⟩) (λD ys H2 s2 hD eD ly=>?_)
 ·obtain ⟨rfl,rfl⟩:=z;obtain ⟨x,hx,b,rfl,ob⟩:=(ou.imp (ObV.to (Kp.of s2))).get i v hv;have e:(t.post.map isF).getD i false=isF x:=by rw [List.getD_eq_getElem?_getD,List.getElem?_map,hx];rfl
  rw [e] at hN;exact ⟨_,rfl,_,_,_,_,_,rfl,(λu z=>z),fx.ty ob,kf x,_,rfl,hN _ (aK.refl _)⟩
 ·refine ⟨_,_,rfl,.inl ⟨_,SqL.of eD,rfl⟩,?_⟩;rw [ly];exact q _ (s1.trans s2)
def u5:W5->Nat | .more=>0 | .less=>1 | .greater=>2 | .lesser=>3 | .leads=>4
theorem fw_u5 (u:W5):fw (u5 u)=u.str:=by cases u <;> rfl
def gu:Gr->Hu.Row
 | .ne=>.lf 0 | .al=>.lf 1 | .p=>.lf 2 | .q=>.lf 3
 | .no i=>.nt i
 | .fold u i j=>.fd (u5 u) i j
theorem As {K:W.Frag} {H:Hp} {v:V} {g:Gr} (h:RwV H v g.rw):Dat K H (kU (gu g)) v:=by
 obtain ⟨a,rfl,e⟩:=h;unfold Gr.rw at e;rw [tQ] at e;refine row_mk (SqT.of ?_);rw [e];cases g with
 | fold u i j=>show _=some (HO.tup [V.str (fw (u5 u)),.int i,.int j]);rw [fw_u5];rfl
 | _=>rfl
theorem Cf {k:Nat} {g:Gr} (h:GrOk k g):(gu g).Ok k:=by
 cases g with
 | ne=>show 0 < 4;decide
 | al=>show 1 < 4;decide
 | p=>show 2 < 4;decide
 | q=>show 3 < 4;decide
 | no i=>exact h i (by simp [Gr.nums])
 | fold u i j=>exact ⟨by cases u <;> decide,h i (by simp [Gr.nums]),h j (by simp [Gr.nums])⟩
def fdK (r:Rw):Bool:=r.length == 3
theorem kj (rs:List Rw) (r:Rw):(aN rs r).1.countP fdK<=rs.countP fdK+(if fdK r=true then 1 else 0):=by
 unfold aN;cases idx rs r with
 | some i=>show rs.countP fdK<=_;omega
 | none =>
  show (rs++[r]).countP fdK<=_;rw [List.countP_append];refine Nat.add_le_add_left ?_ _;cases h:fdK r <;> simp [h]
theorem zH (t:Tr):(Tr.no t).nf=t.nf:=by
 show ((t.post++[Tr.no t]).map isF).countP id=_;rw [List.map_append,List.countP_append];rfl
theorem oZ (u:W5) (a b:Tr):(Tr.fold u a b).nf=a.nf+b.nf+1:=by
 show ((a.post++b.post++[Tr.fold u a b]).map isF).countP id=_;rw [List.map_append,List.map_append,List.countP_append,List.countP_append];rfl
theorem kh:∀(t:Tr) (rs:List Rw),(t.putR rs).1.countP fdK<=rs.countP fdK+t.nf
 | .no t,rs=>by
  have h1:=kh t rs;have h2:=kj (t.putR rs).1 (dj "not" [(t.putR rs).2]);have e:fdK (dj "not" [(t.putR rs).2])=false:=rfl;rw [e,if_neg (by decide)] at h2;rw [zH];exact Nat.le_trans h2 h1
 | .fold w a b,rs=>by
  have h1:=kh a rs;have h2:=kh b (a.putR rs).1;have h3:=kj (b.putR (a.putR rs).1).1 (dj w.str [(a.putR rs).2,(b.putR (a.putR rs).1).2]);have e:fdK (dj w.str [(a.putR rs).2,(b.putR (a.putR rs).1).2])=true:=rfl;rw [e,if_pos rfl] at h3;rw [oZ];have:((Tr.fold w a b).putR rs).1.countP fdK<=_:=h3;omega
 | .never,rs=>kj rs (dj "never" [])
 | .always,rs=>kj rs (dj "always" [])
 | .lp,rs=>kj rs (dj "p" [])
 | .lq,rs=>kj rs (dj "q" [])
theorem EG:∀ gs:List Gr,Hu.fds (gs.map gu)=(gs.map Gr.rw).countP fdK
 | []=>rfl
 | g::r=>by
  have ih:=EG r;unfold Hu.fds at ih ⊢;rw [List.map_cons,List.map_cons,List.countP_cons,List.countP_cons,ih];congr 1;cases g <;> rfl
def tcD:Hu.Tc->PyData
 | .leaf=>.tuple [.str "leaf"]
 | .cut r l g=>.tuple [.str "cut",t3D r,tcD l,tcD g]
section
variable {K:W.Frag} {H H':Hp} {v:V}
theorem tc_leaf (d:Dat K H (tcD .leaf) v):∃ a,v=.ref a/\SqT K H a [.str "leaf"]:=by
 unfold tcD at d;obtain ⟨a,xs,rfl,g,x,r,rfl,hx,hr⟩:=d;cases (show x=V.str "leaf" from hx)
 cases (show r=[] from hr)
 exact ⟨a,rfl,g⟩
theorem Cj {r:T3} {l g:Hu.Tc} (d:Dat K H (tcD (.cut r l g)) v):∃ a x y z,v=.ref a/\SqT K H a [.str "cut",x,y,z]/\Dat K H (t3D r) x/\Dat K H (tcD l) y/\Dat K H (tcD g) z:=by
 unfold tcD at d;obtain ⟨a,xs,rfl,s,w,t,rfl,hw,x,t2,rfl,hx,y,t3,rfl,hy,z,t4,rfl,hz,h4⟩:=d;cases (show w=V.str "cut" from hw)
 cases (show t4=[] from h4)
 exact ⟨a,x,y,z,rfl,s,hx,hy,hz⟩
theorem mW {a:Addr} (g:SqT K H a [.str "leaf"]):Dat K H (tcD .leaf) (.ref a):=by
 unfold tcD;exact ⟨a,_,rfl,g,_,_,rfl,rfl,rfl⟩
theorem Ci {a:Addr} {x y z:V} {r:T3} {l g:Hu.Tc} (s:SqT K H a [.str "cut",x,y,z]) (h1:Dat K H (t3D r) x) (h2:Dat K H (tcD l) y) (h3:Dat K H (tcD g) z):Dat K H (tcD (.cut r l g)) (.ref a):=by
 unfold tcD;exact ⟨a,_,rfl,s,_,_,rfl,rfl,_,_,rfl,h1,_,_,rfl,h2,_,_,rfl,h3,rfl⟩
end
namespace Hu
theorem oS {h:List T3} {r:Row}:∀(a:List Row) (rs:List T3),run h (a++[r]) rs=match run h a rs with
  | .rules rs'=>(match aV h (choice rs' r) with | some x=>.rules (rs'++[x]) | none=>.mixed rs'.length (choice rs' r).1)
  | .mixed k t=>.mixed k t
 | [],rs=>by
  show run h [r] rs=_;simp only [run]
  all_goals (cases aV h (choice rs r) <;> rfl)
 | x::a,rs=>by
  simp only [List.cons_append,run];cases aV h (choice rs x) with
  | none=>rfl
  | some y=>exact oS a _
theorem fY (h:List T3) (x:T3):aV h (z0,x,x)=some x:=by
 unfold aV;rw [if_pos λq _=>Int.le_of_eq (nU q)]
end Hu
def rl (g:List T3):Tr->Option T3
 | .never=>some (Hu.lft 0)
 | .always=>some (Hu.lft 1)
 | .lp=>some (Hu.lft 2)
 | .lq=>some (Hu.lft 3)
 | .no t=>(rl g t).map λr=>Hu.mi Hu.al r
 | .fold u a b=>match rl g a,rl g b with
  | some x,some y=>Hu.aV g (Hu.fch (u5 u) x y)
  | _,_=>none
theorem nB (g:List T3):∀ t:Tr,rl g t≠none->∀ x∈t.post,rl g x≠none
 | .no t,h,x,hx=>by
  rcases List.mem_append.mp (show x∈t.post++[.no t] from hx) with z | z
  ·exact nB g t (λe=>h (by show (rl g t).map _=none;rw [e];rfl)) x z
  ·rw [List.mem_singleton.mp z];exact h
 | .fold u a b,h,x,hx=>by
  rcases List.mem_append.mp (show x∈a.post++b.post++[.fold u a b] from hx) with z | z
  ·rcases List.mem_append.mp z with z | z
   ·exact nB g a (λe=>h (by unfold rl;rw [e])) x z
   ·refine nB g b (λe=>h ?_) x z;unfold rl;rw [e];cases rl g a <;> rfl
  ·rw [List.mem_singleton.mp z];exact h
 | .never,h,x,hx=>by rw [List.mem_singleton.mp hx];exact h
 | .always,h,x,hx=>by rw [List.mem_singleton.mp hx];exact h
 | .lp,h,x,hx=>by rw [List.mem_singleton.mp hx];exact h
 | .lq,h,x,hx=>by rw [List.mem_singleton.mp hx];exact h
theorem Dn {g:List T3} {ts:List Tr} {rs:List T3} (e:ts.map (rl g)=rs.map some) {i:Nat} {t:Tr} (h:ts[i]?=some t):rl g t=some (rs.getD i Hu.z0):=by
 have z:(ts.map (rl g))[i]?=some (rl g t):=by rw [List.getElem?_map,h];rfl
 rw [e,List.getElem?_map] at z;rw [List.getD_eq_getElem?_getD];cases q:rs[i]? with
 | none=>rw [q] at z;cases z
 | some r=>rw [q] at z;exact (Option.some.inj z).symm
theorem qR {g:List T3} {ts:List Tr} {rs:List T3} (e:ts.map (rl g)=rs.map some) {gr:Gr} {t:Tr} (h:GrT ts gr t):Hu.aV g (Hu.choice rs (gu gr))=rl g t:=by
 cases gr with
 | ne=>cases t <;> first | exact h.elim | exact Hu.fY _ _
 | al=>cases t <;> first | exact h.elim | exact Hu.fY _ _
 | p=>cases t <;> first | exact h.elim | exact Hu.fY _ _
 | q=>cases t <;> first | exact h.elim | exact Hu.fY _ _
 | no i =>
  cases t <;> first | exact h.elim | skip
  rename_i t;have z:=Dn e (show ts[i]?=some t from h);show Hu.aV g (Hu.z0,Hu.mi Hu.al (rs.getD i Hu.z0),Hu.mi Hu.al (rs.getD i Hu.z0))=(rl g t).map _;rw [z,Hu.fY];rfl
 | fold u i j =>
  cases t <;> first | exact h.elim | skip
  rename_i v a b;obtain ⟨rfl,h1,h2⟩:=h;have z1:=Dn e h1;have z2:=Dn e h2;show Hu.aV g (Hu.fch (u5 u) (rs.getD i Hu.z0) (rs.getD j Hu.z0))=rl g (.fold u a b)
  conv=>rhs;unfold rl
  rw [z1,z2]
theorem run_tab (g:List T3) {gs:List Gr} {ts:List Tr} (h:Tab gs ts):(∃ rs,Hu.run g (gs.map gu) []=.rules rs/\ts.map (rl g)=rs.map some)\/(∃ k t,Hu.run g (gs.map gu) []=.mixed k t)/\∃ x∈ts,rl g x=none:=by
 induction h with
 | nil=>exact .inl ⟨[],rfl,rfl⟩
 | snoc hT r ih =>
  rename_i gs ts gr t;rw [List.map_append];show (∃ rs,Hu.run g (gs.map gu++[gu gr]) []=_/\_)\/_;rw [Hu.oS];rcases ih with ⟨rs,e,q⟩ | ⟨⟨k,tt,e⟩,x,hx,q⟩
  ·rw [e];dsimp only;rw [qR q r];cases z:rl g t with
   | some x=>exact .inl ⟨rs++[x],rfl,by rw [List.map_append,List.map_append,q];simp [z]⟩
   | none =>
    refine .inr ⟨⟨rs.length,(Hu.choice rs (gu gr)).1,?_⟩,t,List.mem_append_right _ List.mem_cons_self,z⟩;show Hu.run g (gs.map gu++[gu gr]) []=_;rw [Hu.oS,e];dsimp only;rw [qR q r,z]
  ·rw [e];refine .inr ⟨⟨k,tt,?_⟩,x,List.mem_append_left _ hx,q⟩;show Hu.run g (gs.map gu++[gu gr]) []=_;rw [Hu.oS,e]
theorem tab_ok {gs:List Gr} {ts:List Tr} (h:Tab gs ts):lF (gs.map gu):=λk r hr=>by
 rw [List.getElem?_map] at hr;cases z:gs[k]? with
 | none=>rw [z] at hr;cases hr
 | some g=>rw [z] at hr;cases hr;exact Cf (h.ok k g z)
structure iS (rs:List Rw) (ts:List Tr) (rows:List Hu.Row):Prop where
 gr:∃ gs:List Gr,rs=gs.map Gr.rw/\Tab gs ts/\rows=gs.map gu
theorem iS.ok {rs:List Rw} {ts:List Tr} {rows:List Hu.Row} (R:iS rs ts rows):lF rows:=by
 obtain ⟨gs,_,h,rfl⟩:=R.gr;exact tab_ok h
theorem iS.len {rs:List Rw} {ts:List Tr} {rows:List Hu.Row} (R:iS rs ts rows):rows.length=rs.length/\rs.length=ts.length:=by
 obtain ⟨gs,rfl,h,rfl⟩:=R.gr;exact ⟨by simp,by rw [List.length_map];exact h.len⟩
theorem iS.fd {rs:List Rw} {ts:List Tr} {rows:List Hu.Row} (R:iS rs ts rows):Hu.fds rows=rs.countP fdK:=by
 obtain ⟨gs,rfl,h,rfl⟩:=R.gr;exact EG gs
theorem iS.dat {K:W.Frag} {H:Hp} {rs:List Rw} {ts:List Tr} {rows:List Hu.Row} {us:List V} (R:iS rs ts rows) (al:bW (RwV H) us rs):DatAll K H (rows.map kU) us:=by
 obtain ⟨gs,rfl,h0,rfl⟩:=R.gr;clear R h0
 induction gs generalizing us with
 | nil=>cases al;rfl
 | cons g r ih =>
  cases al with
  | cons h k=>exact ⟨_,_,rfl,As h,ih k⟩
theorem iS.run {rs:List Rw} {ts:List Tr} {rows:List Hu.Row} (R:iS rs ts rows) (g:List T3):(∃ out,Hu.run g rows []=.rules out/\ts.map (rl g)=out.map some)\/(∃ k t,Hu.run g rows []=.mixed k t)/\∃ x∈ts,rl g x=none:=by
 obtain ⟨gs,_,h,rfl⟩:=R.gr;exact run_tab g h
theorem vL (t:Tr):∃ ts rows,iS t.rows (ts++[t]) rows/\∀ x∈ts++[t],x∈t.post:=by
 obtain ⟨gs,ts,e,h,hp,_⟩:=Di t;exact ⟨ts,_,⟨gs,e,h,rfl⟩,hp⟩
def rowsT (t:Tr):List Hu.Row:=Classical.choose (Classical.choose_spec (vL t))
theorem Dk (t:Tr):∃ ts,iS t.rows (ts++[t]) (rowsT t)/\∀ x∈ts++[t],x∈t.post:=⟨_,Classical.choose_spec (Classical.choose_spec (vL t))⟩
structure RowsS (t:Tr) (rows:List Hu.Row):Prop where
 ok:lF rows
 pos:0 < rows.length
 len:rows.length<=t.size
 fd:Hu.fds rows<=t.nf
 dat:∀{K:W.Frag} {H:Hp} {us:List V},bW (RwV H) us t.rows->DatAll K H (rows.map kU) us
 run:∀ g:List T3,(∃ out r,Hu.run g rows []=.rules out/\out.getLast?=some r/\rl g t=some r)\/(∃ k x,Hu.run g rows []=.mixed k x)/\rl g t=none
theorem Dj (t:Tr):t.rows.length<=t.size:=by
 have:=eQ t [];show (t.putR []).1.length<=_;simpa using this
theorem rowsS (t:Tr):RowsS t (rowsT t):=by
 obtain ⟨ts,R,hp⟩:=Dk t;obtain ⟨l1,l2⟩:=R.len;have l3:=Dj t;refine ⟨R.ok,by rw [l1,l2];simp,by omega,?_,λal=>R.dat al,λg=>?_⟩
 ·rw [R.fd];have:=kh t [];rw [List.countP_nil,Nat.zero_add] at this;exact this
 ·rcases R.run g with ⟨out,e,q⟩ | ⟨e,x,hx,q⟩
  ·have z:(out.map some).getLast?=some (rl g t):=by rw [<- q,List.map_append];simp
   rw [List.getLast?_map] at z;cases y:out.getLast? with
   | none=>rw [y] at z;cases z
   | some r=>rw [y] at z;exact .inl ⟨out,r,e,y,(Option.some.inj z).symm⟩
  ·refine .inr ⟨e,?_⟩;cases y:rl g t with
   | none=>rfl
   | some r=>exact absurd q (nB g t (by rw [y];exact λz=>nomatch z) x (hp x hx))
def mL (a b:Tr):List Rw:=(b.putR (a.putR []).1).1
structure RowsB (a b:Tr) (rows:List Hu.Row):Prop where
 ok:lF rows
 pos:0 < rows.length
 len:rows.length<=a.size+b.size
 dat:∀{K:W.Frag} {H:Hp} {us:List V},bW (RwV H) us (mL a b)->DatAll K H (rows.map kU) us
 ia:(a.putR []).2 < rows.length
 ib:(b.putR (a.putR []).1).2 < rows.length
 fd:Hu.fds rows<=a.nf+b.nf
 run:∀ g:List T3,(∃ out x y,Hu.run g rows []=.rules out/\out[(a.putR []).2]?=some x/\rl g a=some x/\out[(b.putR (a.putR []).1).2]?=some y/\rl g b=some y)\/(∃ k x,Hu.run g rows []=.mixed k x)/\(rl g a=none\/rl g b=none)
theorem Af {α β:Type} {f:α->Option β} {ts:List α} {out:List β} (e:ts.map f=out.map some) {i:Nat} {t:α} (h:ts[i]?=some t):∃ x,out[i]?=some x/\f t=some x:=by
 have z:(ts.map f)[i]?=some (f t):=by rw [List.getElem?_map,h];rfl
 rw [e,List.getElem?_map] at z;cases q:out[i]? with
 | none=>rw [q] at z;cases z
 | some r=>rw [q] at z;exact ⟨r,rfl,(Option.some.inj z).symm⟩
theorem vM (a b:Tr):∃ rows,RowsB a b rows/\(Tr.fold .leads a b).rows=mL a b++[dj "leads" [(a.putR []).2,(b.putR (a.putR []).1).2]]:=by
 obtain ⟨gs,e,a1,a2,a3,a4,a5⟩:=qk a (gs:=[]) (ts:=[]) .nil;obtain ⟨gs2,e2,b1,b2,b3,b4,b5⟩:=qk b a2;have a1':(a.putR []).1=gs.map Gr.rw:=a1;rw [<- a1'] at b1 b3;simp only [List.nil_append] at a2 a3 b2 b3;have R:iS (mL a b) (e++e2) (gs2.map gu):=⟨gs2,b1,b2,rfl⟩;obtain ⟨l1,l2⟩:=R.len;have lb:=zv b (a.putR []).1;have la0:=zv a [];have h1:=eQ a [];have h2:=eQ b (a.putR []).1;have ha3:(e++e2)[(a.putR []).2]?=some a:=kC a3;have la:(a.putR []).2 < (e++e2).length:=(List.getElem?_eq_some_iff.mp ha3).1;have lB:(mL a b).length=(b.putR (a.putR []).1).1.length:=rfl;refine ⟨_,⟨R.ok,by omega,by simp at h1;omega,λal=>R.dat al,by omega,by omega,(by rw [R.fd];have p1:=kh a [];have p2:=kh b (a.putR []).1;rw [List.countP_nil] at p1;show ((b.putR (a.putR []).1).1).countP fdK<=_;omega),λg=>?_⟩,?_⟩
 ·rcases R.run g with ⟨out,eo,q⟩ | ⟨eo,x,hx,q⟩
  ·obtain ⟨x,x1,x2⟩:=Af q ha3;obtain ⟨y,y1,y2⟩:=Af q b3;exact .inl ⟨out,x,y,eo,x1,x2,y1,y2⟩
  ·refine .inr ⟨eo,?_⟩;rcases List.mem_append.mp hx with z | z
   ·refine .inl ?_;cases y:rl g a with
    | none=>rfl
    | some r=>exact absurd q (nB g a (by rw [y];exact λz=>nomatch z) x (a4 x z))
   ·refine .inr ?_;cases y:rl g b with
    | none=>rfl
    | some r=>exact absurd q (nB g b (by rw [y];exact λz=>nomatch z) x (b4 x z))
 ·show (aN (mL a b) (dj "leads" [(a.putR []).2,(b.putR (a.putR []).1).2])).1=_;unfold aN;cases z:idx (mL a b) (dj "leads" [(a.putR []).2,(b.putR (a.putR []).1).2]) with
  | none=>rfl
  | some i =>
   exfalso;have ei:=ur z;rw [show mL a b=gs2.map Gr.rw from b1,List.getElem?_map] at ei;cases y:gs2[i]? with
   | none=>rw [y] at ei;cases ei
   | some k =>
    rw [y] at ei;have ek:k=Gr.fold .leads (a.putR []).2 (b.putR (a.putR []).1).2:=CZ (Option.some.inj ei);subst ek;obtain ⟨t',t1,t2⟩:=b2.at y;have et:=t2.uniq (show GrT (e++e2) (Gr.fold .leads (a.putR []).2 (b.putR (a.putR []).1).2) (.fold .leads a b) from ⟨rfl,ha3,b3⟩);subst et;have sz:(Tr.fold .leads a b).size=a.size+b.size+1:=rfl;rcases List.mem_append.mp (List.mem_of_getElem? t1) with w | w
    ·have:=dY a _ (a4 _ w);omega
    ·have:=dY b _ (b4 _ w);omega
def qi (a b:Tr):List Hu.Row:=Classical.choose (vM a b)
theorem ma (a b:Tr):RowsB a b (qi a b)/\(Tr.fold .leads a b).rows=mL a b++[dj "leads" [(a.putR []).2,(b.putR (a.putR []).1).2]]:=Classical.choose_spec (vM a b)
end Mine
namespace L2
open PySem PySem.Spec PyProof.Rows
inductive Lt where
 | non | bl (b:Bool) | int (i:Int) | str (x:Str) | var (i:Nat) | tup (xs:List Lt) | lst (xs:List Lt) | dic
def visB (sc:Scope) (x:Str):Bool:=match sc.names.lookup x with
 | some .local=>true
 | some .cell=>true
 | some .free=>true
 | _=>false
mutual
def litE (N:List Str) (sc:Scope):Expr->Option Lt
 | .Constant .none _ _=>some .non
 | .Constant (.bool b) _ _=>some (.bl b)
 | .Constant (.int i) _ _=>some (.int i)
 | .Constant (.str x) _ _=>some (.str x)
 | .UnaryOp .USub (.Constant (.int i) _ _) _=>some (.int (-i))
 | .Name x _=>match N.idxOf? x with
  | some i=>if visB sc x && !(x == ("__debug__":Str)) && !(x == ("__classdict__":Str)) then some (.var i) else none
  | none=>none
 | .Tuple es _ _=>match om N sc es with
  | some xs=>some (.tup xs)
  | none=>none
 | .List es _=>match om N sc es with
  | some xs=>some (.lst xs)
  | none=>none
 | .Dict [] [] _=>some .dic
 | _=>none
def om (N:List Str) (sc:Scope):List Expr->Option (List Lt)
 | []=>some []
 | e::es=>match litE N sc e,om N sc es with
  | some x,some xs=>if plainArg e then some (x::xs) else none
  | _,_=>none
end
mutual
def Cq:Lt->TE
 | .non=>tC .non
 | .bl b=>tC (.bl b)
 | .int i=>tC (.int i)
 | .str x=>tC (.str x)
 | .var i=>tVar i
 | .tup xs=>tTup (uU xs)
 | .lst xs=>tLst (uU xs)
 | .dic=>Cr
def uU:List Lt->TA
 | []=>pG
 | x::xs=>fo (Cq x) (uU xs)
end
mutual
def LtV (σ:St) (H:Hp):Lt->V->Prop
 | .non,v=>v=.non
 | .bl b,v=>v=.bl b
 | .int i,v=>v=.int i
 | .str x,v=>v=.str x
 | .var i,v=>σ[i]?=some (some v)
 | .tup xs,v=>∃ a us,v=.ref a/\H a=some (.tup us)/\mQ σ H xs us
 | .lst xs,v=>∃ a us,v=.ref a/\H a=some (.lst us)/\mQ σ H xs us
 | .dic,v=>∃ a,v=.ref a/\H a=some (.dK [])
def mQ (σ:St) (H:Hp):List Lt->List V->Prop
 | [],us=>us=[]
 | x::xs,us=>∃ u r,us=u::r/\LtV σ H x u/\mQ σ H xs r
end
mutual
def zL (σ:St):Lt->Bool
 | .var i=>match σ[i]? with | some (some _)=>true | _=>false
 | .tup xs=>decide (xs.length<=1000) && lA σ xs
 | .lst xs=>decide (xs.length<=1000) && lA σ xs
 | _=>true
def lA (σ:St):List Lt->Bool
 | []=>true
 | x::xs=>zL σ x && lA σ xs
end
mutual
theorem LtV.same {σ:St} {H H':Hp} (s:aK H H'):∀{l:Lt} {v:V},LtV σ H l v->LtV σ H' l v
 | .non,_,h=>h
 | .bl _,_,h=>h
 | .int _,_,h=>h
 | .str _,_,h=>h
 | .var _,_,h=>h
 | .tup _,_,⟨a,us,h1,h2,h3⟩=>⟨a,us,h1,s _ _ h2,mQ.same s h3⟩
 | .lst _,_,⟨a,us,h1,h2,h3⟩=>⟨a,us,h1,s _ _ h2,mQ.same s h3⟩
 | .dic,_,⟨a,h1,h2⟩=>⟨a,h1,s _ _ h2⟩
theorem mQ.same {σ:St} {H H':Hp} (s:aK H H'):∀{l:List Lt} {us:List V},mQ σ H l us->mQ σ H' l us
 | [],_,h=>h
 | _::_,_,⟨u,r,h1,h2,h3⟩=>⟨u,r,h1,LtV.same s h2,mQ.same s h3⟩
end
theorem mQ.len {σ:St} {H:Hp}:∀{l:List Lt} {us:List V},mQ σ H l us->us.length=l.length
 | [],_,h=>by cases (show _=([]:List V) from h);rfl
 | _::_,_,⟨u,r,h1,_,h3⟩=>by subst h1;simp [mQ.len h3]
theorem sameNew {H:Hp} {p:Addr} (h:H p=none) (o:HO):aK H (upd H p o):=λb u z=>by rw [au (aw z h)];exact z
mutual
theorem yj {σ:St}:∀(l:Lt) {H:Hp} {Q:VK},zL σ l=true->(∀ v H',aK H H'->LtV σ H' l v->Q v H')->Cq l σ H Q
 | .non,H,Q,_,q=>q _ _ (λ_ _ z=>z) rfl
 | .bl _,H,Q,_,q=>q _ _ (λ_ _ z=>z) rfl
 | .int _,H,Q,_,q=>q _ _ (λ_ _ z=>z) rfl
 | .str _,H,Q,_,q=>q _ _ (λ_ _ z=>z) rfl
 | .var i,H,Q,h,q=>by
  have h':(match σ[i]? with | some (some _)=>true | _=>false)=true:=h
  cases e:σ[i]? with
  | none=>rw [e] at h';cases h'
  | some o =>
   cases o with
   | none=>rw [e] at h';cases h'
   | some v=>exact ⟨v,e,q v H (λ_ _ z=>z) e⟩
 | .tup xs,H,Q,h,q=>by
  have h':(decide (xs.length<=1000) && lA σ xs)=true:=h;rw [Bool.and_eq_true] at h';refine uj xs h'.2 λus H1 s1 l1=>⟨?_,λp hp=>?_⟩
  ·rw [l1.len];exact Nat.le_trans (of_decide_eq_true h'.1) (by decide)
  ·have s2:=sameNew hp (.tup us);exact q _ _ (λb o z=>s2 _ _ (s1 _ _ z)) ⟨p,us,rfl,ae,l1.same s2⟩
 | .lst xs,H,Q,h,q=>by
  have h':(decide (xs.length<=1000) && lA σ xs)=true:=h;rw [Bool.and_eq_true] at h';refine uj xs h'.2 λus H1 s1 l1=>⟨?_,λp hp=>?_⟩
  ·rw [l1.len];exact Nat.le_trans (of_decide_eq_true h'.1) (by decide)
  ·have s2:=sameNew hp (.lst us);exact q _ _ (λb o z=>s2 _ _ (s1 _ _ z)) ⟨p,us,rfl,ae,l1.same s2⟩
 | .dic,H,Q,_,q=>λp hp=>q _ _ (sameNew hp _) ⟨p,rfl,ae⟩
theorem uj {σ:St}:∀(l:List Lt) {H:Hp} {Q:List V->Hp->Prop},lA σ l=true->(∀ us H',aK H H'->mQ σ H' l us->Q us H')->uU l σ H Q
 | [],H,Q,_,q=>q [] H (λ_ _ z=>z) rfl
 | x::xs,H,Q,h,q=>by
  have h':(zL σ x && lA σ xs)=true:=h;rw [Bool.and_eq_true] at h';refine yj x h'.1 λv H1 s1 l1=>uj xs h'.2 λus H2 s2 l2=>?_;exact q _ _ (λb o z=>s2 _ _ (s1 _ _ z)) ⟨v,us,rfl,l1.same s2,l2⟩
end
section
variable {X:Cx}
theorem Ep {N:List Str} {x:Str} {i:Nat} (h:N.idxOf? x=some i):N[i]?=some x:=by
 have:=List.of_findIdx?_eq_some (p:=λy=>y == x) (xs:=N) h;cases e:N[i]? with
 | none=>rw [e] at this;cases this
 | some y =>
  rw [e] at this;have:(y == x)=true:=this;rw [beq_iff_eq] at this;rw [this]
theorem vis_of {sc:Scope} {x:Str} (h:visB sc x=true):Vis sc x:=by
 unfold visB at h;unfold Vis;cases e:sc.names.lookup x with
 | none=>rw [e] at h;cases h
 | some k =>
  rw [e] at h;cases k with
  | «local»=>exact .inl rfl
  | cell=>exact .inr (.inl rfl)
  | free=>exact .inr (.inr rfl)
  | globalExplicit=>cases h
  | globalImplicit=>cases h
mutual
theorem zA {N:List Str} {sc:Scope} (eN:X.N=N) (es:X.env.scope=sc):∀(e:Expr) {l:Lt},litE N sc e=some l->PE X e (Cq l):=λe l h=>by
 cases e with
 | Constant c k p =>
  cases c with
  | none=>cases h;exact cQ
  | bool b=>cases h;exact kK
  | int i=>cases h;exact aq
  | str x=>cases h;exact aI
  | _=>cases h
 | UnaryOp o a p =>
  cases o with
  | USub =>
   cases a with
   | Constant c k q =>
    cases c with
    | int i =>
     cases h
     intro pins s σ H Q I q;exact pe_un pC aq pins s σ H Q I ⟨i,rfl,q⟩
    | _=>cases h
   | _=>cases h
  | _=>cases h
 | Name x p =>
  unfold litE at h;cases z:N.idxOf? x with
  | none=>rw [z] at h;cases h
  | some i =>
   rw [z] at h;dsimp only at h
   by_cases c:(visB sc x && !(x == ("__debug__":Str)) && !(x == ("__classdict__":Str)))=true
   ·rw [if_pos c] at h;cases h
    rw [Bool.and_eq_true,Bool.and_eq_true] at c;exact DC (by rw [eN];exact Ep z) (by rw [es];exact vis_of c.1.1) (by simpa using c.1.2) (by simpa using c.2)
   ·rw [if_neg c] at h;cases h
 | Tuple xs c p =>
  unfold litE at h;cases z:om N sc xs with
  | none=>rw [z] at h;cases h
  | some ls=>rw [z] at h;cases h;exact ba (uc eN es xs z)
 | List xs p =>
  unfold litE at h;cases z:om N sc xs with
  | none=>rw [z] at h;cases h
  | some ls=>rw [z] at h;cases h;exact bI (uc eN es xs z)
 | Dict ks vs p =>
  cases ks with
  | nil =>
   cases vs with
   | nil=>cases h;exact DF
   | cons _ _=>cases h
  | cons _ _=>cases h
 | _=>cases h
theorem uc {N:List Str} {sc:Scope} (eN:X.N=N) (es:X.env.scope=sc):∀(xs:List Expr) {ls:List Lt},om N sc xs=some ls->PA X xs (uU ls)
 | [],ls,h=>by cases h;exact af
 | e::r,ls,h=>by
  unfold om at h;cases z1:litE N sc e with
  | none=>rw [z1] at h;cases h
  | some x =>
   cases z2:om N sc r with
   | none=>rw [z1,z2] at h;cases h
   | some ys =>
    rw [z1,z2] at h;dsimp only at h
    by_cases c:plainArg e=true
    ·rw [if_pos c] at h;cases h
     exact paS (zA eN es e z1) (uc eN es r z2) c
    ·rw [if_neg c] at h;cases h
end
structure qW (X:Cx) (ss:List Stmt) (t:TS):Prop where
 h:PSs X ss t
theorem nE {st:Stmt} {rest:List Stmt} {t u:TS} (h1:PS X st t) (h2:qW X rest u):PSs X (st::rest) (tSeq t u):=ah h1 h2.h
end
structure HE (X:Cx) (e:Expr) (t:TE):Prop where
 h:PE X e t
structure HA (X:Cx) (es:List Expr) (t:TA):Prop where
 h:PA X es t
structure HP (X:Cx) (pos:Pos) (ks:List (Option Expr)) (vs:List Expr) (trs:List (TE×TE)):Prop where
 h:PPs X pos ks vs trs
structure HT (X:Cx) (e:Expr) (t:TT):Prop where
 h:PT X e t
structure HS (X:Cx) (s:Stmt) (t:TS):Prop where
 h:PS X s t
section
variable {X:Cx} {e f a b:Expr} {es fs:List Expr} {t:TA} {te ta tb:TE} {k j:Nat} {p pos:Pos} {i:Int} {x:Str}
theorem gZ:HE X (.Constant (.int i) j pos) (tC (.int i)):=⟨aq⟩
theorem gq:HE X (.Constant (.str x) j pos) (tC (.str x)):=⟨aI⟩
theorem Eu:HE X (.Constant .none j pos) (tC .non):=⟨cQ⟩
theorem hv (i:Nat) {x:Str} {pos:Pos} (hN:X.N[i]?=some x:=by rfl) (hv:Vis X.env.scope x:=by first | exact Or.inl rfl | exact Or.inr (Or.inl rfl) | exact Or.inr (Or.inr rfl)) (hd:(x == ("__debug__":Str))=false:=by decide) (hd2:(x == ("__classdict__":Str))=false:=by decide):HE X (.Name x pos) (tVar i):=⟨pv i hN hv hd hd2⟩
theorem cw (h:HA X es t):HE X (.Tuple es k pos) (tTup t):=⟨ba h.h⟩
theorem he_lst (h:HA X es t):HE X (.List es pos) (tLst t):=⟨bI h.h⟩
theorem bA:HA X [] pG:=⟨af⟩
theorem bb (ha:HE X e te) (hr:HA X es t) (h:plainArg e=true:=by rfl):HA X (e::es) (fo te t):=⟨aa ha.h hr.h (iU h)⟩
theorem bB (hr:HA X es t):HA X (.Constant (.int i) j p::es) (fo (tC (.int i)) t):=⟨aa aq hr.h⟩
theorem kO (ha:HE X (.Tuple fs k p) te) (hr:HA X es t):HA X (.Tuple fs k p::es) (fo te t):=⟨aa ha.h hr.h⟩
theorem pj:HP X pos [] [] []:=⟨pps_nil⟩
theorem eY {k v:Expr} {ks:List (Option Expr)} {vs:List Expr} {tk tv:TE} {trs:List (TE×TE)} (hk:HE X k tk) (hv:HE X v tv) (hr:HP X pos ks vs trs):HP X pos (some k::ks) (v::vs) ((tk,tv)::trs):=⟨Dz hk.h hv.h hr.h⟩
theorem pq {keys:List (Option Expr)} {values:List Expr} {trs:List (TE×TE)} (h:HP X pos keys values trs) (hall:keys.all (·.isSome)=true) (hl:keys.length=values.length) (h0:keys≠[]) (h15:keys.length<=15):HE X (.Dict keys values pos) (tDisp trs):=⟨pe_disp h.h hall hl h0 h15⟩
theorem jN {n:Nat} {ps:List Str} {sp:Sp} (D:Def X.prog X.w X.K X.mg X.base n x ps sp) (hr:dq n X.A) (hg:Gl X x) (ha:HA X (e::es) t) (hdb:(x == ("__debug__":Str))=false:=by decide) (hp:plainArg e=true:=by rfl) (hpl:(backTo pos (starEach es X.env)).any (·.1)=false:=by rfl):HE X (.Call (.Name x p) (e::es) [] pos) (pH sp [] E0 t):=⟨aE D hr hg ha.h hdb (iU hp) hpl⟩
theorem zQ {op:UnaryOp} {r:V->Hp->VK->Prop} (ho:UnR X (unaryOp op) r) (ha:HE X a ta):HE X (.UnaryOp op a pos) (tUn r ta):=⟨pe_un ho ha.h⟩
theorem oq {op:Operator} {r:R2} (ho:OpR X (binaryOp op) r) (ha:HE X a ta) (hb:HE X b tb):HE X (.BinOp a op b pos) (tOp r ta tb):=⟨aL ho ha.h hb.h⟩
theorem ow {r:R2} (hr:IxR X r) (ha:HE X a ta) (hb:HE X b tb) (hs:Ah b):HE X (.Subscript a b pos) (tOp r ta tb):=⟨aG hr ha.h hb.h hs⟩
theorem he_dget (hu:X.A.units+1 < cLine) (ho:HE X a ta) (hi:HE X b tb) (hs:NoSl b):HE X (.Subscript a b pos) (tDGet ta tb):=⟨oV hu ho.h hi.h hs⟩
theorem qD {id:String} {r:List V->Hp->VK->Prop} (hc:fq X (.builtin id) r) (hg:Gl X x) (hm:X.mg x=none) (hv:bootBuiltins x=some (.builtin id)) (ha:HA X (e::es) t) (hn:x≠"__name__":=by decide) (hdb:(x == ("__debug__":Str))=false:=by decide) (hp:plainArg e=true:=by rfl) (hpl:(backTo pos (starEach es X.env)).any (·.1)=false:=by rfl):HE X (.Call (.Name x p) (e::es) [] pos) (tCB r t):=⟨aC hc hg hm hv ha.h hn hdb (iU hp) hpl⟩
theorem pe {op:CmpOp} {r:R2} (ho:OpR X (compareOp op) r) (ha:HE X a ta) (hb:HE X b tb) (hm:behindInMarks op b=false):HT X (.Compare a [op] [b] pos) (Cm (tOp r ta tb)):=⟨aA ho ha.h hb.h hm⟩
theorem un {ss:List Stmt} {t:TS} (h:qW X ss t):PSs X ss t:=h.h
theorem pf:qW X [] tNext:=⟨aH⟩
theorem my {st:Stmt} {t:TS} (h:HS X st t):qW X [st] t:=⟨ao h.h⟩
theorem bz {st:Stmt} {rest:List Stmt} {t u:TS} (h1:HS X st t) (h2:qW X rest u):qW X (st::rest) (tSeq t u):=⟨ah h1.h h2.h⟩
theorem zP {c:Expr} {b e:List Stmt} {tc:TT} {t u:TS} (hc:HT X c tc) (hb:qW X b t) (he:qW X e u):HS X (.If c b e pos) (tIfS tc t u):=⟨aP hc.h hb.h he.h⟩
theorem ym (h:HE X e te):HS X (.Return (some e) pos) (Cn te):=⟨av h.h⟩
theorem cY {i:Nat} {pos':Pos} (hN:X.N.Nodup) (hi:X.N[i]?=some x) (hx:Loc X.env.scope x) (he:HE X e te) (hs:swapsWith e (some (.Name x pos')) pos.line X.env=pure false:=by rfl) (hf:X.fn x=true\/X.env.scope.names.lookup x=some .local:=by first | exact .inl rfl | exact .inr rfl | assumption):HS X (.Assign [.Name x pos'] e pos) (tAsg te (sM i)):=⟨aJ hN hi hx he.h hs hf⟩
end
theorem jM {X:Cx} {e:Expr} {N:List Str} {sc:Scope} {l:Lt} (h:litE N sc e=some l) (eN:X.N=N:=by rfl) (es:X.env.scope=sc:=by rfl):HE X e (Cq l):=⟨zA eN es e h⟩
end L2
namespace Mine
open PySem L2
inductive LtT (A B:Tr):Lt->Tr->Prop where
 | a:LtT A B (.var 1) A
 | b:LtT A B (.var 2) B
 | al:LtT A B (.tup [.str "always"]) .always
 | p:LtT A B (.tup [.str "p"]) .lp
 | q:LtT A B (.tup [.str "q"]) .lq
 | no {x t}:LtT A B x t->LtT A B (.tup [.str "not",x]) (.no t)
 | fold (u:W5) {x y s t}:LtT A B x s->LtT A B y t->LtT A B (.tup [.str u.str,x,y]) (.fold u s t)
theorem LtT.tu {A B:Tr} {σ:St} {H:Hp} {a b:Addr} (ea:σ[1]?=some (some (.ref a))) (ta:Tu H a A) (eb:σ[2]?=some (some (.ref b))) (tb:Tu H b B) {l:Lt} {t:Tr} (h:LtT A B l t):∀{v:V},LtV σ H l v->TuV H v t:=by
 induction h with
 | a =>
  intro v lv;have e:σ[1]?=some (some v):=lv;rw [ea] at e;cases e
  exact ⟨a,rfl,ta⟩
 | b =>
  intro v lv;have e:σ[2]?=some (some v):=lv;rw [eb] at e;cases e
  exact ⟨b,rfl,tb⟩
 | al =>
  intro v lv;obtain ⟨p,us,rfl,e,u,r,rfl,hu,hr⟩:=lv;cases (show u=.str "always" from hu)
  cases (show r=[] from hr)
  exact ⟨p,rfl,.always e⟩
 | p =>
  intro v lv;obtain ⟨p,us,rfl,e,u,r,rfl,hu,hr⟩:=lv;cases (show u=.str "p" from hu)
  cases (show r=[] from hr)
  exact ⟨p,rfl,.lp e⟩
 | q =>
  intro v lv;obtain ⟨p,us,rfl,e,u,r,rfl,hu,hr⟩:=lv;cases (show u=.str "q" from hu)
  cases (show r=[] from hr)
  exact ⟨p,rfl,.lq e⟩
 | no h ih =>
  intro v lv;obtain ⟨p,us,rfl,e,u,r,rfl,hu,x,r',rfl,hx,hr⟩:=lv;cases (show u=.str "not" from hu)
  cases (show r'=[] from hr)
  obtain ⟨c,rfl,tc⟩:=ih hx;exact ⟨p,rfl,.no e tc⟩
 | fold w h1 h2 ih1 ih2 =>
  intro v lv;obtain ⟨p,us,rfl,e,u,r,rfl,hu,x,r',rfl,hx,y,r'',rfl,hy,hr⟩:=lv;cases (show u=.str w.str from hu)
  cases (show r''=[] from hr)
  obtain ⟨c,rfl,tc⟩:=ih1 hx;obtain ⟨d,rfl,td⟩:=ih2 hy;exact ⟨p,rfl,.fold e tc td⟩
def PrV (H:Hp) (v:V) (p:Tr×Tr):Prop:=∃ a x y,v=.ref a/\H a=some (.tup [.ref x,.ref y])/\Tu H x p.1/\Tu H y p.2
theorem PrV.to {H H':Hp} (s:aK H H') (v:V) (p:Tr×Tr) (h:PrV H v p):PrV H' v p:=by
 obtain ⟨a,x,y,rfl,e,t1,t2⟩:=h;exact ⟨a,x,y,rfl,s _ _ e,t1.to (Kp.of s),t2.to (Kp.of s)⟩
def LtPr (A B:Tr) (l:Lt) (p:Tr×Tr):Prop:=∃ x y,l=.tup [x,y]/\LtT A B x p.1/\LtT A B y p.2
theorem yi {A B:Tr} {σ:St} {H:Hp} {a b:Addr} (ea:σ[1]?=some (some (.ref a))) (ta:Tu H a A) (eb:σ[2]?=some (some (.ref b))) (tb:Tu H b B):∀{xs:List Lt} {ps:List (Tr×Tr)} {us:List V},bW (LtPr A B) xs ps->mQ σ H xs us->bW (PrV H) us ps
 | [],_,us,h,lv=>by
  cases h
  cases (show us=[] from lv)
  exact .nil
 | x::xs,_,us,h,lv=>by
  cases h with
  | cons h1 h2 =>
   obtain ⟨u,r,rfl,l1,l2⟩:=lv;obtain ⟨y,z,rfl,k1,k2⟩:=h1;obtain ⟨p,ws,rfl,e,u1,r1,rfl,hu1,u2,r2,rfl,hu2,hr⟩:=l1;cases (show r2=[] from hr)
   obtain ⟨c,rfl,tc⟩:=k1.tu ea ta eb tb hu1;obtain ⟨d,rfl,td⟩:=k2.tu ea ta eb tb hu2;exact .cons ⟨p,c,d,rfl,e,tc,td⟩ (yi ea ta eb tb h2 l2)
def twl (a b:Tr):List (Tr×Tr):=
 [(.fold .more a b,.fold .more b a),(.fold .less a b,.no (.fold .more (.no a) (.no b))),(.fold .greater a b,.fold .leads (.fold .leads a b) b),(.fold .lesser a b,.fold .less a (.fold .leads a b)),(.fold .leads a b,.fold .more (.no a) b),(a,.no (.no a)),(a,.fold .greater a (.fold .lesser a b)),(.no (.fold .greater a b),.fold .lesser (.no a) (.no b)),(.fold .leads a b,.fold .leads (.no b) (.no a)),(.fold .greater a b,.fold .more a (.fold .less b (.no a))),(.fold .less a .always,a)]
def yV:Sp:=λvs H Q _=>∃(i:Int) (x y:Addr) (a b:Tr),vs=[.int i,.ref x,.ref y]/\Tu H x a/\Tu H y b/\∀(p z w:Addr) (s t:Tr) (H':Hp),aK H H'->H' p=some (.tup [.ref z,.ref w])->Tu H' z s->Tu H' w t->(s,t)∈twl a b->Q (.ref p) H'
variable {P:Program} {w:World} {K:W.Frag} {mg:Str->Option Value} {base:Heap}
theorem DP (T:aD K mg "_law_twins" cN) (bg:mg "len"=none):Def P w K mg base 1 "_law_twins" ["_law_cell","_law_a","_law_b"] yV:=by
 refine aR T pV (λ_ _ _ _ _ _=>L2.ar3 λ_ _ _=>rfl) ?_ ?_
 ·walk_at "i1";obtain ⟨i,x,y,a,b,rfl,_⟩:=h;rfl
 walk_at "i2";obtain ⟨i,x,y,a,b,rfl,ta,tb,q⟩:=h;have nd:=pV.nd;refine ⟨_,un (bz (cY (i:=3) nd rfl (Or.inl rfl) (jM (N:=["_law_cell","_law_a","_law_b","_law_some"]) (sc:=ag cN) (l:=(.lst [(.tup [(.tup [(.str "more"),(.var 1),(.var 2)]),(.tup [(.str "more"),(.var 2),(.var 1)])]),(.tup [(.tup [(.str "less"),(.var 1),(.var 2)]),(.tup [(.str "not"),(.tup [(.str "more"),(.tup [(.str "not"),(.var 1)]),(.tup [(.str "not"),(.var 2)])])])])])) (by kernel_rfl))) (bz (cY (i:=3) nd rfl (Or.inl rfl) (oq jG (hv 3) (jM (N:=["_law_cell","_law_a","_law_b","_law_some"]) (sc:=ag cN) (l:=(.lst [(.tup [(.tup [(.str "greater"),(.var 1),(.var 2)]),(.tup [(.str "leads"),(.tup [(.str "leads"),(.var 1),(.var 2)]),(.var 2)])])])) (by kernel_rfl)))) (bz (cY (i:=3) nd rfl (Or.inl rfl) (oq jG (hv 3) (jM (N:=["_law_cell","_law_a","_law_b","_law_some"]) (sc:=ag cN) (l:=(.lst [(.tup [(.tup [(.str "lesser"),(.var 1),(.var 2)]),(.tup [(.str "less"),(.var 1),(.tup [(.str "leads"),(.var 1),(.var 2)])])])])) (by kernel_rfl)))) (bz (cY (i:=3) nd rfl (Or.inl rfl) (oq jG (hv 3) (jM (N:=["_law_cell","_law_a","_law_b","_law_some"]) (sc:=ag cN) (l:=(.lst [(.tup [(.tup [(.str "leads"),(.var 1),(.var 2)]),(.tup [(.str "more"),(.tup [(.str "not"),(.var 1)]),(.var 2)])]),(.tup [(.var 1),(.tup [(.str "not"),(.tup [(.str "not"),(.var 1)])])])])) (by kernel_rfl)))) (bz (cY (i:=3) nd rfl (Or.inl rfl) (oq jG (hv 3) (jM (N:=["_law_cell","_law_a","_law_b","_law_some"]) (sc:=ag cN) (l:=(.lst [(.tup [(.var 1),(.tup [(.str "greater"),(.var 1),(.tup [(.str "lesser"),(.var 1),(.var 2)])])])])) (by kernel_rfl)))) (bz (cY (i:=3) nd rfl (Or.inl rfl) (oq jG (hv 3) (jM (N:=["_law_cell","_law_a","_law_b","_law_some"]) (sc:=ag cN) (l:=(.lst [(.tup [(.tup [(.str "not"),(.tup [(.str "greater"),(.var 1),(.var 2)])]),(.tup [(.str "lesser"),(.tup [(.str "not"),(.var 1)]),(.tup [(.str "not"),(.var 2)])])])])) (by kernel_rfl)))) (bz (cY (i:=3) nd rfl (Or.inl rfl) (oq jG (hv 3) (jM (N:=["_law_cell","_law_a","_law_b","_law_some"]) (sc:=ag cN) (l:=(.lst [(.tup [(.tup [(.str "leads"),(.var 1),(.var 2)]),(.tup [(.str "leads"),(.tup [(.str "not"),(.var 2)]),(.tup [(.str "not"),(.var 1)])])])])) (by kernel_rfl)))) (bz (cY (i:=3) nd rfl (Or.inl rfl) (oq jG (hv 3) (jM (N:=["_law_cell","_law_a","_law_b","_law_some"]) (sc:=ag cN) (l:=(.lst [(.tup [(.tup [(.str "greater"),(.var 1),(.var 2)]),(.tup [(.str "more"),(.var 1),(.tup [(.str "less"),(.var 2),(.tup [(.str "not"),(.var 1)])])])]),(.tup [(.tup [(.str "less"),(.var 1),(.tup [(.str "always")])]),(.var 1)])])) (by kernel_rfl)))) (my (ym (ow bG (hv 3) (oq ik (hv 0) (qD bC rfl bg (by decide+kernel) (bb (hv 3) bA))) (λ_ _=>rfl)))))))))))),?_⟩
 have step:∀{H1:Hp} {us:List V} {ps qs:List (Tr×Tr)} {xs:List Lt} {l:Addr} {R:VK},aK H H1->H1 l=some (.lst us)->bW (PrV H1) us ps->ps.length+qs.length<=100->zL [some (.int i),some (.ref x),some (.ref y),some (.ref l)] (.lst xs)=true->bW (LtPr a b) xs qs->(∀(l':Addr) (us':List V) (H2:Hp),aK H H2->H2 l'=some (.lst us')->bW (PrV H2) us' (ps++qs)->R (.ref l') H2)->
   Cq (.lst xs) [some (.int i),some (.ref x),some (.ref y),some (.ref l)] H1 (λv H2=>rCat (.ref l) v H2 R):=by
  intro H1 us ps qs xs l R s1 el al few lv lq k;refine yj _ lv λv H2 s2 lt=>?_;obtain ⟨l2,ws,rfl,el2,lvs⟩:=lt;have al2:=yi (σ:=[some (.int i),some (.ref x),some (.ref y),some (.ref l)]) rfl (ta.to (Kp.of (s1.trans s2))) rfl (tb.to (Kp.of (s1.trans s2))) lq lvs;have n1:=al.len;have n2:=al2.len;refine ⟨l,l2,us,ws,rfl,rfl,s2 _ _ el,el2,Nat.le_of_lt (aO (by omega)),λl3 h3=>?_⟩;have u3:=ak h3 (.lst (us++ws));exact k l3 _ _ ((s1.trans s2).trans u3) ae ((al.imp (PrV.to (s2.trans u3))).app (al2.imp (PrV.to u3)))
 refine yj _ rfl λv H1 s1 lt=>?_;obtain ⟨l1,us1,rfl,el1,lvs⟩:=lt;have al1:=yi (A:=a) (B:=b) (σ:=[some (.int i),some (.ref x),some (.ref y),none]) (ps:=[(.fold .more a b,.fold .more b a),(.fold .less a b,.no (.fold .more (.no a) (.no b)))]) rfl (ta.to (Kp.of s1)) rfl (tb.to (Kp.of s1)) (.cons ⟨_,_,rfl,.fold .more .a .b,.fold .more .b .a⟩ (.cons ⟨_,_,rfl,.fold .less .a .b,.no (.fold .more (.no .a) (.no .b))⟩ .nil)) lvs;refine ⟨_,rfl,step s1 el1 al1 (qs:=[(.fold .greater a b,.fold .leads (.fold .leads a b) b)]) (by show 3<=100;decide) rfl (.cons ⟨_,_,rfl,.fold .greater .a .b,.fold .leads (.fold .leads .a .b) .b⟩ .nil) λl2 us2 H2 s2 el2 al2=>?_⟩;refine ⟨_,rfl,step s2 el2 al2 (qs:=[(.fold .lesser a b,.fold .less a (.fold .leads a b))]) (by show 4<=100;decide) rfl (.cons ⟨_,_,rfl,.fold .lesser .a .b,.fold .less .a (.fold .leads .a .b)⟩ .nil) λl3 us3 H3 s3 el3 al3=>?_⟩;refine ⟨_,rfl,step s3 el3 al3 (qs:=[(.fold .leads a b,.fold .more (.no a) b),(a,.no (.no a))]) (by show 6<=100;decide) rfl (.cons ⟨_,_,rfl,.fold .leads .a .b,.fold .more (.no .a) .b⟩ (.cons ⟨_,_,rfl,.a,.no (.no .a)⟩ .nil)) λl4 us4 H4 s4 el4 al4=>?_⟩;refine ⟨_,rfl,step s4 el4 al4 (qs:=[(a,.fold .greater a (.fold .lesser a b))]) (by show 7<=100;decide) rfl (.cons ⟨_,_,rfl,.a,.fold .greater .a (.fold .lesser .a .b)⟩ .nil) λl5 us5 H5 s5 el5 al5=>?_⟩;refine ⟨_,rfl,step s5 el5 al5 (qs:=[(.no (.fold .greater a b),.fold .lesser (.no a) (.no b))]) (by show 8<=100;decide) rfl (.cons ⟨_,_,rfl,.no (.fold .greater .a .b),.fold .lesser (.no .a) (.no .b)⟩ .nil) λl6 us6 H6 s6 el6 al6=>?_⟩;refine ⟨_,rfl,step s6 el6 al6 (qs:=[(.fold .leads a b,.fold .leads (.no b) (.no a))]) (by show 9<=100;decide) rfl (.cons ⟨_,_,rfl,.fold .leads .a .b,.fold .leads (.no .b) (.no .a)⟩ .nil) λl7 us7 H7 s7 el7 al7=>?_⟩;refine ⟨_,rfl,step s7 el7 al7 (qs:=[(.fold .greater a b,.fold .more a (.fold .less b (.no a))),(.fold .less a .always,a)]) (by show 11<=100;decide) rfl (.cons ⟨_,_,rfl,.fold .greater .a .b,.fold .more .a (.fold .less .b (.no .a))⟩ (.cons ⟨_,_,rfl,.fold .less .a .al,.a⟩ .nil)) λl8 us8 H8 s8 el8 al8=>?_⟩;have ln:us8.length=11:=al8.len;have f0:=Int.fmod_nonneg_of_pos i (show (0:Int) < 11 by decide);have f1:=Int.fmod_lt_of_pos i (show (0:Int) < 11 by decide);obtain ⟨v,hv⟩:∃ v,us8[(i.fmod 11).toNat]?=some v:=⟨us8[(i.fmod 11).toNat]'(by omega),List.getElem?_eq_getElem (by omega)⟩;obtain ⟨pr,hpr,p,z,w',rfl,ep,tz,tw⟩:=al8.get _ v hv;refine ⟨_,rfl,_,rfl,_,rfl,_,_,rfl,.inl ⟨_,SqL.of el8,rfl⟩,_,_,rfl,rfl,(by rw [ln];show (11:Int)≠0;decide),_,_,_,_,rfl,rfl,SqL.of el8,?_,q p z w' pr.1 pr.2 H8 s8 ep tz tw (List.mem_of_getElem? hpr)⟩;rw [ln];show atI us8 (i.fmod 11)=_;rw [show i.fmod 11=(((i.fmod 11).toNat:Nat):Int) by omega];exact cg hv
def gcs (ns:List Int):Int:=ns.foldl (λg n=>Lo.gc g n) 0
theorem EB (ns:List Int) (n:Int):gcs (ns++[n])=Lo.gc (gcs ns) n:=by
 unfold gcs;rw [List.foldl_append];rfl
theorem EC:∀(ns:List Int) (g:Int),0<=g->0<=ns.foldl (λg n=>Lo.gc g n) g
 | [],_,h=>h
 | n::ns,g,_=>EC ns _ (Lo.sL g n)
theorem yo (ns:List Int):0<=gcs ns:=EC ns 0 (Int.le_refl 0)
theorem gc_z (a:Int) (h:0<=a):Lo.gc 0 a=a:=by
 unfold Lo.gc;rw [Int.gcd_zero_left];omega
theorem gcs3 {a:Int} (b c:Int) (h:0<=a):gcs [a,b,c]=Hu.gg a b c:=by
 show Lo.gc (Lo.gc (Lo.gc 0 a) b) c=_;rw [gc_z a h];rfl
def sg (s:Int) (p q:T3):T3:=⟨p.u+s*q.u,p.v+s*q.v,p.w+s*q.w⟩
theorem CL (p q:T3):sg 1 p q=Hu.pl p q:=by simp only [sg,Hu.pl,Int.one_mul]
theorem vo (p q:T3):sg (-1) p q=Hu.mi p q:=by
 simp only [sg,Hu.mi,T3.mk.injEq];omega
def spAdd (K:W.Frag):Sp:=λvs H Q _=>∃(x y:V) (p q:T3) (s:Int),vs=[x,y,.int s]/\Dat K H (t3D p) x/\Dat K H (t3D q) y/\(s=1\/s = -1)/\Hu.R3 3000 q/\∀(t:Addr) (H':Hp),aK H H'->Dat K H' (t3D (sg s p q)) (.ref t)->Q (.ref t) H'
theorem wU:∀ ns:List Int,bW (λv n=>v=V.int n) (ns.map V.int) ns
 | []=>.nil
 | _::r=>.cons rfl (wU r)
def spLwL:Sp:=λvs H Q _=>∃(l:Addr) (ns:List Int),vs=[.ref l]/\H l=some (.lst (ns.map V.int))/\(∀ n∈ns,0<=n)/\gcs ns≠0/\Bg (gcs ns)/\ns.length<=100/\∀(t:Addr) (H':Hp),aK H H'->H' t=some (.tup (ns.map λn=>V.int (n.fdiv (gcs ns))))->Q (.ref t) H'
theorem rz {H1:Hp} {ax ay D:Addr} {p q:T3} {F:Int->Int->Int} {te:TE} {g:TG} {js:List Nat} {σ:St} {R:Hp->Prop}
  (sx:SqT K H1 ax [.int p.u,.int p.v,.int p.w]) (sy:SqT K H1 ay [.int q.u,.int q.v,.int q.w]) (hD:H1 D=none)
  (hg:∀(T':Addr) (x y:V) (o1 o2:Option V) (H:Hp) (R:St->Hp->Prop),SqT K H T' [x,y]->R (some x::some y::bL js σ) H->g (.ref T') (o1::o2::bL js σ) H R)
  (step:∀(x y:Int) (H':Hp) (k:VK),(y=q.u\/y=q.v\/y=q.w)->(x=p.u\/x=p.v\/x=p.w)->k (.int (F x y)) H'->te (some (.int x)::some (.int y)::bL js σ) H' k)
  (fin:∀ H',aK H1 H'->H' D=some (.lst [.int (F p.u q.u),.int (F p.v q.v),.int (F p.w q.w)])->R H') :
  ∃ W:Nat->Nat->Hp->Prop,(∃ m,W 0 m (upd H1 D (.lst [])))/\∀ i m H2,W i m H2->((BW K ax ay).stop i H2/\R H2)\/
   ((
    BW K ax ay).go i H2/\∀ o:St,o.length=2->∀ v H3,(BW K ax ay).yld i H2 v H3->g v (o++bL js σ) H3 λσ4 H4=>∃ o',o'.length=2/\σ4=o'++bL js σ/\te (o'++bL js σ) H4 λy H5 =>
    ∃ ys,H5 D=some (.lst ys)/\ys.length < sizeLine/\∃ m',m' < m/\W (i+1) m' (upd H5 D (.lst (ys++[y])))):=by
 refine ⟨λi m H2=>m=3 - i/\i<=3/\aK H1 H2/\H2 D=some (.lst ([V.int (F p.u q.u),.int (F p.v q.v),.int (F p.w q.w)].take i)),⟨_,rfl,Nat.zero_le _,ak hD _,ae⟩,?_⟩;rintro i m H2 ⟨rfl,hi,sm,hlD⟩
 have sx2:=sx.ts sm.ts;have sy2:=sy.ts sm.ts
 by_cases hlt:i < 3
 ·refine .inr ⟨⟨_,_,sx2,sy2,hlt,Nat.le_refl _⟩,λo ho v H3 y=>?_⟩;obtain ⟨T',vs,nT,rfl,rfl,x,y,rfl,hx,hy⟩:=y;have zx:=hx _ sx2;have zy:=hy _ sy2;obtain ⟨o1,o2,rfl⟩:=len2 ho;have uT:=ak nT (.tup [x,y]);refine hg T' x y o1 o2 _ _ (SqT.of ae) ⟨[some x,some y],rfl,rfl,?_⟩;have hlD2:=uT _ _ hlD;rcases (show i=0\/i=1\/i=2 by omega) with rfl | rfl | rfl
  ·cases zx
   cases zy
   exact step _ _ _ _ (.inl rfl) (.inl rfl) ⟨_,hlD2,aO (by simp),3 - 1,by omega,rfl,by omega,aQ (sm.trans uT) hD _,ae⟩
  ·cases zx
   cases zy
   exact step _ _ _ _ (.inr (.inl rfl)) (.inr (.inl rfl)) ⟨_,hlD2,aO (by simp),3 - 2,by omega,rfl,by omega,aQ (sm.trans uT) hD _,ae⟩
  ·cases zx
   cases zy
   exact step _ _ _ _ (.inr (.inr rfl)) (.inr (.inr rfl)) ⟨_,hlD2,aO (by simp),3 - 3,by omega,rfl,by omega,aQ (sm.trans uT) hD _,ae⟩
 ·have ei:i=3:=by omega
  subst ei;exact .inl ⟨⟨_,_,sx2,sy2,Nat.le_refl _,Nat.le_refl _⟩,fin _ sm hlD⟩
theorem ok_lsum (T:aD K mg "_law_sum" lY) (hU:mg "zip"=none) (aZ:mg "tuple"=none):Def P w K mg base 1 "_law_sum" ["_law_one","_law_other","_law_by"] (spAdd K):=by
 refine aR T vB (λ_ _ _ _ _ _=>L2.ar3 λ_ _ _=>rfl) ?_ ?_
 ·walk_at "i1";obtain ⟨x,y,p,q,s,rfl,_⟩:=h;rfl
 walk_at "i2";obtain ⟨x,y,p,q,sn,rfl,dx,dy,hs,bq,k⟩:=h;obtain ⟨ax,rfl,sx⟩:=dX dx;obtain ⟨ay,rfl,sy⟩:=dX dy;have nd:=vB.nd;have bs:Bg sn:=jS (n:=1) (by rcases hs with rfl | rfl <;> decide) (by decide)
 obtain ⟨q1,q2,q3⟩:=r3b bq;refine ⟨_,(ao (av (cB cH rfl aZ (by decide+kernel) (aa (ko (xs:=["_law_a","_law_b"]) rfl (mn rfl hU (pv 0) (pv 1)) rfl (by decide+kernel) (by decide+kernel) (show ∀ p∈Scope.names _,p.2=NameKind.free->List.lookup p.1 (ag lY).names=some .cell\/List.lookup p.1 (ag lY).names=some .free by decide+kernel) (dR (j:=2) rfl (Or.inl rfl) (by decide+kernel) (Or.inl rfl) dD) (show (["_law_a","_law_b","_law_by"]:List Str).Nodup by decide+kernel) (λ_ _ _ _=>mq (K:=K) (n:=2) rfl rfl (bw (aY (i:=0) (show (["_law_a","_law_b","_law_by"]:List Str).Nodup by decide+kernel) rfl (Or.inl rfl) (.inr rfl)) (bw (aY (i:=1) (show (["_law_a","_law_b","_law_by"]:List Str).Nodup by decide+kernel) rfl (Or.inl rfl) (.inr rfl)) eV))) (λ_ _ _ _=>(aL bR (pv 0) (aL cf (pv 2) (pv 1))))) af)))),?_⟩;refine ⟨_,rfl,_,rfl,ax,ay,_,_,rfl,rfl,sx,sy,λD hD=>?_⟩;refine rz (K:=K) (F:=λx y=>x+sn*y) sx sy hD (λT' x y o1 o2 H R s r=>⟨T',_,rfl,s,rfl,_,_,rfl,_,_,rfl,rfl,r⟩) (λx y H' k hy hx z=>?_) (λH' s' eD=>?_)
 ·have by':Bg y:=by rcases hy with rfl | rfl | rfl <;> assumption
  exact ⟨_,rfl,_,rfl,_,rfl,_,_,rfl,rfl,jH bs by',_,_,rfl,rfl,z⟩
 ·refine ⟨D,_,rfl,.inl ⟨SqL.of eD,λtt htt=>?_⟩⟩;exact k tt _ (s'.trans (ak htt _)) (bY (p:=sg sn p q) (SqT.of ae))
theorem ok_lwL (T:aD K mg "_law_lowest" gS) (aZ:mg "tuple"=none):Def P w K mg base 1 "_law_lowest" ["_law_point"] spLwL:=by
 refine aR T nX (λ_ _ _ _ _ _=>L2.ar1 λ_=>rfl) ?_ ?_
 ·walk_at "i1";obtain ⟨l,ns,rfl,_⟩:=h;rfl
 walk_at "i2";obtain ⟨l,ns,rfl,el,pos,g0,gb,few,q⟩:=h;have nd:=nX.nd
 refine ⟨_,(ah (aJ (i:=1) nd rfl (Or.inr rfl) aq)
  (ah (gX PassesOwn.never rfl (di (pv 0)) (aY (i:=2) nd rfl (Or.inl rfl)) (ao (jE PassesOwn.never (aA kM (pv 2) aq (aF _)) (ao (xP (ba (aa (pv 2) (aa (aL ik (pv 1) (pv 2)) af))) (kY rfl (bw (aY (i:=1) nd rfl (Or.inr rfl)) (bw (aY (i:=2) nd rfl (Or.inl rfl)) eV))))))))
  (ao (av (cB cH rfl aZ (by decide+kernel) (aa (fV rfl (di (pv 0)) rfl (by decide+kernel) (by decide+kernel) rfl (show ∀ p∈Scope.names _,p.2=NameKind.free->List.lookup p.1 (ag gS).names=some .cell\/List.lookup p.1 (ag gS).names=some .free by decide+kernel) (dR (j:=1) rfl (Or.inl rfl) (by decide+kernel) (Or.inl rfl) dD) (show (["_law_number","_law_by"]:List Str).Nodup by decide+kernel) (λ_ _ _ _=>eU) (λ_ _ _ _=>(aL vS (pv 0) (pv 1)))) af)))))),?_⟩
 refine ⟨_,rfl,l,rfl,⟨_,SqL.of el⟩,?_⟩;refine hI (xs:=ns.map V.int) (λi σ H'=>aK H H'/\∃ o2,σ=[some (.ref l),some (.int (gcs (ns.take i))),o2]) ⟨aK.refl _,_,rfl⟩ (λi σ H' _ z=>SqL.of (z.1 _ _ el)) (λi v σ H' hv z=>?_) (λσ H' z=>?_)
 ·obtain ⟨s1,o2,rfl⟩:=z;rw [List.getElem?_map] at hv;obtain ⟨n,hn,rfl⟩:=Option.map_eq_some_iff.mp hv;have n0:=pos n (List.mem_of_getElem? hn);have gn:=yo (ns.take i);refine ⟨λm σ H''=>aK H H''/\∃(g l':Int),σ=[some (.ref l),some (.int g),some (.int l')]/\0<=g/\0<=l'/\l'.toNat=m/\Lo.gc g l'=Lo.gc (gcs (ns.take i)) n,⟨_,s1,_,_,rfl,gn,n0,rfl,rfl⟩,?_⟩;rintro m σ H'' ⟨s2,g,l',rfl,hg,hl',rfl,e⟩
  refine ⟨_,rfl,_,_,rfl,rfl,_,rfl,?_⟩;refine eA (λc=>?_) (λc=>?_)
  ·have c2:0 < l':=of_decide_eq_true c;refine ⟨λσ' H3=>aK H H3/\σ'=[some (.ref l),some (.int l'),some (.int (g.fmod l'))],?_,?_⟩
   ·rintro σ' H3 ⟨s3,rfl⟩
    have z0:=Int.fmod_nonneg_of_pos g c2;have z1:=Int.fmod_lt_of_pos g c2;exact ⟨_,(show (g.fmod l').toNat < l'.toNat by omega),s3,l',g.fmod l',rfl,by omega,z0,rfl,by rw [Lo.zS];exact e⟩
   ·exact ⟨_,rfl,_,rfl,_,rfl,_,_,rfl,rfl,(by omega),(by show 2<=sizeLine;decide),λp hp=>⟨p,_,rfl,SqT.of ae,rfl,_,_,rfl,_,_,rfl,rfl,s2.trans (ak hp _),rfl⟩⟩
  ·have c2:¬0 < l':=λz=>c (decide_eq_true z);have l0:l'=0:=by omega
   subst l0;rw [Lo.zR hg] at e;refine ⟨s2,some (.int 0),?_⟩;rw [List.take_add_one,hn];show _=[_,some (V.int (gcs (ns.take i++[n]))),_];rw [EB,<- e]
 ·obtain ⟨s1,o2,rfl⟩:=z;have el:=s1 _ _ el;rw [List.length_map,List.take_length];dsimp only [Cn,tOp,tC,tCB,fo,pG]
  refine comp_map (K:=K) (ts:=ns) (R:=λ_ v n=>v=V.int n) (xs:=ns.map V.int) (λn=>.int (n.fdiv (gcs ns))) (λ_ _ _ _ _ h=>h) (λl' H2=>l'=l/\H2=H') (λR h=>⟨_,rfl,l,rfl,⟨_,SqL.of el⟩,h l _ ⟨rfl,rfl⟩⟩) (λl' H2 h=>by obtain ⟨rfl,rfl⟩:=h;exact ⟨el,aK.refl _⟩) (by simp;omega)
   (wU ns) (λv n H2 N hn hv hN=>?_) (λD H2 s2 hD eD=>?_)
  ·subst hv;exact ⟨_,rfl,_,rfl,_,_,rfl,rfl,divB g0 gb,hN _ (aK.refl _)⟩
  ·refine ⟨D,_,rfl,.inl ⟨SqL.of eD,λtt htt=>?_⟩⟩;exact q tt _ ((s1.trans s2).trans (ak htt _)) ae
theorem xX (T:aD K mg "_law_tells" nq):Def P w K mg base 1 "_law_tells" ["_law_rule_here","_law_corner"] (Cw K):=by
 refine aR T pW (λ_ _ _ _ _ _=>L2.ar2 λ_ _=>rfl) ?_ ?_
 ·walk_at "i1";obtain ⟨x,y,r,p,rfl,_⟩:=h;rfl
 walk_at "i2";obtain ⟨x,y,r,p,rfl,dx,dy,br,bp,q⟩:=h;obtain ⟨ar,rfl,sr⟩:=dX dx;obtain ⟨ap,rfl,st⟩:=dX dy;obtain ⟨r1,r2,r3⟩:=r3b br;obtain ⟨p1,p2,p3⟩:=r3b bp;have nd:=pW.nd;refine ⟨_,(ao (av (aL bR (aL bR (aL cf (aG aB (pv 0) aq (λ_ _=>rfl)) (aG aB (pv 1) aq (λ_ _=>rfl))) (aL cf (aG aB (pv 0) aq (λ_ _=>rfl)) (aG aB (pv 1) aq (λ_ _=>rfl)))) (aL cf (aG aB (pv 0) aq (λ_ _=>rfl)) (aG aB (pv 1) aq (λ_ _=>rfl)))))),?_⟩;exact ⟨_,rfl,_,_,_,_,rfl,rfl,sr,rfl,_,rfl,_,_,_,_,rfl,rfl,st,rfl,_,_,rfl,rfl,jH r1 p2,_,rfl,_,_,_,_,rfl,rfl,sr,rfl,_,rfl,_,_,_,_,rfl,rfl,st,rfl,_,_,rfl,rfl,jH r2 p3,_,_,rfl,rfl,_,rfl,_,_,_,_,rfl,rfl,sr,rfl,_,rfl,_,_,_,_,rfl,rfl,st,rfl,_,_,rfl,rfl,jH r3 p1,_,_,rfl,rfl,q⟩
theorem fY {h:List T3} {x:T3}:Hu.aV h (Hu.z0,x,x)=some x:=by
 unfold Hu.aV;rw [if_pos (λq _=>Int.le_of_eq (Hu.nU q))]
theorem val4 {k:Nat} (hk:k < 4) (t1 t2 t3 t4:V):ee (bJ [] [(Sum.inr "never",t1),(Sum.inr "always",t2),(Sum.inr "p",t3),(Sum.inr "q",t4)]) (Sum.inr (lw k))=some (if k=0 then t1 else if k=1 then t2 else if k=2 then t3 else t4):=by
 simp only [bJ,List.foldl_cons,List.foldl_nil,iB];rcases (by omega:k=0\/k=1\/k=2\/k=3) with rfl | rfl | rfl | rfl
 ·rw [if_neg (by decide+kernel),if_neg (by decide+kernel),if_neg (by decide+kernel),if_pos (by decide+kernel)];rfl
 ·rw [if_neg (by decide+kernel),if_neg (by decide+kernel),if_pos (by decide+kernel)];rfl
 ·rw [if_neg (by decide+kernel),if_pos (by decide+kernel)];rfl
 ·rw [if_pos (by decide+kernel)];rfl
theorem val2a {a b:Str} (t1 t2:V) (h:(Sum.inr a:Key)≠Sum.inr b):ee (bJ [] [(Sum.inr a,t1),(Sum.inr b,t2)]) (Sum.inr a)=some t1:=by
 simp only [bJ,List.foldl_cons,List.foldl_nil,iB];rw [if_neg h,if_pos trivial]
theorem val2b {a b:Str} (t1 t2:V):ee (bJ [] [(Sum.inr a,t1),(Sum.inr b,t2)]) (Sum.inr b)=some t2:=by
 simp only [bJ,List.foldl_cons,List.foldl_nil,iB];rw [if_pos trivial]
theorem val1 {a:Str} (t1:V):ee (bJ [] [(Sum.inr a,t1)]) (Sum.inr a)=some t1:=by
 simp only [bJ,List.foldl_cons,List.foldl_nil,iB];rw [if_pos trivial]
theorem uQ {H:Hp} {l:Addr} {kvs:List (Key×V)} {u:HO} (e:H l=some (.dK kvs)):Tst H (upd H l u):=
 ⟨λb ys h=>by rw [au (oi h e (by intro z;cases z))];exact h,λb o u h=>by rw [au (oi h e (by intro z;cases z))];exact h⟩
def yY (K:W.Frag):Sp:=λvs H Q _=>∃(x:V) (lr lh:Addr) (ws hs:List V) (r:Hu.Row) (rs h:List T3),vs=[x,.ref lr,.ref lh]/\Dat K H (kU r) x/\H lr=some (.lst ws)/\DatAll K H (rs.map t3D) ws/\r.Ok rs.length/\Hu.Rb rs/\rs.length<=100/\H lh=some (.lst hs)/\DatAll K H (h.map t3D) hs/\(∀ p∈h,Hu.R3 3000 p)/\0 < h.length/\h.length<=900/\
 (∀(x:T3) (u:V) (t:Addr) (H':Hp),aK H H'->Hu.aV h (Hu.choice rs r)=some x->Dat K H' (t3D x) u->H' t=some (.tup [u,.non])->Q (.ref t) H')/\
 (Hu.aV h (Hu.choice rs r)=none->∀(u:V) (t:Addr) (H':Hp),aK H H'->Dat K H' (t3D (Hu.choice rs r).1) u->H' t=some (.tup [.non,u])->Q (.ref t) H')
def vh (K:W.Frag):Sp:=λvs H Q _=>∃(l lh:Addr) (us hs:List V) (rows:List Hu.Row) (h:List T3),vs=[.ref l,.ref lh]/\H l=some (.lst us)/\DatAll K H (rows.map kU) us/\lF rows/\rows.length<=100/\H lh=some (.lst hs)/\DatAll K H (h.map t3D) hs/\(∀ p∈h,Hu.R3 3000 p)/\0 < h.length/\h.length<=900/\
 (∀(rs:List T3) (t lr:Addr) (ws:List V) (H':Hp),aK H H'->Hu.run h rows []=.rules rs->Hu.Rb rs->rs.length=rows.length->H' t=some (.tup [.ref lr,.non])->H' lr=some (.lst ws)->DatAll K H' (rs.map t3D) ws->Q (.ref t) H')/\
 (∀(k:Nat) (tt:T3) (t:Addr) (v:V) (H':Hp),aK H H'->Hu.run h rows []=.mixed k tt->k < rows.length->Hu.R3 (k+1) tt->H' t=some (.tup [.non,v])->Dat K H' (t3D tt) v->Q (.ref t) H')
theorem DV (T:aD K mg "_law_rule" gR) (bg:mg "len"=none) (bU:mg "min"=none) (ck:mg "max"=none) (dW:Def P w K mg base 1 "_law_sum" ["_law_one","_law_other","_law_by"] (spAdd K)) (je:Def P w K mg base 1 "_law_tells" ["_law_rule_here","_law_corner"] (Cw K)):Def P w K mg base 2 "_law_rule" ["_law_row","_law_rules_here","_law_hull"] (yY K):=by
 refine aR T rQ (λ_ _ _ _ _ _=>L2.ar3 λ_ _ _=>rfl) ?_ ?_
 ·walk_at "i1";obtain ⟨x,lr,lh,ws,hs,r,rs,h,rfl,_⟩:=h;rfl
 walk_at "i2";obtain ⟨x,lr,lh,ws,hs,r,rs,h,rfl,dx,hlr,dr,ok,rb,few,hlh,dh,bp,pos,hfew,q1,q2⟩:=h;have nd:=rQ.nd;obtain ⟨a,rfl,sa⟩:=Dl dx;have d2:(2:Nat)<=sizeLine:=by decide
 have d3:(3:Nat)<=sizeLine:=by decide
 obtain ⟨cb,_,_⟩:=Hu.jQ rb ok
 have t8:∃ t,PSs (cS CX0 P w K mg base wm "_law_rule" (ag gR) f cdv A outer s H E).nox ((bu gR).drop 8) t/\
   ∀(
    H1:Hp) (k i j:Nat) (x1 x2 x3:V) (dw tw:Addr) (kvs:List (Key×V)) (o3 o4 o5 o8:Option V),r=.fd k i j->aK H H1->H1 dw=some (.dK kvs)->ee kvs (Sum.inr (fw k))=some (.ref tw)->SqT K H1 tw [x2,x3]->Dat K H1 (t3D (Hu.choice rs r).1) x1->Dat K H1 (t3D (Hu.choice rs r).2.1) x2->Dat K H1 (t3D (Hu.choice rs r).2.2) x3->
    t {nx:=λ_ H'=>Q .non H',rt:=Q} [some (.ref a),some (.ref lr),some (.ref lh),o3,o4,o5,some x1,some (.ref dw),o8] H1:=by
  refine ⟨_,(ah (oU (i:=8) nd rfl (Or.inl rfl) (Or.inl rfl) rfl rfl (di (pv 2)) rfl (by decide+kernel) (by decide+kernel) rfl (show ∀ p∈Scope.names _,p.2=NameKind.free->List.lookup p.1 (ag gR).names=some .cell\/List.lookup p.1 (ag gR).names=some .free by decide+kernel) (dR (j:=6) rfl (Or.inl rfl) (by decide+kernel) (Or.inl rfl) dD) (show (["_law_corner","_law_test"]:List Str).Nodup by decide+kernel) (λ_ _ _ _=>eU) (λ_ _ _ _=>(aE je (hr.mono (by decide)) rfl (aa (pv 1) (aa (pv 0) af)))))
  (ah (aP (aA ji (aC (kB rfl) rfl ck (by decide+kernel) (aa (pv 8) af)) aq (aF _)) (ao (av (ba (aa (aG aB (oV (zO hr) (pv 7) (aG aB (pv 0) aq (λ_ _=>rfl)) (λ_ _=>rfl)) aq (λ_ _=>rfl)) (aa cQ af))))) aH)
  (ah (aP (aA qr (aC (kA rfl) rfl bU (by decide+kernel) (aa (pv 8) af)) aq (aF _)) (ao (av (ba (aa (aG aB (oV (zO hr) (pv 7) (aG aB (pv 0) aq (λ_ _=>rfl)) (λ_ _=>rfl)) aq (λ_ _=>rfl)) (aa cQ af))))) aH)
  (ao (av (ba (aa cQ (aa (pv 6) af)))))))),?_⟩
  intro H1 k i j x1 x2 x3 dw tw kvs o3 o4 o5 o8 er s1 ed ev st e1 e2 e3;refine ⟨_,rfl,lh,rfl,⟨hs,SqL.of (s1 _ _ hlh)⟩,λD hD=>?_⟩;refine pE (K:=K) (r:=(Hu.choice rs r).1) (λH' s'=>SqL.of (s' _ _ (s1 _ _ hlh))) (dh.ts s1.ts) hfew hD ?step ?fin
  case step =>
   intro v p H' kk s' hp dp q;exact ⟨_,rfl,_,rfl,x1,v,(Hu.choice rs r).1,p,rfl,e1.ts s'.ts,dp,cb.mono (by omega),bp p hp,q⟩
  intro H4 s4 hD4;have m4:=s1.trans s4;have hne:0 < (h.map (Hu.tl (Hu.choice rs r).1)).length:=by rw [List.length_map];exact pos
  have sa4:SqT K H4 a (rwX r):=sa.ts m4.ts;have hrw:rwX r=[.str (fw k),.int i,.int j]:=by rw [er];rfl
  rw [hrw] at sa4;refine ⟨_,rfl,D,_,rfl,SqL.of hD4,hne,λM hM hmax=>?_⟩;refine ⟨_,_,rfl,rfl,_,rfl,?_⟩;obtain ⟨p1,hp1,ep1⟩:=List.mem_map.mp hM;refine eA (λcc=>?_) (λcc=>?_)
  ·have c':M<=0:=of_decide_eq_true cc;have al:∀ q∈h,Hu.tl (Hu.choice rs r).1 q<=0:=λq hq=>Int.le_trans (hmax _ (List.mem_map.mpr ⟨q,hq,rfl⟩)) c';refine ⟨_,rfl,_,rfl,_,_,_,_,rfl,rfl,sa4,rfl,dw,_,rfl,(show jk H4 dw (kV (Sum.inr (fw k))) (some (.ref tw)) from by rw [<- ev];exact jk.k (s4 _ _ ed)),_,_,_,_,rfl,rfl,st.ts s4.ts,rfl,d2,λp hp=>?_⟩;have u:=ak hp (.tup [x2,.non]);exact q1 _ _ p _ (m4.trans u) (by unfold Hu.aV;rw [if_pos al]) ((e2.ts s4.ts).ts u.ts) ae
  have c1:¬M<=0:=λz=>cc (decide_eq_true z);have n1:¬ ∀ q∈h,Hu.tl (Hu.choice rs r).1 q<=0:=λz=>by have:=z p1 hp1;omega
  refine ⟨_,rfl,D,_,rfl,SqL.of hD4,hne,λM2 hM2 hmin=>?_⟩;refine ⟨_,_,rfl,rfl,_,rfl,?_⟩;obtain ⟨p2,hp2,ep2⟩:=List.mem_map.mp hM2;refine eA (λcc=>?_) (λcc=>?_)
  ·have c':0<=M2:=of_decide_eq_true cc;have al:∀ q∈h,0<=Hu.tl (Hu.choice rs r).1 q:=λq hq=>Int.le_trans c' (hmin _ (List.mem_map.mpr ⟨q,hq,rfl⟩));refine ⟨_,rfl,_,rfl,_,_,_,_,rfl,rfl,sa4,rfl,dw,_,rfl,(show jk H4 dw (kV (Sum.inr (fw k))) (some (.ref tw)) from by rw [<- ev];exact jk.k (s4 _ _ ed)),_,_,_,_,rfl,rfl,st.ts s4.ts,rfl,d2,λp hp=>?_⟩;have u:=ak hp (.tup [x3,.non]);exact q1 _ _ p _ (m4.trans u) (by unfold Hu.aV;rw [if_neg n1,if_pos al]) ((e3.ts s4.ts).ts u.ts) ae
  ·have c2:¬0<=M2:=λz=>cc (decide_eq_true z);have n2:¬ ∀ q∈h,0<=Hu.tl (Hu.choice rs r).1 q:=λz=>by have:=z p2 hp2;omega
   refine ⟨_,rfl,d2,λp hp=>?_⟩;have u:=ak hp (.tup [.non,x1]);exact q2 (by unfold Hu.aV;rw [if_neg n1,if_neg n2]) _ p _ (m4.trans u) ((e1.ts s4.ts).ts u.ts) ae
 obtain ⟨t8,ht8,hq8⟩:=t8
 refine ⟨_,un (bz (zP (pe bO (qD bC rfl bg (by decide+kernel) (bb (hv 0) bA)) gZ (aF _)) (bz (cY (i:=3) nd rfl (Or.inl rfl) (pq (eY gq (cw (bB (bB (bB bA)))) (eY gq (cw (bB (bB (bB bA)))) (eY gq (cw (bB (bB (bB bA)))) (eY gq (cw (bB (bB (bB bA)))) pj)))) rfl rfl (by intro z;cases z) (by decide)))
  (my (ym (cw (bb (he_dget (zO hr) (hv 3) (ow aB (hv 0) gZ (λ_ _=>rfl)) (λ_ _=>rfl)) (bb Eu bA)))))) pf) (bz (cY (i:=4) nd rfl (Or.inl rfl) (ow bG (hv 1) (ow aB (hv 0) gZ (λ_ _=>rfl)) (λ_ _=>rfl))) (bz (zP (pe bO (qD bC rfl bg (by decide+kernel) (bb (hv 0) bA)) gZ (aF _)) (my (ym (cw (bb (jN dW (hr.mono (by decide)) rfl (kO (cw (bB (bB (bB bA)))) (bb (hv 4) (bb (zQ pC gZ) bA)))) (bb Eu bA))))) pf) (bz (cY (i:=5) nd rfl (Or.inl rfl) (ow bG (hv 1) (ow aB (hv 0) gZ (λ_ _=>rfl)) (λ_ _=>rfl))) (bz (cY (i:=6) nd rfl (Or.inr rfl) (jN dW (hr.mono (by decide)) rfl (bb (jN dW (hr.mono (by decide)) rfl (bb (hv 4) (bb (hv 5) (bB bA)))) (kO (cw (bB (bB (bB bA)))) (bb (zQ pC gZ) bA))))) (bz (cY (i:=7) nd rfl (Or.inl rfl) (pq (eY gq (cw (bb (jN dW (hr.mono (by decide)) rfl (bb (hv 4) (bb (hv 5) (bB bA)))) (kO (cw (bB (bB (bB bA)))) bA))) (eY gq (cw (kO (cw (bB (bB (bB bA)))) (bb (hv 6) bA))) pj)) rfl rfl (by intro z;cases z) (by decide))) (bz (zP (pe kr (ow aB (hv 0) gZ (λ_ _=>rfl)) (cw (bb gq (bb gq bA))) rfl) (bz (cY (i:=6) nd rfl (Or.inr rfl) (jN dW (hr.mono (by decide)) rfl (bb (hv 4) (bb (hv 5) (bb (zQ pC gZ) bA)))))
  (my (cY (i:=7) nd rfl (Or.inl rfl) (pq (eY gq (cw (bb (hv 5) (bb (hv 4) bA))) (eY gq (cw (bb (hv 4) (bb (hv 5) bA))) pj)) rfl rfl (by intro z;cases z) (by decide))))) pf) (bz (zP (pe bO (ow aB (hv 0) gZ (λ_ _=>rfl)) gq (aF _)) (bz (cY (i:=6) nd rfl (Or.inr rfl) (jN dW (hr.mono (by decide)) rfl (bb (hv 5) (bb (hv 4) (bb (zQ pC gZ) bA)))))
  (my (cY (i:=7) nd rfl (Or.inl rfl) (pq (eY gq (cw (bb (jN dW (hr.mono (by decide)) rfl (kO (cw (bB (bB (bB bA)))) (bb (hv 6) (bB bA)))) (kO (cw (bB (bB (bB bA)))) bA))) pj) rfl rfl (by intro z;cases z) (by decide))))) pf) ⟨ht8⟩)))))))),?_⟩
 cases r with
 | lf k =>
  have hk:k < 4:=ok;refine ⟨_,rfl,_,_,rfl,.inr ⟨_,sa,rfl⟩,rfl,_,rfl,dN ?_⟩;intro dw hdw;refine ⟨d3,λt1 h1=>⟨d3,λt2 h2=>⟨d3,λt3 h3=>⟨d3,λt4 h4=>?_⟩⟩⟩⟩;have u0:=ak hdw (.dK []);have u1:=ak h1 (.tup [.int 0,.int 0,.int 0]);have u2:=ak h2 (.tup [.int 0,.int 0,.int 1]);have u3:=ak h3 (.tup [.int 1,.int 0,.int 0]);have u4:=ak h4 (.tup [.int 0,.int 1,.int 0]);have e1:=(u2.trans (u3.trans u4)) _ _ ae;have e2:=(u3.trans u4) _ _ ae;have e3:=u4 _ _ ae;have e4:_=some (HO.tup [.int 0,.int 1,.int 0]):=ae (H:=upd (upd (upd (upd H dw (.dK [])) t1 (.tup [.int 0,.int 0,.int 0])) t2 (.tup [.int 0,.int 0,.int 1])) t3 (.tup [.int 1,.int 0,.int 0])) (a:=t4);have ed:=(u1.trans (u2.trans (u3.trans u4))) _ _ ae;have s5:=u0.trans (u1.trans (u2.trans (u3.trans u4)));generalize upd (upd (upd (upd (upd H dw (.dK [])) t1 (.tup [.int 0,.int 0,.int 0])) t2 (.tup [.int 0,.int 0,.int 1])) t3 (.tup [.int 1,.int 0,.int 0])) t4 (.tup [.int 0,.int 1,.int 0])=H5 at *;refine ⟨ed,[(Sum.inr "never",.ref t1),(Sum.inr "always",.ref t2),(Sum.inr "p",.ref t3),(Sum.inr "q",.ref t4)],rfl,Nat.le_of_ble_eq_true rfl,?_⟩;have tm:Tst H5 (upd H5 dw (.dK (bJ [] [(Sum.inr "never",.ref t1),(Sum.inr "always",.ref t2),(Sum.inr "p",.ref t3),(Sum.inr "q",.ref t4)]))):=uQ ed;have s6:=aQ s5 hdw (.dK (bJ [] [(Sum.inr "never",.ref t1),(Sum.inr "always",.ref t2),(Sum.inr "p",.ref t3),(Sum.inr "q",.ref t4)]));have hv:=val4 hk (.ref t1) (.ref t2) (.ref t3) (.ref t4);have ed6:upd H5 dw (.dK (bJ [] [(Sum.inr "never",.ref t1),(Sum.inr "always",.ref t2),(Sum.inr "p",.ref t3),(Sum.inr "q",.ref t4)])) dw=some (.dK (bJ [] [(Sum.inr "never",.ref t1),(Sum.inr "always",.ref t2),(Sum.inr "p",.ref t3),(Sum.inr "q",.ref t4)])):=ae;have D1:=((bY (K:=K) (p:=Hu.lft 0) (SqT.of e1)).ts tm);have D2:=((bY (K:=K) (p:=Hu.lft 1) (SqT.of e2)).ts tm);have D3:=((bY (K:=K) (p:=Hu.lft 2) (SqT.of e3)).ts tm);have D4:=((bY (K:=K) (p:=Hu.lft 3) (SqT.of e4)).ts tm);generalize bJ [] [(Sum.inr "never",V.ref t1),(Sum.inr "always",.ref t2),(Sum.inr "p",.ref t3),(Sum.inr "q",.ref t4)]=kvs at *;generalize upd H5 dw (.dK kvs)=H6 at *
  have dv:Dat K H6 (t3D (Hu.lft k)) (if k=0 then .ref t1 else if k=1 then .ref t2 else if k=2 then .ref t3 else .ref t4):=by
   rcases (by omega:k=0\/k=1\/k=2\/k=3) with rfl | rfl | rfl | rfl
   ·exact D1
   ·exact D2
   ·exact D3
   ·exact D4
  generalize (if k=0 then V.ref t1 else if k=1 then .ref t2 else if k=2 then .ref t3 else .ref t4)=u at hv dv;refine ⟨_,rfl,_,rfl,_,_,_,_,rfl,rfl,sa.ts s6.ts,rfl,dw,u,rfl,(show jk H6 dw (kV (Sum.inr (lw k))) (some u) from by rw [<- hv];exact jk.k ed6),d2,λp hp=>?_⟩;have u7:=ak hp (.tup [u,.non]);exact q1 _ u p _ (s6.trans u7) fY (dv.ts u7.ts) ae
 | nt i =>
  obtain ⟨y,hy,dy⟩:=kH dr (getD_at (show i < rs.length from ok));have by':=(Hu.og rb (show i < rs.length from ok)).mono (show rs.length<=3000 by omega)
  refine ⟨_,rfl,_,_,rfl,.inr ⟨_,sa,rfl⟩,rfl,_,rfl,bH ?_⟩;refine ⟨_,rfl,_,rfl,_,_,_,_,rfl,rfl,sa,rfl,_,_,_,_,rfl,rfl,SqL.of hlr,cg hy,?_⟩;refine ⟨_,rfl,_,_,rfl,.inr ⟨_,sa,rfl⟩,rfl,_,rfl,dN ?_⟩;refine ⟨d3,λt1 h1=>?_⟩;have u1:=ak h1 (.tup [.int 0,.int 0,.int 1]);refine ⟨_,rfl,_,rfl,.ref t1,y,Hu.al,rs.getD i Hu.z0,-1,rfl,bY (p:=Hu.al) (SqT.of ae),dy.ts u1.ts,.inr rfl,by',λt2 H2 s2 e2=>?_⟩;rw [vo] at e2;refine ⟨d2,λp hp=>?_⟩;have u3:=ak hp (.tup [.ref t2,.non]);exact q1 _ (.ref t2) p _ ((u1.trans s2).trans u3) fY (e2.ts u3.ts) ae
 | fd k i j =>
  obtain ⟨hk,hi,hj⟩:=ok;obtain ⟨y,hy,dy⟩:=kH dr (getD_at hi);obtain ⟨z,hz,dz⟩:=kH dr (getD_at hj);have by':=(Hu.og rb hi).mono (show rs.length<=3000 by omega)
  have bz':=(Hu.og rb hj).mono (show rs.length<=3000 by omega);have byz:=(Hu.rT (Hu.og rb hj) (Hu.og rb hi)).mono (show rs.length+1<=3000 by omega);have ech:Hu.choice rs (.fd k i j)=Hu.fch k (rs.getD i Hu.z0) (rs.getD j Hu.z0):=rfl;rw [ech] at hq8;generalize rs.getD i Hu.z0=A1 at *;generalize rs.getD j Hu.z0=B1 at *;refine ⟨_,rfl,_,_,rfl,.inr ⟨_,sa,rfl⟩,rfl,_,rfl,bH ?_⟩;refine ⟨_,rfl,_,rfl,_,_,_,_,rfl,rfl,sa,rfl,_,_,_,_,rfl,rfl,SqL.of hlr,cg hy,?_⟩;refine ⟨_,rfl,_,_,rfl,.inr ⟨_,sa,rfl⟩,rfl,_,rfl,bH ?_⟩;refine ⟨_,rfl,_,rfl,_,_,_,_,rfl,rfl,sa,rfl,_,_,_,_,rfl,rfl,SqL.of hlr,cg hz,?_⟩;refine ⟨_,rfl,_,rfl,y,z,A1,B1,1,rfl,dy,dz,.inl rfl,bz',λt1 H1 s1 e1=>⟨d3,λt2 h2=>?_⟩⟩;rw [CL] at e1;have u2:=ak h2 (.tup [.int 0,.int 0,.int 1]);refine ⟨_,rfl,.ref t1,.ref t2,Hu.pl A1 B1,Hu.al,-1,rfl,e1.ts u2.ts,bY (p:=Hu.al) (SqT.of ae),.inr rfl,(Hu.tU 0).mono (by decide),λt3 H3 s3 e3=>?_⟩;rw [vo] at e3;have m3:=(s1.trans u2).trans s3;intro dw hdw;have u4:=ak hdw (.dK []);have ed4:upd H3 dw (.dK []) dw=some (.dK []):=ae;generalize upd H3 dw (.dK [])=H4 at u4 ed4 ⊢;have m4:=m3.trans u4;refine ⟨_,rfl,_,rfl,y,z,A1,B1,1,rfl,dy.ts m4.ts,dz.ts m4.ts,.inl rfl,bz',λt5 H5 s5 e5=>⟨d3,λt6 h6=>⟨d2,λt7 h7=>⟨d3,λt8' h8=>⟨_,rfl,d2,λt9 h9=>?_⟩⟩⟩⟩⟩;rw [CL] at e5;have u6:=ak h6 (.tup [.int 0,.int 0,.int 1]);have u7:=ak h7 (.tup [.ref t5,.ref t6]);have u8:=ak h8 (.tup [.int 0,.int 0,.int 0]);have u9:=ak h9 (.tup [.ref t8',.ref t3]);have ed9:=(s5.trans (u6.trans (u7.trans (u8.trans u9)))) _ _ ed4;have f6:=(u7.trans (u8.trans u9)) _ _ ae;have f7:=(u8.trans u9) _ _ ae;have f8:=u9 _ _ ae;have f9:upd (upd (upd (upd H5 t6 (.tup [.int 0,.int 0,.int 1])) t7 (.tup [.ref t5,.ref t6])) t8' (.tup [.int 0,.int 0,.int 0])) t9 (.tup [.ref t8',.ref t3]) t9=some (.tup [.ref t8',.ref t3]):=ae;have e59:=e5.ts (u6.trans (u7.trans (u8.trans u9))).ts;have m49:=s5.trans (u6.trans (u7.trans (u8.trans u9)));generalize upd (upd (upd (upd H5 t6 (.tup [.int 0,.int 0,.int 1])) t7 (.tup [.ref t5,.ref t6])) t8' (.tup [.int 0,.int 0,.int 0])) t9 (.tup [.ref t8',.ref t3])=H9 at *;refine ⟨ed9,[(Sum.inr "more",.ref t7),(Sum.inr "less",.ref t9)],rfl,Nat.le_of_ble_eq_true rfl,?_⟩;have m9:=(m3.trans u4).trans m49;have tA:Tst H9 (upd H9 dw (.dK (bJ [] [(Sum.inr "more",.ref t7),(Sum.inr "less",.ref t9)]))):=uQ ed9;have mA:aK H (upd H9 dw (.dK (bJ [] [(Sum.inr "more",.ref t7),(Sum.inr "less",.ref t9)]))):=aQ m9 (m3.free hdw) _;have edA:upd H9 dw (.dK (bJ [] [(Sum.inr "more",.ref t7),(Sum.inr "less",.ref t9)])) dw=some (.dK (bJ [] [(Sum.inr "more",.ref t7),(Sum.inr "less",.ref t9)])):=ae;have g3:=(e3.ts (u4.trans m49).ts).ts tA;have g5:=e59.ts tA;have g6:=(bY (K:=K) (p:=Hu.al) (SqT.of f6)).ts tA;have g7:=(SqT.of (K:=K) f7).ts tA;have g8:=(bY (K:=K) (p:=Hu.z0) (SqT.of f8)).ts tA;have g9:=(SqT.of (K:=K) f9).ts tA;have v7:=val2a (a:="more") (b:="less") (V.ref t7) (V.ref t9) (by decide+kernel);have v9:=val2b (a:="more") (b:="less") (V.ref t7) (V.ref t9);generalize bJ [] [(Sum.inr "more",V.ref t7),(Sum.inr "less",.ref t9)]=kvs at *;generalize upd H9 dw (.dK kvs)=HA at *;clear ed9 f6 f7 f8 f9 e59 m49 e5 s5 h6 h7 h8 h9 u6 u7 u8 u9;have saA:=sa.ts mA.ts;rcases (by omega:k=0\/k=1\/k=2\/k=3\/k=4) with rfl | rfl | rfl | rfl | rfl
  ·refine ⟨_,rfl,_,_,_,_,rfl,rfl,saA,rfl,d2,λpB hB=>⟨pB,_,rfl,.inr (SqT.of ae),rfl,rfl,_,rfl,jL (by decide+kernel) ?_⟩⟩;have uB:=ak hB (.tup [V.str "greater",.str "lesser"]);refine ⟨_,rfl,_,_,_,_,rfl,rfl,saA.ts uB.ts,rfl,rfl,_,rfl,ite_no (by decide+kernel) ?_⟩;exact hq8 _ 0 i j (.ref t3) (.ref t5) (.ref t6) dw t7 kvs _ _ _ _ rfl (mA.trans uB) (uB _ _ edA) v7 (g7.ts uB.ts) (g3.ts uB.ts) (g5.ts uB.ts) (g6.ts uB.ts)
  ·refine ⟨_,rfl,_,_,_,_,rfl,rfl,saA,rfl,d2,λpB hB=>⟨pB,_,rfl,.inr (SqT.of ae),rfl,rfl,_,rfl,jL (by decide+kernel) ?_⟩⟩;have uB:=ak hB (.tup [V.str "greater",.str "lesser"]);refine ⟨_,rfl,_,_,_,_,rfl,rfl,saA.ts uB.ts,rfl,rfl,_,rfl,ite_no (by decide+kernel) ?_⟩;exact hq8 _ 1 i j (.ref t3) (.ref t8') (.ref t3) dw t9 kvs _ _ _ _ rfl (mA.trans uB) (uB _ _ edA) v9 (g9.ts uB.ts) (g3.ts uB.ts) (g8.ts uB.ts) (g3.ts uB.ts)
  ·refine ⟨_,rfl,_,_,_,_,rfl,rfl,saA,rfl,d2,λpB hB=>⟨pB,_,rfl,.inr (SqT.of ae),rfl,rfl,_,rfl,jK (by decide+kernel) ?_⟩⟩;have uB:=ak hB (.tup [V.str "greater",.str "lesser"]);have mB:=mA.trans uB;refine ⟨_,rfl,_,rfl,_,rfl,y,z,A1,B1,-1,rfl,dy.ts mB.ts,dz.ts mB.ts,.inr rfl,bz',λtC HC sC eC=>?_⟩;rw [vo] at eC;have mC:=mB.trans sC;intro dw2 hd2;have uD:=ak hd2 (.dK []);refine ⟨_,rfl,_,rfl,d2,λtE hE=>⟨_,rfl,_,rfl,d2,λtF hF=>?_⟩⟩;have uE:=ak hE (.tup [z,y]);have uF:=ak hF (.tup [y,z]);have edF:=(uE.trans uF) _ _ ae;have fE:=uF _ _ ae;have mF:=mC.trans (uD.trans (uE.trans uF));have eF:=eC.ts (uD.trans (uE.trans uF)).ts;generalize upd (upd (upd HC dw2 (.dK [])) tE (.tup [z,y])) tF (.tup [y,z])=HF at *;refine ⟨edF,[(Sum.inr "greater",.ref tE),(Sum.inr "lesser",.ref tF)],rfl,Nat.le_of_ble_eq_true rfl,?_⟩;have tG:=uQ (u:=.dK (bJ [] [(Sum.inr "greater",.ref tE),(Sum.inr "lesser",.ref tF)])) edF;have mG:=aQ mF (mC.free hd2) (.dK (bJ [] [(Sum.inr "greater",.ref tE),(Sum.inr "lesser",.ref tF)]));refine ⟨_,rfl,_,_,_,_,rfl,rfl,sa.ts mG.ts,rfl,rfl,_,rfl,ite_no (by decide+kernel) ?_⟩;exact hq8 _ 2 i j (.ref tC) z y dw2 tE _ _ _ _ _ rfl mG ae (val2a _ _ (by decide+kernel)) ((SqT.of (K:=K) fE).ts tG) (eF.ts tG) (dz.ts mG.ts) (dy.ts mG.ts)
  ·refine ⟨_,rfl,_,_,_,_,rfl,rfl,saA,rfl,d2,λpB hB=>⟨pB,_,rfl,.inr (SqT.of ae),rfl,rfl,_,rfl,jK (by decide+kernel) ?_⟩⟩;have uB:=ak hB (.tup [V.str "greater",.str "lesser"]);have mB:=mA.trans uB;refine ⟨_,rfl,_,rfl,_,rfl,y,z,A1,B1,-1,rfl,dy.ts mB.ts,dz.ts mB.ts,.inr rfl,bz',λtC HC sC eC=>?_⟩;rw [vo] at eC;have mC:=mB.trans sC;intro dw2 hd2;have uD:=ak hd2 (.dK []);refine ⟨_,rfl,_,rfl,d2,λtE hE=>⟨_,rfl,_,rfl,d2,λtF hF=>?_⟩⟩;have uE:=ak hE (.tup [z,y]);have uF:=ak hF (.tup [y,z]);have edF:=(uE.trans uF) _ _ ae;have fF:upd (upd (upd HC dw2 (.dK [])) tE (.tup [z,y])) tF (.tup [y,z]) tF=some (.tup [y,z]):=ae;have mF:=mC.trans (uD.trans (uE.trans uF));have eF:=eC.ts (uD.trans (uE.trans uF)).ts;generalize upd (upd (upd HC dw2 (.dK [])) tE (.tup [z,y])) tF (.tup [y,z])=HF at *;refine ⟨edF,[(Sum.inr "greater",.ref tE),(Sum.inr "lesser",.ref tF)],rfl,Nat.le_of_ble_eq_true rfl,?_⟩;have tG:=uQ (u:=.dK (bJ [] [(Sum.inr "greater",.ref tE),(Sum.inr "lesser",.ref tF)])) edF;have mG:=aQ mF (mC.free hd2) (.dK (bJ [] [(Sum.inr "greater",.ref tE),(Sum.inr "lesser",.ref tF)]));refine ⟨_,rfl,_,_,_,_,rfl,rfl,sa.ts mG.ts,rfl,rfl,_,rfl,ite_no (by decide+kernel) ?_⟩;exact hq8 _ 3 i j (.ref tC) y z dw2 tF _ _ _ _ _ rfl mG ae (val2b _ _) ((SqT.of (K:=K) fF).ts tG) (eF.ts tG) (dy.ts mG.ts) (dz.ts mG.ts)
  ·refine ⟨_,rfl,_,_,_,_,rfl,rfl,saA,rfl,d2,λpB hB=>⟨pB,_,rfl,.inr (SqT.of ae),rfl,rfl,_,rfl,jL (by decide+kernel) ?_⟩⟩;have uB:=ak hB (.tup [V.str "greater",.str "lesser"]);have mB:=mA.trans uB;refine ⟨_,rfl,_,_,_,_,rfl,rfl,saA.ts uB.ts,rfl,rfl,_,rfl,ite_yes rfl ?_⟩;refine ⟨_,rfl,_,rfl,_,rfl,z,y,B1,A1,-1,rfl,dz.ts mB.ts,dy.ts mB.ts,.inr rfl,by',λtC HC sC eC=>?_⟩;rw [vo] at eC;have mC:=mB.trans sC;intro dw2 hd2;have uD:=ak hd2 (.dK []);refine ⟨d3,λt0 h0=>?_⟩;have u0:=ak h0 (.tup [.int 0,.int 0,.int 1]);refine ⟨_,rfl,.ref t0,.ref tC,Hu.al,Hu.mi B1 A1,1,rfl,bY (p:=Hu.al) (SqT.of ae),eC.ts (uD.trans u0).ts,.inl rfl,byz,λtE HE sE eE=>⟨d3,λtF hF=>⟨d2,λtG hG=>?_⟩⟩⟩;rw [CL] at eE;have uF:=ak hF (.tup [.int 0,.int 0,.int 1]);have uG:=ak hG (.tup [.ref tE,.ref tF]);have edG:=(sE.trans (uF.trans uG)) _ _ (u0 _ _ (show upd HC dw2 (.dK []) dw2=some (.dK []) from ae));have fF:=uG _ _ ae;have fG:upd (upd HE tF (.tup [.int 0,.int 0,.int 1])) tG (.tup [.ref tE,.ref tF]) tG=some (.tup [.ref tE,.ref tF]):=ae;have mD:=(uD.trans u0).trans (sE.trans (uF.trans uG));have eG:=eE.ts (uF.trans uG).ts;generalize upd (upd HE tF (.tup [.int 0,.int 0,.int 1])) tG (.tup [.ref tE,.ref tF])=HG at *;refine ⟨edG,[(Sum.inr "leads",.ref tG)],rfl,Nat.le_of_ble_eq_true rfl,?_⟩;have tI:=uQ (u:=.dK (bJ [] [(Sum.inr "leads",.ref tG)])) edG;have mG:=aQ (mC.trans mD) (mC.free hd2) (.dK (bJ [] [(Sum.inr "leads",.ref tG)]));exact hq8 _ 4 i j (.ref tC) (.ref tE) (.ref tF) dw2 tG _ _ _ _ _ rfl mG ae (val1 _) ((SqT.of (K:=K) fG).ts tI) ((eC.ts mD.ts).ts tI) (eG.ts tI) ((bY (K:=K) (p:=Hu.al) (SqT.of fF)).ts tI)
theorem AW (T:aD K mg "_law_cut" cT) (bU:mg "min"=none) (ck:mg "max"=none) (cG:mg "enumerate"=none) (bg:mg "len"=none) (hU:mg "zip"=none) (hV:mg "abs"=none)
  (je:Def P w K mg base 1 "_law_tells" ["_law_rule_here","_law_corner"] (Cw K)) (rq:Def P w K mg base 1 "_law_lowest" ["_law_point"] spLwL):Def P w K mg base 3 "_law_cut" ["_law_hull","_law_rule_here"] (CI K):=by
 refine aR T vD (λ_ _ _ _ _ _=>L2.ar2 λ_ _=>rfl) ?_ ?_
 ·walk_at "i1";obtain ⟨l,x,us,h,r,rfl,_⟩:=h;rfl
 walk_at "i2";obtain ⟨l,x,us,h,r,rfl,hl,da,dx,hu,hr3,kn,kc⟩:=h;have nd:=vD.nd;have lu:=jr da;have hpos:=hu.pos;have hfew:=hu.few;have br:Hu.R3 3000 r:=hr3.mono (by decide);have bp:∀ p∈h,Hu.R3 3000 p:=λp hp=>((hu.ok p hp).r).mono (by decide);have tb:∀ i,(Hu.tv r h i).natAbs < 2 ^ 2000:=λi=>Nat.lt_of_lt_of_le (Hu.tl_b hr3 (hu.ok _ (Hu.bS hpos i)).r) (Nat.pow_le_pow_right (by decide) (by decide));have tB:∀ i,Bg (Hu.tv r h i):=λi=>jS (tb i) (by decide)
 have t3:∃ t,PSs (cS CX0 P w K mg base mw "_law_cut" (ag cT) f cdv A outer s H E).nox ((kz (Aw cT 4)).drop 4) t/\
   ∀(
    N B:St->Hp->Prop) (H1 H':Hp) (d lo hi:Addr) (v:V) (i:Nat) (L1 L2:List T3) (o8 o9:Option V),i < h.length->MI K H1 H' lo hi L1 L2->H1 l=some (.lst us)->H1 d=some (.lst ((h.map (Hu.tl r)).map V.int))->H1 lo=none->H1 hi=none->lo≠hi->DatAll K H1 (h.map t3D) us->Dat K H' (t3D (Hu.cor h i)) v->L1.length<=900->L2.length<=900->
    (∀(H'':Hp) (o8' o9':Option V),MI K H1 H'' lo hi (L1++(if Hu.tv r h i*Hu.tv r h (i+1) < 0 then [Hu.mid (Hu.cor h i) (Hu.cor h (i+1)) (Hu.tv r h i) (Hu.tv r h (i+1))] else [])) (L2++(if Hu.tv r h i*Hu.tv r h (i+1) < 0 then [Hu.mid (Hu.cor h i) (Hu.cor h (i+1)) (Hu.tv r h i) (Hu.tv r h (i+1))] else []))->
     N [some (.ref l),some x,some (.ref d),some (.ref lo),some (.ref hi),some (.int i),some v,some (.int (Hu.tv r h i)),some (.int (Hu.tv r h (i+1))),o8',o9'] H'')->
    t {nx:=N,ct:=N,bk:=B,rt:=Q} [some (.ref l),some x,some (.ref d),some (.ref lo),some (.ref hi),some (.int i),some v,some (.int (Hu.tv r h i)),some (.int (Hu.tv r h (i+1))),o8,o9] H':=by
  refine ⟨_,(ao (aP (aA rX (aL cf (pv 7) (pv 8)) aq (aF _)) (ah (aJ (i:=9) nd rfl (Or.inl rfl) (aG bG (pv 0) (aL ik (aL bR (pv 5) aq) (aC bC rfl bg (by decide+kernel) (aa (pv 0) af))) (λ_ _=>rfl)))
  (ah (aJ (i:=10) nd rfl (Or.inl rfl) (aE rq (hr.mono (by decide)) rfl (aa (ko (xs:=["_law_a","_law_b"]) rfl (mn rfl hU (pv 6) (pv 9)) rfl (by decide+kernel) (by decide+kernel) (show ∀ p∈Scope.names _,p.2=NameKind.free->List.lookup p.1 (ag cT).names=some .cell\/List.lookup p.1 (ag cT).names=some .free by decide+kernel) (dR (j:=8) rfl (Or.inl rfl) (by decide+kernel) (Or.inl rfl) (dR (j:=7) rfl (Or.inl rfl) (by decide+kernel) (Or.inl rfl) dD)) (show (["_law_a","_law_b","_law_there","_law_here"]:List Str).Nodup by decide+kernel) (λ_ _ _ _=>mq (K:=K) (n:=2) rfl rfl (bw (aY (i:=0) (show (["_law_a","_law_b","_law_there","_law_here"]:List Str).Nodup by decide+kernel) rfl (Or.inl rfl) (.inr rfl)) (bw (aY (i:=1) (show (["_law_a","_law_b","_law_there","_law_here"]:List Str).Nodup by decide+kernel) rfl (Or.inl rfl) (.inr rfl)) eV))) (λ_ _ _ _=>(aL bR (aL cf (aC hJ rfl hV (by decide+kernel) (aa (pv 2) af)) (pv 0)) (aL cf (aC hJ rfl hV (by decide+kernel) (aa (pv 3) af)) (pv 1))))) af)))
  (ah (bf (cI PySem.F.plainAttrs_list PySem.F.slot_list_append PySem.F.type_list_append aW (pv 3) (aa (pv 10) af)))
  (ao (bf (cI PySem.F.plainAttrs_list PySem.F.slot_list_append PySem.F.type_list_append aW (pv 4) (aa (pv 10) af))))))) aH)),?_⟩
  intro N B H1 H' d lo hi v i L1 L2 o8 o9 hi' mi hl1 hd1 hlo hhi ne da1 dv l1 l2 n;have jl:(i+1) % h.length < h.length:=Nat.mod_lt _ hpos;have sd:SqL K H' d ((h.map (Hu.tl r)).map V.int):=SqL.of (mi.sm _ _ hd1);have ai:=gw (r:=r) hi';have aj:=gw (r:=r) jl;rw [Hu.xp] at aj;refine ⟨_,rfl,_,rfl,_,_,rfl,rfl,jH (tB _) (tB _),_,_,rfl,rfl,_,rfl,?_⟩;refine eA (λc=>?_) (λc=>?_)
  ·have c':Hu.tv r h i*Hu.tv r h (i+1) < 0:=of_decide_eq_true c;rw [if_pos c'] at n;obtain ⟨y,hy,dy⟩:=kH (da1.ts mi.sm.ts) (Hu.mK jl);rw [Hu.uA] at dy;have sl:SqL K H' l us:=SqL.of (mi.sm _ _ hl1);have hp:=hu.ok _ (Hu.bS hpos i);have hq:=hu.ok _ (Hu.bS hpos (i+1));obtain ⟨u0,ub⟩:=rY (a:=Hu.cor h i) (b:=Hu.cor h i) (Int.le_of_lt hp.n0) (Int.le_of_lt hq.n0) hp.n1 hq.n1 (tb i) (tb (i+1));obtain ⟨v0,vb⟩:=rY (a:=Hu.cor h i) (b:=Hu.cor h i) hp.x0 hq.x0 hp.x1 hq.x1 (tb i) (tb (i+1));obtain ⟨w0,wb⟩:=rY (a:=Hu.cor h i) (b:=Hu.cor h i) hp.y0 hq.y0 hp.y1 hq.y1 (tb i) (tb (i+1));have up:=Hu.il hp hq c';obtain ⟨g0,gb⟩:=gg_bg (V:=Hu.nm (Hu.cor h i).v (Hu.cor h (i+1)).v (Hu.tv r h i) (Hu.tv r h (i+1))) (W:=Hu.nm (Hu.cor h i).w (Hu.cor h (i+1)).w (Hu.tv r h i) (Hu.tv r h (i+1))) up ub;have bs:Bg ((Hu.tv r h i).natAbs:Int):=jS (n:=2000) (by simpa using tb i) (by decide);have bt:Bg ((Hu.tv r h (i+1)).natAbs:Int):=jS (n:=2000) (by simpa using tb (i+1)) (by decide);obtain ⟨pb1,pb2,pb3⟩:=r3b (hp.r.mono (by decide));obtain ⟨qb1,qb2,qb3⟩:=r3b (hq.r.mono (by decide));obtain ⟨ax,rfl,sx⟩:=dX dv;obtain ⟨ay,rfl,sy⟩:=dX dy;refine ⟨_,rfl,_,rfl,_,_,rfl,rfl,_,rfl,_,_,rfl,.inl ⟨_,sl,rfl⟩,_,_,rfl,rfl,(by rw [lu];omega),_,_,_,_,rfl,rfl,sl,(by rw [lu];show atI us (Int.fmod ((i:Int)+1) (h.length:Int))=_;rw [Hu.qG];exact cg hy),?_⟩;refine ⟨_,rfl,_,rfl,ax,ay,_,_,rfl,rfl,sx,sy,λD hD=>?_⟩;refine rz (K:=K) (F:=λx y=>Hu.nm x y (Hu.tv r h i) (Hu.tv r h (i+1))) sx sy hD (λT' x y o1 o2 H R s r=>⟨T',_,rfl,s,rfl,_,_,rfl,_,_,rfl,rfl,r⟩) (λx y H' k hy hx z=>?_) (λH2 s2 eD=>?_)
   ·have by':Bg y:=by rcases hy with rfl | rfl | rfl <;> assumption
    have bx':Bg x:=by rcases hx with rfl | rfl | rfl <;> assumption
    refine ⟨_,rfl,_,rfl,_,rfl,_,_,rfl,rfl,(by rw [cZ];exact jH bt bx'),_,rfl,_,rfl,_,rfl,_,_,rfl,rfl,(by rw [cZ];exact jH bs by'),_,_,rfl,rfl,?_⟩;rw [cZ,cZ];exact z
   have ge:=gcs3 (Hu.nm (Hu.cor h i).v (Hu.cor h (i+1)).v (Hu.tv r h i) (Hu.tv r h (i+1))) (Hu.nm (Hu.cor h i).w (Hu.cor h (i+1)).w (Hu.tv r h i) (Hu.tv r h (i+1))) u0;refine ⟨D,[_,_,_],rfl,eD,λn hn=>?_,by rw [ge];exact g0,by rw [ge];exact gb,by simp,λmt H3 s3 em=>?_⟩
   ·simp only [List.mem_cons,List.not_mem_nil,or_false] at hn;rcases hn with rfl | rfl | rfl <;> assumption
   rw [ge] at em;have dm:Dat K H3 (t3D (Hu.mid (Hu.cor h i) (Hu.cor h (i+1)) (Hu.tv r h i) (Hu.tv r h (i+1)))) (.ref mt):=bY (p:=Hu.mid _ _ _ _) (SqT.of em);obtain ⟨m,em'⟩:∃ m,m=V.ref mt:=⟨_,rfl⟩;rw [<- em'] at dm ⊢;have s2:=s2.trans s3;have m2:=mi.new s2;obtain ⟨⟨u1,e1,k1⟩,u2,e2,k2⟩:=m2.len (by omega) (by omega);refine ⟨_,rfl,.inl ⟨rfl,_,SqL.of e1⟩,_,rfl,lo,u1,_,rfl,rfl,e1,aO k1,?_⟩;have m3:=m2.app1 hlo ne e1 dm;have e2':(upd H3 lo (.lst (u1++[m]))) hi=some (.lst u2):=by rw [au (Ne.symm ne)];exact e2
   refine ⟨_,rfl,.inl ⟨rfl,_,SqL.of e2'⟩,_,rfl,hi,u2,_,rfl,rfl,e2',aO k2,?_⟩;exact n _ _ _ (m3.app2 hhi ne e2' (dm.ts (dJ e1)))
  ·have c':¬Hu.tv r h i*Hu.tv r h (i+1) < 0:=λz=>c (decide_eq_true z);rw [if_neg c',List.append_nil,List.append_nil] at n;exact n _ _ _ mi
 obtain ⟨t3,ht3,hq3⟩:=t3
 have t2:∃ t,PSs (cS CX0 P w K mg base mw "_law_cut" (ag cT) f cdv A outer s H E).nox ((kz (Aw cT 4)).drop 3) t/\
   ∀(
    N B:St->Hp->Prop) (H1 H':Hp) (d lo hi:Addr) (v:V) (i:Nat) (L1 L2:List T3) (o8 o9:Option V),i < h.length->MI K H1 H' lo hi L1 L2->H1 l=some (.lst us)->H1 d=some (.lst ((h.map (Hu.tl r)).map V.int))->H1 lo=none->H1 hi=none->lo≠hi->DatAll K H1 (h.map t3D) us->Dat K H' (t3D (Hu.cor h i)) v->L1.length<=800->L2.length<=800->
    (∀(H'':Hp) (o8' o9':Option V),MI K H1 H'' lo hi (L1++(if Hu.tv r h i*Hu.tv r h (i+1) < 0 then [Hu.mid (Hu.cor h i) (Hu.cor h (i+1)) (Hu.tv r h i) (Hu.tv r h (i+1))] else [])) (L2++Hu.stp h (Hu.tn r h) i)->
     N [some (.ref l),some x,some (.ref d),some (.ref lo),some (.ref hi),some (.int i),some v,some (.int (Hu.tv r h i)),some (.int (Hu.tv r h (i+1))),o8',o9'] H'')->
    t {nx:=N,ct:=N,bk:=B,rt:=Q} [some (.ref l),some x,some (.ref d),some (.ref lo),some (.ref hi),some (.int i),some v,some (.int (Hu.tv r h i)),some (.int (Hu.tv r h (i+1))),o8,o9] H':=by
  refine ⟨_,ah (aP (aA qr (pv 7) aq (aF _)) (ao (bf (cI PySem.F.plainAttrs_list PySem.F.slot_list_append PySem.F.type_list_append aW (pv 4) (aa (pv 6) af)))) aH) ht3,?_⟩;intro N B H1 H' d lo hi v i L1 L2 o8 o9 hi' mi hl1 hd1 hlo hhi ne da1 dv l1 l2 n;have sd:SqL K H' d ((h.map (Hu.tl r)).map V.int):=SqL.of (mi.sm _ _ hd1);have ai:=gw (r:=r) hi';rw [Hu.uY] at n;refine ⟨_,rfl,_,_,rfl,rfl,_,rfl,?_⟩;refine eA (λc=>?_) (λc=>?_)
  ·have c':0<=Hu.tv r h i:=of_decide_eq_true c;rw [if_pos c'] at n;obtain ⟨_,u2,e2,k2⟩:=mi.len (by omega) (by omega);refine ⟨_,rfl,.inl ⟨rfl,_,SqL.of e2⟩,_,rfl,hi,u2,_,rfl,rfl,e2,aO k2,?_⟩;refine hq3 N B H1 _ d lo hi v i L1 (L2++[Hu.cor h i]) o8 o9 hi' (mi.app2 hhi ne e2 dv) hl1 hd1 hlo hhi ne da1 (dv.ts (dJ e2)) (by omega) (by simp;omega) λH'' o' o'' m=>n H'' o' o'' ?_;rw [List.append_assoc] at m;exact m
  ·have c':¬0<=Hu.tv r h i:=λz=>c (decide_eq_true z);rw [if_neg c',List.nil_append] at n;exact hq3 N B H1 _ d lo hi v i L1 L2 o8 o9 hi' mi hl1 hd1 hlo hhi ne da1 dv (by omega) (by omega) n
 obtain ⟨t2,ht2,hq2⟩:=t2
 have t1:∃ t,PSs (cS CX0 P w K mg base mw "_law_cut" (ag cT) f cdv A outer s H E).nox (kz (Aw cT 4)) t/\
   ∀(
    N B:St->Hp->Prop) (H1 H':Hp) (d lo hi:Addr) (v:V) (i:Nat) (L1 L2:List T3) (o6 o7 o8 o9:Option V),i < h.length->MI K H1 H' lo hi L1 L2->H1 l=some (.lst us)->H1 d=some (.lst ((h.map (Hu.tl r)).map V.int))->H1 lo=none->H1 hi=none->lo≠hi->DatAll K H1 (h.map t3D) us->Dat K H' (t3D (Hu.cor h i)) v->L1.length<=700->L2.length<=700->
    (∀(H'':Hp) (o6' o7' o8' o9':Option V),MI K H1 H'' lo hi (L1++Hu.stp h (Hu.tv r h) i) (L2++Hu.stp h (Hu.tn r h) i)->
     N [some (.ref l),some x,some (.ref d),some (.ref lo),some (.ref hi),some (.int i),some v,o6',o7',o8',o9'] H'')->
    t {nx:=N,ct:=N,bk:=B,rt:=Q} [some (.ref l),some x,some (.ref d),some (.ref lo),some (.ref hi),some (.int i),some v,o6,o7,o8,o9] H':=by
  refine ⟨_,ah (aJ (i:=7) nd rfl (Or.inr rfl) (aG bG (pv 2) (pv 5) (λ_ _=>rfl))) (ah (aJ (i:=8) nd rfl (Or.inr rfl) (aG bG (pv 2) (aL ik (aL bR (pv 5) aq) (aC bC rfl bg (by decide+kernel) (aa (pv 0) af))) (λ_ _=>rfl))) (ah (aP (aA ji (pv 7) aq (aF _)) (ao (bf (cI PySem.F.plainAttrs_list PySem.F.slot_list_append PySem.F.type_list_append aW (pv 3) (aa (pv 6) af)))) aH) ht2)),?_⟩;intro N B H1 H' d lo hi v i L1 L2 o6 o7 o8 o9 hi' mi hl1 hd1 hlo hhi ne da1 dv l1 l2 n;have sl:SqL K H' l us:=SqL.of (mi.sm _ _ hl1);have sd:SqL K H' d ((h.map (Hu.tl r)).map V.int):=SqL.of (mi.sm _ _ hd1);have ai:=gw (r:=r) hi';have jl:(i+1) % h.length < h.length:=Nat.mod_lt _ hpos;have aj:=gw (r:=r) jl;rw [Hu.xp] at aj;refine ⟨_,rfl,_,rfl,_,_,_,_,rfl,rfl,sd,ai,?_⟩;refine ⟨_,rfl,_,rfl,_,_,rfl,rfl,_,rfl,_,_,rfl,.inl ⟨_,sl,rfl⟩,_,_,rfl,rfl,(by rw [lu];omega),_,_,_,_,rfl,rfl,sd,(by rw [lu];show atI _ (Int.fmod ((i:Int)+1) (h.length:Int))=_;rw [Hu.qG];exact aj),?_⟩;refine ⟨_,rfl,_,_,rfl,rfl,_,rfl,?_⟩;refine eA (λc=>?_) (λc=>?_)
  ·have c':Hu.tv r h i<=0:=of_decide_eq_true c;obtain ⟨⟨u1,e1,k1⟩,_⟩:=mi.len (by omega) (by omega);refine ⟨_,rfl,.inl ⟨rfl,_,SqL.of e1⟩,_,rfl,lo,u1,_,rfl,rfl,e1,aO k1,?_⟩;refine hq2 N B H1 _ d lo hi v i (L1++[Hu.cor h i]) L2 o8 o9 hi' (mi.app1 hlo ne e1 dv) hl1 hd1 hlo hhi ne da1 (dv.ts (dJ e1)) (by simp;omega) (by omega) λH'' o' o'' m=>n H'' _ _ o' o'' ?_;rw [List.append_assoc] at m;rw [show Hu.stp h (Hu.tv r h) i=[Hu.cor h i]++(if Hu.tv r h i*Hu.tv r h (i+1) < 0 then [Hu.mid (Hu.cor h i) (Hu.cor h (i+1)) (Hu.tv r h i) (Hu.tv r h (i+1))] else []) by unfold Hu.stp;rw [if_pos c']];exact m
  ·have c':¬Hu.tv r h i<=0:=λz=>c (decide_eq_true z);refine hq2 N B H1 _ d lo hi v i L1 L2 o8 o9 hi' mi hl1 hd1 hlo hhi ne da1 dv (by omega) (by omega) λH'' o' o'' m=>n H'' _ _ o' o'' ?_;rw [show Hu.stp h (Hu.tv r h) i=(if Hu.tv r h i*Hu.tv r h (i+1) < 0 then [Hu.mid (Hu.cor h i) (Hu.cor h (i+1)) (Hu.tv r h i) (Hu.tv r h (i+1))] else []) by unfold Hu.stp;rw [if_neg c',List.nil_append]];exact m
 obtain ⟨t1,ht1,hq1⟩:=t1
 have t4:∃ t,PSs (cS CX0 P w K mg base mw "_law_cut" (ag cT) f cdv A outer s H E).nox ((bu cT).drop 2) t/\
   ∀(H1:Hp) (d:Addr),¬Hu.fZ r h->aK H H1->H1 d=some (.lst ((h.map (Hu.tl r)).map V.int))->t {nx:=λ_ H'=>Q .non H',rt:=Q} [some (.ref l),some x,some (.ref d),none,none,none,none,none,none,none,none] H1:=by
  refine ⟨_,ah (aJ (i:=3) nd rfl (Or.inl rfl) (bI af)) (ah (aJ (i:=4) nd rfl (Or.inl rfl) (bI af)) (ah (gX PassesOwn.never rfl (tX rfl cG (pv 0)) (kY rfl (bw (aY (i:=5) nd rfl (Or.inl rfl)) (bw (aY (i:=6) nd rfl (Or.inl rfl)) eV))) ht1) (ao (av (ba (aa (pv 3) (aa (pv 4) af))))))),?_⟩;intro H1 d nc sm hd;have hl1:=sm _ _ hl;have da1:=da.ts sm.ts;refine ⟨(by show 0<=sizeLine;decide),λlo hlo=>⟨(by show 0<=sizeLine;decide),λhi hhi=>?_⟩⟩;have u1:=ak hlo (.lst []);have u2:=ak hhi (.lst []);have ne:lo≠hi:=λz=>by subst z;rw [ae] at hhi;cases hhi
  have hhi1:H1 hi=none:=by rw [au (Ne.symm ne)] at hhi;exact hhi
  refine ⟨_,rfl,l,rfl,⟨us,SqL.of ((u1.trans u2) _ _ hl1)⟩,?_⟩
  refine qF (xs:=us) (λi σ H'=>i<=us.length/\MI K H1 H' lo hi (Hu.fl (Hu.stp h (Hu.tv r h)) i) (Hu.fl (Hu.stp h (Hu.tn r h)) i)/\∃ o5 o6 o7 o8 o9 o10,σ=[some (.ref l),some x,some (.ref d),some (.ref lo),some (.ref hi),o5,o6,o7,o8,o9,o10])
   ⟨Nat.zero_le _,⟨u1.trans u2,[],[],u2 _ _ ae,ae,rfl,rfl⟩,_,_,_,_,_,_,rfl⟩ (λi σ H' _ z=>SqL.of (z.2.1.sm _ _ hl1)) (λi v T' σ H' hv z hT=>?_) (λσ H' z=>?_)
  ·obtain ⟨_,mi,o5,o6,o7,o8,o9,o10,rfl⟩:=z;have hi':i < us.length:=(List.getElem?_eq_some_iff.mp hv).1;have uT:=ak hT (.tup [.int i,v]);obtain ⟨p,hp,dp⟩:=sW (da1.ts mi.sm.ts) hv;have ep:p=Hu.cor h i:=by rw [Hu.mK (by omega)] at hp;exact (Option.some.inj hp).symm
   subst ep;have f1:=Hu.qH (Hu.lN hu (Hu.tv r h)).len i;have f2:=Hu.qH (Hu.lN hu (Hu.tn r h)).len i;refine ⟨T',_,rfl,SqT.of ae,rfl,_,_,rfl,_,_,rfl,rfl,?_⟩;refine hq1 _ _ H1 _ d lo hi v i _ _ o7 o8 o9 o10 (by omega) (mi.new uT) hl1 hd hlo hhi1 ne da1 (dp.ts uT.ts) (by omega) (by omega) λH'' o7' o8' o9' o10' m=>⟨hi',?_,_,_,_,_,_,_,rfl⟩;rw [Hu.aX,Hu.aX];exact m
  ·obtain ⟨_,mi,o5,o6,o7,o8,o9,o10,rfl⟩:=z;rw [lu] at mi;refine ⟨_,rfl,_,rfl,(by show 2<=sizeLine;decide),λtt htt=>?_⟩;have u3:=ak htt (.tup [.ref lo,.ref hi]);obtain ⟨w1,w2,e1,e2,d1,d2⟩:=(mi.new u3).ex;refine kc nc _ _ (sm.trans (mi.sm.trans u3)) ⟨tt,lo,hi,w1,w2,rfl,ne,?_,?_,SqT.of ae,e1,e2,d1,d2⟩
   ·exact sm.free hlo
   ·exact sm.free hhi1
 obtain ⟨t4,ht4,hq4⟩:=t4;refine ⟨_,ah (oU (i:=2) nd rfl (Or.inl rfl) (Or.inl rfl) rfl rfl (di (pv 0)) rfl (by decide+kernel) (by decide+kernel) rfl (show ∀ p∈Scope.names _,p.2=NameKind.free->List.lookup p.1 (ag cT).names=some .cell\/List.lookup p.1 (ag cT).names=some .free by decide+kernel) (dR (j:=1) rfl (Or.inl rfl) (by decide+kernel) (Or.inl rfl) dD) (show (["_law_corner","_law_rule_here"]:List Str).Nodup by decide+kernel) (λ_ _ _ _=>eU) (λ_ _ _ _=>(aE je (hr.mono (by decide)) rfl (aa (pv 1) (aa (pv 0) af))))) (ah (aP (PW.pt (ig (aA qr (aC (kA rfl) rfl bU (by decide+kernel) (aa (pv 2) af)) aq (aF _)) (gW (aA ji (aC (kB rfl) rfl ck (by decide+kernel) (aa (pv 2) af)) aq (aF _))))) (ao (av cQ)) aH) ht4),?_⟩;refine ⟨_,rfl,l,rfl,⟨us,SqL.of hl⟩,λd hd0=>?_⟩;refine pE (K:=K) (r:=r) (λH' s'=>SqL.of (s' _ _ hl)) da (by omega) hd0 ?step ?fin
 case step =>
  intro v p H' kk sm hp dp q;exact ⟨_,rfl,_,rfl,x,v,r,p,rfl,dx.ts sm.ts,dp,br,bp p hp,q⟩
 intro H1 s1 hd;have hne:0 < (h.map (Hu.tl r)).length:=by rw [List.length_map];exact hpos
 refine ⟨_,rfl,d,_,rfl,SqL.of hd,hne,λM hM hmin=>?_⟩;refine ⟨_,_,rfl,rfl,_,rfl,?_⟩;refine eA (λc=>?_) (λc=>?_)
 ·have c':0<=M:=of_decide_eq_true c;exact kn (.inl λp hp=>Int.le_trans c' (hmin _ (List.mem_map.mpr ⟨p,hp,rfl⟩))) _ s1
 have c1:¬0<=M:=λz=>c (decide_eq_true z);refine ⟨_,rfl,d,_,rfl,SqL.of hd,hne,λM2 hM2 hmax=>?_⟩;refine ⟨_,_,rfl,rfl,_,rfl,?_⟩;refine eA (λc=>?_) (λc=>?_)
 ·have c':M2<=0:=of_decide_eq_true c;exact kn (.inr λp hp=>Int.le_trans (hmax _ (List.mem_map.mpr ⟨p,hp,rfl⟩)) c') _ s1
 have c2:¬M2<=0:=λz=>c (decide_eq_true z);obtain ⟨p1,hp1,ep1⟩:=List.mem_map.mp hM;obtain ⟨p2,hp2,ep2⟩:=List.mem_map.mp hM2;refine hq4 H1 d (λnc=>?_) s1 hd;rcases nc with z | z
 ·have:=z p1 hp1;omega
 ·have:=z p2 hp2;omega
def Cz (K:W.Frag):Sp:=λvs H Q _=>vs=[]/\∀(l:Addr) (us:List V) (H':Hp),aK H H'->H l=none->H' l=some (.lst us)->DatAll K H' (Hu.sqH.map t3D) us->Q (.ref l) H'
theorem ok_sq (T:aD K mg "square" lW):Def P w K mg base 1 "square" [] (Cz K):=by
 refine aR T Az (λ_ _ _ _ _ _=>L2.ar0 rfl) ?_ ?_
 ·walk_at "i1";obtain ⟨rfl,_⟩:=h;rfl
 walk_at "i2";obtain ⟨rfl,q⟩:=h;obtain ⟨e,p,he,eq⟩:∃ e p,IsSq e/\bu lW=[.Return (some e) p]:=⟨_,_,⟨_,_,_,_,_,_,_,_,_,_,_,_,_,_,_,_,_,_,_,_,_,_,_,_,_,_,_,_,_,_,_,_,_,rfl⟩,rfl⟩;rw [eq];refine ⟨_,ao (av (pe_sq he)),?_⟩;refine ⟨(by show 3<=sizeLine;decide),λt1 h1=>⟨(by show 3<=sizeLine;decide),λt2 h2=>⟨(by show 3<=sizeLine;decide),λt3 h3=>⟨(by show 3<=sizeLine;decide),λt4 h4=>⟨(by show 4<=sizeLine;decide),λl h5=>?_⟩⟩⟩⟩⟩;have u1:=ak h1 (.tup [.int 1,.int 0,.int 0]);have u2:=ak h2 (.tup [.int 1,.int 1,.int 0]);have u3:=ak h3 (.tup [.int 1,.int 1,.int 1]);have u4:=ak h4 (.tup [.int 1,.int 0,.int 1]);have u5:=ak h5 (.lst [.ref t1,.ref t2,.ref t3,.ref t4]);refine q l _ _ (u1.trans (u2.trans (u3.trans (u4.trans u5)))) ((u1.trans (u2.trans (u3.trans u4))).free h5) ae ?_;exact ⟨_,_,rfl,bY (p:=⟨1,0,0⟩) (SqT.of ((u2.trans (u3.trans (u4.trans u5))) _ _ ae)),_,_,rfl,bY (p:=⟨1,1,0⟩) (SqT.of ((u3.trans (u4.trans u5)) _ _ ae)),_,_,rfl,bY (p:=⟨1,1,1⟩) (SqT.of ((u4.trans u5) _ _ ae)),_,_,rfl,bY (p:=⟨1,0,1⟩) (SqT.of (u5 _ _ ae)),rfl⟩
end Mine
namespace L2
open PySem
theorem mY {n:Nat} (h:n<=9000):n < sizeLine:=Nat.lt_of_le_of_lt h (by decide)
end L2
namespace Mine
open PySem L2
def HuL (K:W.Frag) (H:Hp) (N:Addr->Prop) (h:List T3) (v:V):Prop:=∃ a us,v=.ref a/\N a/\H a=some (.lst us)/\DatAll K H (h.map t3D) us
def bM (K:W.Frag) (H:Hp) (N:Addr->Prop):List (List T3)->List V->Prop
 | [],vs=>vs=[]
 | h::hs,vs=>∃ v r,vs=v::r/\HuL K H N h v/\bM K H N hs r
section
variable {K:W.Frag} {H H':Hp} {N M:Addr->Prop} {h:List T3} {v:V}
theorem HuL.same (g:HuL K H N h v) (s:aK H H'):HuL K H' N h v:=by
 obtain ⟨a,us,e,n,ha,d⟩:=g;exact ⟨a,us,e,n,s _ _ ha,d.ts s.ts⟩
theorem HuL.mut (g:HuL K H N h v) {c:Addr} {ws zs:List V} (e:H c=some (.lst ws)) (ne:∀ a,N a->a≠c):HuL K (upd H c (.lst zs)) N h v:=by
 obtain ⟨a,us,e1,n,ha,d⟩:=g;exact ⟨a,us,e1,n,by rw [au (ne a n)];exact ha,d.ts (dJ e)⟩
theorem HuL.imp (g:HuL K H N h v) (z:∀ a,N a->M a):HuL K H M h v:=by
 obtain ⟨a,us,e1,n,ha,d⟩:=g;exact ⟨a,us,e1,z a n,ha,d⟩
theorem bM.map {H':Hp} {M:Addr->Prop} (f:∀ h v,HuL K H N h v->HuL K H' M h v):∀{hs:List (List T3)} {vs:List V},bM K H N hs vs->bM K H' M hs vs
 | [],_,g=>g
 | _::_,_,⟨v,r,e,g1,g2⟩=>⟨v,r,e,f _ _ g1,bM.map f g2⟩
theorem bM.same {hs:List (List T3)} {vs:List V} (g:bM K H N hs vs) (s:aK H H'):bM K H' N hs vs:=bM.map (λ_ _ z=>z.same s) g
theorem bM.mut {hs:List (List T3)} {vs:List V} (g:bM K H N hs vs) {c:Addr} {ws zs:List V} (e:H c=some (.lst ws)) (ne:∀ a,N a->a≠c):bM K (upd H c (.lst zs)) N hs vs:=bM.map (λ_ _ z=>z.mut e ne) g
theorem bM.imp {hs:List (List T3)} {vs:List V} (g:bM K H N hs vs) (z:∀ a,N a->M a):bM K H M hs vs:=bM.map (λ_ _ y=>y.imp z) g
theorem bM.len:∀{hs:List (List T3)} {vs:List V},bM K H N hs vs->vs.length=hs.length
 | [],_,g=>by rw [show _=([]:List V) from g];rfl
 | _::_,_,⟨v,r,e,g1,g2⟩=>by rw [e,List.length_cons,List.length_cons,bM.len g2]
theorem bM.app:∀{hs gs:List (List T3)} {vs us:List V},bM K H N hs vs->bM K H N gs us->bM K H N (hs++gs) (vs++us)
 | [],_,_,_,g,z=>by rw [show _=([]:List V) from g];exact z
 | _::_,_,_,_,⟨v,r,e,g1,g2⟩,z=>by subst e;exact ⟨v,_,rfl,g1,bM.app g2 z⟩
theorem bM.one (g:HuL K H N h v):bM K H N [h] [v]:=⟨v,[],rfl,g,rfl⟩
end
section
variable {K:W.Frag} {H H':Hp} {N M:Addr->Prop} {h:List T3} {v:V}
theorem DatAll.unsnoc:∀{ds:List PyData} {d:PyData} {vs:List V},DatAll K H (ds++[d]) vs->∃ us v,vs=us++[v]/\DatAll K H ds us/\Dat K H d v
 | [],d,vs,⟨x,r,e,g,z⟩=>by
  cases (show r=[] from z)
  exact ⟨[],x,e,rfl,g⟩
 | c::ds,d,vs,⟨x,r,e,g,z⟩=>by
  obtain ⟨us,v,rfl,g1,g2⟩:=DatAll.unsnoc (ds:=ds) z;exact ⟨x::us,v,e,⟨x,us,rfl,g,g1⟩,g2⟩
theorem bM.unsnoc:∀{hs:List (List T3)} {h:List T3} {vs:List V},bM K H N (hs++[h]) vs->∃ us v,vs=us++[v]/\bM K H N hs us/\HuL K H N h v
 | [],d,vs,⟨x,r,e,g,z⟩=>by
  cases (show r=[] from z)
  exact ⟨[],x,e,rfl,g⟩
 | c::ds,d,vs,⟨x,r,e,g,z⟩=>by
  obtain ⟨us,v,rfl,g1,g2⟩:=bM.unsnoc (hs:=ds) z;exact ⟨x::us,v,e,⟨x,us,rfl,g,g1⟩,g2⟩
end
theorem so {us:List V} {v:V}:(us++[v])[(us++[v]).length - 1]?=some v:=by simp
abbrev Stk:=List (Hu.Tc×List T3)
def tot:Stk->Nat
 | []=>0
 | p::r=>p.1.size+tot r
theorem oP:∀ a b,tot (a++b)=tot a+tot b
 | [],b=>by simp [tot]
 | p::a,b=>by have:=oP a b;simp only [List.cons_append,tot];omega
theorem sU:∀ S:Stk,S.length<=tot S
 | []=>Nat.le_refl _
 | p::r=>by
  have:=sU r;have:=Hu.Tc.size_pos p.1;simp only [tot,List.length_cons];omega
def yZ (K:W.Frag) (CN:Addr):Sp:=λvs H Q E=>∃(x:V) (t:Hu.Tc),vs=[x]/\Dat K H (tcD t) x/\t.Sm 64/\t.deep<=12/\
 (t.told Hu.sqH=none->∀ H',aK H H'->E (.ref CN) none H')/\
 (∀ L,t.told Hu.sqH=some L->∀(l:Addr) (us:List V) (H':Hp),aK H H'->H l=none->H' l=some (.lst us)->bM K H' (λa=>H a=none/\a≠l) L us->Q (.ref l) H')
structure HI (K:W.Frag) (H H':Hp) (t:Hu.Tc) (lf lt lh:Addr) (m:Nat) (S:Stk) (F:List (List T3)) (fv tv hv:List V):Prop where
 sm:aK H H'
 ef:H' lf=some (.lst fv)
 et:H' lt=some (.lst tv)
 eh:H' lh=some (.lst hv)
 df:bM K H' (λa=>H a=none/\a≠lf/\a≠lt/\a≠lh) F fv
 dt:DatAll K H' (S.map λp=>tcD p.1) tv
 dh:bM K H' (λa=>H a=none/\a≠lf/\a≠lt/\a≠lh) (S.map (·.2)) hv
 to:t.told Hu.sqH=(Hu.Tc.dM S.reverse).map (F++·)
 ok:∀ p∈S,Hu.HK p.2/\p.1.Sm 64/\p.2.length+p.1.deep<=20
 me:tot S=m
 few:F.length+m<=8900
variable {P:Program} {w:World} {K:W.Frag} {mg:Str->Option Value} {base:Heap}
theorem DX {CN:Addr} (T:aD K mg "hulls_of" kT) (qX:Def P w K mg base 1 "square" [] (Cz K)) (Fo:xb P w K mg base 3 "cut" ["hull","rule"] (CK K CN)):xb P w K mg base 4 "hulls_of" ["tree"] (yZ K CN):=by
 refine zX T nY (λ_ _ _ _ _ _=>L2.ar1 λ_=>rfl) ?_ ?_
 ·walk_at "i1";obtain ⟨x,t,rfl,_⟩:=h;rfl
 walk_at "i2";obtain ⟨x,t,rfl,dx,sm0,dp,kn,kc⟩:=h;have nd:=nY.nd;have tsz:=Hu.Tc.size_le (t:=t) (d:=12) dp
 refine ⟨_,(ah (aJ (i:=1) nd rfl (Or.inl rfl) (bI af))
  (ah (aJ (i:=2) nd rfl (Or.inl rfl) (bI (aa (pv 0) af)))
  (ah (aJ (i:=3) nd rfl (Or.inl rfl) (bI (aa (zC qX (hr.mono (by decide)) rfl) af)))
  (ah (jE PassesOwn.leaving (ql (pv 2) (λ_=>rfl)) (ah (aJ (i:=4) nd rfl (Or.inl rfl) (gY PySem.F.plainAttrs_list PySem.F.slot_list_pop PySem.F.type_list_pop jb (pv 2)))
  (ah (aJ (i:=5) nd rfl (Or.inl rfl) (gY PySem.F.plainAttrs_list PySem.F.slot_list_pop PySem.F.type_list_pop jb (pv 3)))
  (ao (aP (aA bO (aG aB (pv 4) aq (λ_ _=>rfl)) aI (aF _)) (ao (bf (cI PySem.F.plainAttrs_list PySem.F.slot_list_append PySem.F.type_list_append aW (pv 1) (aa (pv 5) af)))) (ah (aJ (i:=6) nd rfl (Or.inl rfl) (pe_defR Fo (hr.mono (by decide)) rfl (aa (pv 5) (aa (aG aB (pv 4) aq (λ_ _=>rfl)) af))))
  (ah (bf (cI PySem.F.plainAttrs_list PySem.F.slot_list_extend PySem.F.type_list_extend nI (pv 2) (aa (bI (aa (aG aB (pv 4) aq (λ_ _=>rfl)) (aa (aG aB (pv 4) aq (λ_ _=>rfl)) af))) af)))
  (ao (bf (cI PySem.F.plainAttrs_list PySem.F.slot_list_extend PySem.F.type_list_extend nI (pv 3) (aa (bI (aa (aG aB (pv 6) aq (λ_ _=>rfl)) (aa (aG aB (pv 6) aq (λ_ _=>rfl)) af))) af)))))))))))
  (ao (av (pv 1))))))),?_⟩
 refine ⟨(by show 0<=sizeLine;decide),λlf hlf=>?_⟩;refine ⟨_,rfl,(by show 1<=sizeLine;decide),λlt hlt=>?_⟩;refine ⟨rfl,λl0 us0 H0 s0 f0 hl0 da0=>⟨(by show 1<=sizeLine;decide),λlh hlh=>?_⟩⟩;have u1:=ak hlf (.lst []);have u2:=ak hlt (.lst [x]);have u3:=ak hlh (.lst [.ref l0]);have ef0:H0 lf=some (.lst []):=s0 _ _ (u2 _ _ ae);have et0:H0 lt=some (.lst [x]):=s0 _ _ ae;have n1:lf≠lt:=λz=>by subst z;rw [ae] at hlt;cases hlt
 have n2:lf≠lh:=λz=>by subst z;rw [ef0] at hlh;cases hlh
 have n3:lt≠lh:=λz=>by subst z;rw [et0] at hlh;cases hlh
 have n4:l0≠lh:=λz=>by subst z;rw [hl0] at hlh;cases hlh
 have s00:=u1.trans (u2.trans s0);have Hlt:H lt=none:=u1.free hlt;have Hlh:H lh=none:=s00.free hlh;have n5:l0≠lf:=λz=>by subst z;rw [u2 _ _ ae] at f0;cases f0
 have n6:l0≠lt:=λz=>by subst z;rw [ae] at f0;cases f0
 refine ⟨λm σ H'=>∃ S F fv tv hv,∃(o4 o5 o6:Option V),σ=[some x,some (.ref lf),some (.ref lt),some (.ref lh),o4,o5,o6]/\HI K H H' t lf lt lh m S F fv tv hv,⟨t.size,[(t,Hu.sqH)],[],[],[x],[.ref l0],_,_,_,rfl,?_⟩,?_⟩
 ·refine ⟨s00.trans u3,u3 _ _ ef0,u3 _ _ et0,ae,rfl,?_,?_,?_,?_,?_,?_⟩
  ·exact ⟨x,[],rfl,dx.ts (s00.trans u3).ts,rfl⟩
  ·exact bM.one ⟨l0,us0,rfl,⟨(u1.trans u2).free f0,n5,n6,n4⟩,u3 _ _ hl0,da0.ts u3.ts⟩
  ·show t.told Hu.sqH=(match t.told Hu.sqH,Hu.Tc.dM [] with | some a,some b=>some (a++b) | _,_=>none).map ([]++·)
   cases t.told Hu.sqH with
   | none=>rfl
   | some L=>simp [Hu.Tc.dM]
  ·intro p hp;rw [List.mem_singleton.mp hp];exact ⟨Hu.lR,sm0,by show 4+t.deep<=20;omega⟩
  ·simp [tot]
  ·show 0+t.size<=8900;omega
 rintro m σ H' ⟨S,F,fv,tv,hv,o4,o5,o6,rfl,I⟩
 refine ⟨_,rfl,_,.inl ⟨tv,SqL.of I.et,rfl⟩,?_⟩;have lt1:=I.dt.len;rw [List.length_map] at lt1;have hfew:=I.few;have hme:=I.me;have hlen:=sU S;rcases List.eq_nil_or_concat S with e | ⟨S',p,e⟩
 ·subst e;have e2:tv=[]:=List.eq_nil_of_length_eq_zero lt1;rw [e2];refine bH ⟨_,rfl,?_⟩;have to:=I.to;simp only [List.reverse_nil,Hu.Tc.dM,Option.map_some,List.append_nil] at to;exact kc F to lf fv H' I.sm hlf I.ef (I.df.imp λa z=>⟨z.1,z.2.1⟩)
 rw [List.concat_eq_append] at e;subst e;obtain ⟨t1,h1⟩:=p;have dt:=I.dt;have dh:=I.dh;rw [List.map_append] at dt dh;obtain ⟨tv',b,rfl,dt',db⟩:=DatAll.unsnoc dt;obtain ⟨hv',c,rfl,dh',dc⟩:=bM.unsnoc dh;have hb:(!(tv'++[b]).isEmpty)=true:=by cases tv' <;> rfl
 rw [hb];obtain ⟨hk,hsm,hdp⟩:Hu.HK h1/\t1.Sm 64/\h1.length+t1.deep<=20:=I.ok (t1,h1) (List.mem_append_right _ List.mem_cons_self);have hlS:=sU S';have ok':∀ q∈S',Hu.HK q.2/\q.1.Sm 64/\q.2.length+q.1.deep<=20:=λq hq=>I.ok q (List.mem_append_left _ hq);rw [oP] at hme hlen;simp only [tot] at hme hlen;have tp:=Hu.Tc.size_pos t1;have to:=I.to;rw [List.reverse_append] at to;refine dN ⟨λσ' H''=>∃ m',m' < m/\∃ S F fv tv hv,∃(o4 o5 o6:Option V),σ'=[some x,some (.ref lf),some (.ref lt),some (.ref lh),o4,o5,o6]/\HI K H H'' t lf lt lh m' S F fv tv hv,λσ' H'' ⟨m',q1,q2⟩=>⟨m',q1,q2⟩,?_⟩;refine ⟨_,rfl,.inl ⟨rfl,_,SqL.of I.et⟩,lt,_,b,rfl,rfl,I.et,so,?_⟩;rw [List.dropLast_concat];have eh1:(upd H' lt (.lst tv')) lh=some (.lst (hv'++[c])):=by rw [au (Ne.symm n3)];exact I.eh
 have g1:Tst H' (upd H' lt (.lst tv')):=dJ I.et;refine ⟨_,rfl,.inl ⟨rfl,_,SqL.of eh1⟩,lh,_,c,rfl,rfl,eh1,so,?_⟩;rw [List.dropLast_concat];have g2:Tst (upd H' lt (.lst tv')) (upd (upd H' lt (.lst tv')) lh (.lst hv')):=dJ eh1;generalize eH2:upd (upd H' lt (.lst tv')) lh (.lst hv')=H2 at g2;have sm2:aK H H2:=by rw [<- eH2];exact aQ (aQ I.sm Hlt _) Hlh _
 have ef2:H2 lf=some (.lst fv):=by rw [<- eH2,au n2,au n1];exact I.ef
 have et2:H2 lt=some (.lst tv'):=by rw [<- eH2,au n3,ae]
 have eh2:H2 lh=some (.lst hv'):=by rw [<- eH2,ae]
 have df2:=(I.df.mut (zs:=tv') I.et λa z=>z.2.2.1).mut (zs:=hv') eh1 λa z=>z.2.2.2;have dh2:=(dh'.mut (zs:=tv') I.et λa z=>z.2.2.1).mut (zs:=hv') eh1 λa z=>z.2.2.2;have dc2:=(dc.mut (zs:=tv') I.et λa z=>z.2.2.1).mut (zs:=hv') eh1 λa z=>z.2.2.2;rw [eH2] at df2 dh2 dc2;have db2:=(db.ts g1).ts g2;have dt2:=(dt'.ts g1).ts g2;have lh1:=dh'.len;have lf1:=I.df.len;have lt2:=dt'.len;rw [List.length_map] at lh1 lt2;cases t1 with
 | leaf =>
  obtain ⟨a,rfl,sa⟩:=tc_leaf db2;refine ⟨_,rfl,_,_,_,_,rfl,rfl,sa,rfl,rfl,_,rfl,dN ?_⟩;refine ⟨_,rfl,.inl ⟨rfl,_,SqL.of ef2⟩,_,rfl,lf,fv,_,rfl,rfl,ef2,mY (by omega),?_⟩;refine ⟨tot S',by omega,S',F++[h1],fv++[c],tv',hv',_,_,_,rfl,?_⟩;refine ⟨aQ sm2 hlf _,ae,by rw [au (Ne.symm n1)];exact et2,by rw [au (Ne.symm n2)];exact eh2,?_,dt2.ts (dJ ef2),dh2.mut ef2 (λa z=>z.2.1),?_,ok',rfl,?_⟩
  ·exact (df2.app (.one dc2)).mut ef2 λa z=>z.2.1
  ·rw [to];show (Hu.Tc.dM ((Hu.Tc.leaf,h1)::S'.reverse)).map _=_;rw [Hu.Tc.xy];cases Hu.Tc.dM S'.reverse with
   | none=>rfl
   | some L=>simp
  ·rw [List.length_append];simp only [List.length_cons,List.length_nil];omega
 | cut r l g =>
  obtain ⟨a,y1,y2,y3,rfl,sa,d1,d2,d3⟩:=Cj db2;refine ⟨_,rfl,_,_,_,_,rfl,rfl,sa,rfl,rfl,_,rfl,bH ?_⟩;obtain ⟨cc,cu,rfl,cn,hcc,dcc⟩:=dc2;have ddp:max l.deep g.deep+1+h1.length<=20:=by simp only [Hu.Tc.deep] at hdp;omega
  refine ⟨_,rfl,_,rfl,_,_,_,_,rfl,rfl,sa,rfl,cc,y1,cu,h1,r,rfl,hcc,dcc,d1,hk.hull.mono (by decide) (by omega),hsm.1.mono (by decide),λnc H3 s3=>?_,λnc v H3 s3 cr=>?_⟩
  ·refine kn ?_ H3 (sm2.trans s3);rw [to];show (Hu.Tc.dM ((Hu.Tc.cut r l g,h1)::S'.reverse)).map _=_;rw [Hu.Tc.Ce nc];rfl
  obtain ⟨pt,pa,pb,w1,w2,rfl,nab,fa,fb,sp,e1,e2,p1,p2⟩:=cr;have C:=Hu.iA hk hsm.1 nc;have cl:=C.ll;have ch:=C.lh;refine ⟨_,rfl,.inl ⟨rfl,_,SqL.of (s3 _ _ et2)⟩,_,rfl,_,_,_,_,rfl,rfl,sa.ts s3.ts,rfl,_,rfl,_,_,_,_,rfl,rfl,sa.ts s3.ts,rfl,(by show 2<=sizeLine;decide),λq1 hq1=>?_⟩;have v1:=ak hq1 (.lst [y3,y2]);have et4:=v1 _ _ (s3 _ _ et2);refine ⟨lt,q1,tv',[y3,y2],rfl,rfl,et4,ae,(by show tv'.length+2<=sizeLine;exact Nat.le_of_lt (mY (by omega))),?_⟩;have s34:=s3.trans v1;generalize eH4:upd H3 q1 (.lst [y3,y2])=H4 at et4 s34;have g5:Tst H4 (upd H4 lt (.lst (tv'++[y3,y2]))):=dJ et4;have s24:=sm2.trans s34;have sp4:SqT K H4 pt [.ref pa,.ref pb]:=by rw [<- eH4];exact sp.ts v1.ts
  have ha4:H4 pa=some (.lst w1):=by rw [<- eH4];exact v1 _ _ e1
  have hb4:H4 pb=some (.lst w2):=by rw [<- eH4];exact v1 _ _ e2
  have p14:DatAll K H4 ((Hu.low r h1).map t3D) w1:=by rw [<- eH4];exact p1.ts v1.ts
  have p24:DatAll K H4 ((Hu.high r h1).map t3D) w2:=by rw [<- eH4];exact p2.ts v1.ts
  have ne2:∀ z u,H2 z=some u->∀ k,H2 k=none->k≠z:=λz u h3 k h4 h5=>by rw [h5,h3] at h4;cases h4
  have na:H pa=none/\pa≠lf/\pa≠lt/\pa≠lh:=⟨sm2.free fa,ne2 _ _ ef2 _ fa,ne2 _ _ et2 _ fa,ne2 _ _ eh2 _ fa⟩;have nb:H pb=none/\pb≠lf/\pb≠lt/\pb≠lh:=⟨sm2.free fb,ne2 _ _ ef2 _ fb,ne2 _ _ et2 _ fb,ne2 _ _ eh2 _ fb⟩;have eh5':(upd H4 lt (.lst (tv'++[y3,y2]))) lh=some (.lst hv'):=by rw [au (Ne.symm n3)];exact s34 _ _ eh2
  refine ⟨_,rfl,.inl ⟨rfl,_,SqL.of eh5'⟩,_,rfl,_,_,_,_,rfl,rfl,sp4.ts g5,rfl,_,rfl,_,_,_,_,rfl,rfl,sp4.ts g5,rfl,(by show 2<=sizeLine;decide),λq2 hq2=>?_⟩;have v2:=ak hq2 (.lst [.ref pb,.ref pa]);have eh5:(upd H4 lt (.lst (tv'++[y3,y2]))) lh=some (.lst hv'):=by rw [au (Ne.symm n3)];exact s34 _ _ eh2
  have ef5:(upd H4 lt (.lst (tv'++[y3,y2]))) lf=some (.lst fv):=by rw [au n1];exact s34 _ _ ef2
  have s25:aK H (upd H4 lt (.lst (tv'++[y3,y2]))):=aQ s24 Hlt _;have et5:(upd H4 lt (.lst (tv'++[y3,y2]))) lt=some (.lst (tv'++[y3,y2])):=ae;have df5:=(df2.same s34).mut (zs:=tv'++[y3,y2]) et4 λa z=>z.2.2.1;have dh5:=(dh2.same s34).mut (zs:=tv'++[y3,y2]) et4 λa z=>z.2.2.1;have da5:=(show HuL K H4 (λa=>H a=none/\a≠lf/\a≠lt/\a≠lh) (Hu.low r h1) (.ref pa) from ⟨pa,w1,rfl,na,ha4,p14⟩).mut (zs:=tv'++[y3,y2]) et4 λa z=>z.2.2.1;have db5:=(show HuL K H4 (λa=>H a=none/\a≠lf/\a≠lt/\a≠lh) (Hu.high r h1) (.ref pb) from ⟨pb,w2,rfl,nb,hb4,p24⟩).mut (zs:=tv'++[y3,y2]) et4 λa z=>z.2.2.1;have dt5:=(dt2.ts s34.ts).ts g5;have y35:=(d3.ts s34.ts).ts g5;have y25:=(d2.ts s34.ts).ts g5;generalize upd H4 lt (.lst (tv'++[y3,y2]))=H5 at *;have eh6:=v2 _ _ eh5;refine ⟨lh,q2,hv',[.ref pb,.ref pa],rfl,rfl,eh6,ae,(by show hv'.length+2<=sizeLine;exact Nat.le_of_lt (mY (by omega))),?_⟩;have g6:Tst (upd H5 q2 (.lst [.ref pb,.ref pa])) (upd (upd H5 q2 (.lst [.ref pb,.ref pa])) lh (.lst (hv'++[.ref pb,.ref pa]))):=dJ eh6;refine ⟨tot (S'++[(g,Hu.high r h1),(l,Hu.low r h1)]),?_,S'++[(g,Hu.high r h1),(l,Hu.low r h1)],F,fv,tv'++[y3,y2],hv'++[.ref pb,.ref pa],_,_,_,rfl,?_⟩
  ·rw [oP];simp only [tot,Hu.Tc.size] at hme ⊢;omega
  refine ⟨aQ (s25.trans v2) Hlh _,by rw [au n2];exact v2 _ _ ef5,by rw [au n3];exact v2 _ _ et5,ae,(df5.same v2).mut eh6 (λa z=>z.2.2.2),?_,?_,?_,?_,rfl,?_⟩
  ·rw [List.map_append];exact ((dt5.ts v2.ts).ts g6).append ⟨y3,[y2],rfl,(y35.ts v2.ts).ts g6,y2,[],rfl,(y25.ts v2.ts).ts g6,rfl⟩
  ·rw [List.map_append];exact ((dh5.same v2).mut eh6 λa z=>z.2.2.2).app ⟨_,_,rfl,(db5.same v2).mut eh6 (λa z=>z.2.2.2),_,_,rfl,(da5.same v2).mut eh6 (λa z=>z.2.2.2),rfl⟩
  ·rw [to,List.reverse_append];show (Hu.Tc.dM ((Hu.Tc.cut r l g,h1)::S'.reverse)).map _=(Hu.Tc.dM ((l,Hu.low r h1)::(g,Hu.high r h1)::S'.reverse)).map _;rw [Hu.Tc.Ar nc]
  ·intro q hq;rcases List.mem_append.mp hq with z | z
   ·exact ok' q z
   ·rcases List.mem_cons.mp z with z | z
    ·rw [z];exact ⟨C.hi,hsm.2.2,by show (Hu.high r h1).length+g.deep<=20;omega⟩
    ·rw [List.mem_singleton.mp z];exact ⟨C.lo,hsm.2.1,by show (Hu.low r h1).length+l.deep<=20;omega⟩
  ·rw [oP];simp only [tot,Hu.Tc.size] at hme ⊢;omega
def spFew:Sp:=λvs H Q _=>∃ i:Int,vs=[.int i]/\i<=8/\Q .non H
variable {c:CCs}
theorem ok_few {tm:Tok} (T:aD K mg "must_be_few" iw) (uL:mg "MOST_FOLDS"=some (.int 8 tm)):Def P w K mg base 1 "must_be_few" ["folds"] spFew:=by
 refine aR T jw (λ_ _ _ _ _ _=>L2.ar1 λ_=>rfl) ?_ ?_
 ·walk_at "i1";obtain ⟨i,rfl,_⟩:=h;rfl
 walk_at "i2";obtain ⟨i,rfl,hi,q⟩:=h;have nd:=jw.nd;refine ⟨_,ao (aP (aA kM (pv 0) (cL (v:=V.int 8) rfl uL ⟨_,rfl⟩) (aF _)) (ao vN) aH),?_⟩;refine ⟨_,rfl,_,_,rfl,rfl,_,rfl,eA (λc=>?_) (λ_=>q)⟩;have c:(8:Int) < i:=of_decide_eq_true c;exfalso;omega
structure yy (K:W.Frag) (mg:Str->Option Value) (x s:Str):Prop where
 ex:∃ a,mg x=some (.ref a)/\∀ H,SqT K H a [.str s]
theorem Ap {K:W.Frag} {h:Heap} {mg:Str->Option Value} {x s:Str} {a:Addr} {od:Option Addr} {its:Array Value} {n:Nat} {osl:Array (Option Value)} (X:K.In h) (G:h.Ns mainGlobals mg)
  (e:PySem.W.nsIn K mainGlobals x=some (some (.ref a))) (l:K.lookup a=some ⟨.type "tuple",od,.seq its n,osl⟩) (hz:its.size<=sizeLine) (v:Vals [V.str s] its.toList):yy K mg x s:=
 ⟨a,PySem.W.mg_of X G e,λ_=>.inr ⟨_,its,n,l,rfl,rfl,hz,v⟩⟩
def Gd (Ls:List (List Hu.Row)) (h:List T3) (T:Hu.Tc):Prop:=∃ L,T.told h=some L/\∀ g∈L,∀ rows∈Ls,∃ rs,Hu.run g rows []=.rules rs
theorem uR {r:T3} {l g:Hu.Tc} {h:List T3} (n:¬Hu.fZ r h):(Hu.Tc.cut r l g).told h=match l.told (Hu.low r h),g.told (Hu.high r h) with | some a,some b=>some (a++b) | _,_=>none:=by
 conv=>lhs;unfold Hu.Tc.told
 rw [if_neg n]
 all_goals (cases l.told (Hu.low r h) <;> cases g.told (Hu.high r h) <;> rfl)
theorem Gd.leaf {Ls:List (List Hu.Row)} {h:List T3} (k:∀ rows∈Ls,∃ rs,Hu.run h rows []=.rules rs):Gd Ls h .leaf:=⟨[h],rfl,λg hg rows hr=>by rw [List.mem_singleton.mp hg];exact k rows hr⟩
theorem Gd.cut {Ls:List (List Hu.Row)} {h:List T3} {t:T3} {X1 X2:Hu.Tc} (n:¬Hu.fZ t h) (a:Gd Ls (Hu.low t h) X1) (b:Gd Ls (Hu.high t h) X2):Gd Ls h (.cut t X1 X2):=by
 obtain ⟨L1,e1,k1⟩:=a;obtain ⟨L2,e2,k2⟩:=b;exact ⟨L1++L2,by rw [uR n,e1,e2],λg hg=>(List.mem_append.mp hg).elim (k1 g) (k2 g)⟩
theorem sq_tnl {Ls:List (List Hu.Row)} (h:(Ls.map Hu.fds).sum<=8):Hu.TnL Ls 8 Hu.sqH:=⟨Hu.lR,by show 4+8<=20;decide,Nat.le_trans (Hu.xE Ls λx _=>Hu.need_le _ x) h⟩
def vd (K:W.Frag) (n:Nat):Sp:=λvs H Q _=>∃(l lr:Addr) (us ws:List V) (rows:List Hu.Row) (h:List T3) (d:Nat),vs=[.ref l,.ref lr]/\H l=some (.lst us)/\DatAll K H (h.map t3D) us/\H lr=some (.lst ws)/\DatAll K H (rows.map kU) ws/\lF rows/\0 < rows.length/\rows.length<=60/\Hu.TnL [rows] d h/\d+1<=n/\∀(v:V) (T:Hu.Tc) (H':Hp),aK H H'->Dat K H' (tcD T) v->T.Sm 61->T.deep<=d->T.iA+1<=2 ^ d->Gd [rows] h T->Q v H'
theorem AQ {CN:Addr} (T:aD K mg "tree_on" ng) (TL:yy K mg "LEAF" "leaf") (oK:Def P w K mg base 4 "rules_of_rows" ["rows","hull"] (yW K)) (Fo:xb P w K mg base 3 "cut" ["hull","rule"] (CK K CN)):∀ n:Nat,Def P w K mg base (n+4) "tree_on" ["hull","rows"] (vd K n):=by
 intro n
 induction n with
 | zero =>
  refine aR T kP (λ_ _ _ _ _ _=>L2.ar2 λ_ _=>rfl) ?_ ?_
  ·walk_at "i1";obtain ⟨l,lr,us,ws,rows,h,d,rfl,_⟩:=h;rfl
  ·walk_at "i2";obtain ⟨l,lr,us,ws,rows,h,d,rfl,_,_,_,_,_,_,_,_,z,_⟩:=h;omega
 | succ n kE =>
  refine aR T kP (λ_ _ _ _ _ _=>L2.ar2 λ_ _=>rfl) ?_ ?_
  ·walk_at "i1";obtain ⟨l,lr,us,ws,rows,h,d,rfl,_⟩:=h;rfl
  walk_at "i2";obtain ⟨l,lr,us,ws,rows,h,d,rfl,el,da,er,dr,ok,pos,few,tn,dn,q⟩:=h;have nd:=kP.nd;obtain ⟨aLF,M_LEAF,qL⟩:=TL.ex;have n3:=tn.hk.n3;have hl:=tn.ln;refine ⟨_,(ah (aJ (i:=2) nd rfl (Or.inl rfl) (aE oK (hr.mono (by omega)) rfl (aa (pv 1) (aa (pv 0) af))))
  (ah (aP (aA bO (aG aB (pv 2) aq (λ_ _=>rfl)) aI (aF _)) (ao (av (cL (v:=V.ref aLF) rfl M_LEAF rfl))) aH)
  (ah (aJ (i:=3) nd rfl (Or.inl rfl) (aG aB (pv 2) aq (λ_ _=>rfl)))
  (ah (aJ (i:=4) nd rfl (Or.inl rfl) (zB Fo (hr.mono (by omega)) rfl (aa (pv 0) (aa (pv 3) af))))
  (ao (av (ba (aa aI (aa (pv 3) (aa (aE kE (hr.mono (by omega)) rfl (aa (aG aB (pv 4) aq (λ_ _=>rfl)) (aa (pv 1) af))) (aa (aE kE (hr.mono (by omega)) rfl (aa (aG aB (pv 4) aq (λ_ _=>rfl)) (aa (pv 1) af))) af))))))))))),?_⟩
  refine ⟨_,rfl,_,rfl,lr,l,ws,us,rows,h,rfl,er,dr,ok,pos,by omega,el,da,(λp hp=>(tn.hk.ok p hp).r.mono (by decide)),by omega,by omega,λrs t lr2 ws2 H1 s1 ru rb rl f2 st e2 d2=>?_,λk tt t v H1 s1 mx kl bt st dv=>?_⟩
  ·refine ⟨_,rfl,_,_,_,_,rfl,rfl,st,rfl,rfl,_,rfl,ite_yes rfl ?_⟩;exact q _ .leaf _ s1 (mW (qL _)) trivial (Nat.zero_le _) (Nat.one_le_two_pow) (Gd.leaf λx hx=>by rw [List.mem_singleton.mp hx];exact ⟨rs,ru⟩)
  ·refine ⟨_,rfl,_,_,_,_,rfl,rfl,st,rfl,rfl,_,rfl,ite_no (by decide+kernel) ?_⟩;obtain ⟨b40,d',ed,T1,T2⟩:=tn.cut List.mem_cons_self ok few mx;subst ed;refine ⟨_,rfl,_,_,_,_,rfl,rfl,st,rfl,?_⟩;refine ⟨_,rfl,_,rfl,l,v,us,h,tt,rfl,s1 _ _ el,da.ts s1.ts,dv,tn.hk.hull.mono (by decide) (by omega),b40.mono (by decide),(λz=>absurd z (Hu.rZ mx)),λ_ v2 H2 s2 cr=>?_⟩;obtain ⟨t2,a,b,us1,us2,rfl,nab,fa,fb,sq,ea,eb,d1,d2⟩:=cr;have s12:=s1.trans s2;refine ⟨_,rfl,_,rfl,_,_,_,_,rfl,rfl,sq,rfl,_,rfl,a,lr,us1,ws,rows,_,d',rfl,ea,d1,s12 _ _ er,dr.ts s12.ts,ok,pos,few,T1,by omega,λv3 X1 H3 s3 d3 m3 p3 c3 g3=>?_⟩;refine ⟨_,rfl,_,_,_,_,rfl,rfl,sq.ts s3.ts,rfl,_,rfl,b,lr,us2,ws,rows,_,d',rfl,s3 _ _ eb,d2.ts s3.ts,(s12.trans s3) _ _ er,dr.ts (s12.trans s3).ts,ok,pos,few,T2,by omega,λv4 X2 H4 s4 d4 m4 p4 c4 g4=>?_⟩;refine ⟨(by show 4<=sizeLine;decide),λp hp=>?_⟩;have u5:=ak hp (.tup [.str "cut",v,v3,v4]);have e2:2 ^ (d'+1)=2*2 ^ d':=by rw [Nat.pow_succ];omega
   exact q _ (.cut tt X1 X2) _ (((s12.trans s3).trans s4).trans u5) (Ci (SqT.of ae) (dv.ts (((s2.trans s3).trans s4).trans u5).ts) (d3.ts (s4.trans u5).ts) (d4.ts u5.ts)) ⟨b40,m3,m4⟩ (by simp only [Hu.Tc.deep];omega) (by show 1+X1.iA+X2.iA+1<=_;omega) (Gd.cut (Hu.rZ mx) g3 g4)
theorem ET {K:W.Frag} {te:TE} {js:List Nat} {σ:St} {H:Hp} {Q:VK} {l:Addr} {is:List Int} (g:Int->V) (sq:SqT K H l (is.map V.int)) (hx:is.length<=1000)
  (hs:∀(i:Int) (H':Hp) (N:VK),aK H H'->(∀ H'',aK H' H''->N (g i) H'')->te (some (.int i)::bL js σ) H' N)
  (hd:∀ D H',aK H H'->H D=none->H' D=some (.lst (is.map g))->Q (.ref D) H'):iD (λ_ H R=>R (Itt K l) H) kG te js σ H Q:=by
 intro D hD;refine ⟨λi m H'=>m=is.length - i/\i<=is.length/\aK H H'/\H' D=some (.lst ((is.take i).map g)),⟨is.length,rfl,Nat.zero_le _,ak hD _,ae⟩,?_⟩;rintro i m H2 ⟨rfl,hi,s2,eD⟩
 have sq2:=sq.ts s2.ts
 by_cases hlt:i < is.length
 ·have h1:(is.map V.int)[i]?=some (.int is[i]):=by rw [List.getElem?_map,List.getElem?_eq_getElem hlt];rfl
  refine .inr ⟨⟨_,_,sq2,h1⟩,λv H3 y=>?_⟩;obtain ⟨rfl,y⟩:=y;have hv:=y _ sq2;rw [h1] at hv;cases hv
  refine iC ?_;refine hs _ _ _ s2 λH4 s4=>?_;refine ⟨_,s4 _ _ eD,Nat.lt_of_le_of_lt (show _<=1000 by rw [List.length_map,List.length_take];omega) (by decide),is.length - (i+1),by omega,rfl,hlt,aQ (s2.trans s4) hD _,?_⟩;rw [ae,List.take_add_one,List.getElem?_eq_getElem hlt,List.map_append];rfl
 ·have ei:i=is.length:=by omega
  subst ei;rw [List.take_length] at eD;exact .inl ⟨⟨_,sq2,by simp⟩,hd D H2 s2 hD eD⟩
def PtS (K:W.Frag) (H:Hp) (p:Addr) (n x y:Int):Prop:=SqT K H p [.int n,.int x,.int y]/\1<=n/\0<=x/\x<=n/\0<=y/\y<=n
theorem PtS.to {K:W.Frag} {H H':Hp} {p:Addr} {n x y:Int} (h:PtS K H p n x y) (s:aK H H'):PtS K H' p n x y:=⟨h.1.ts s.ts,h.2⟩
def vj (K:W.Frag):Sp:=λvs H Q _=>∃(p:Addr) (n x y:Int),vs=[.ref p]/\PtS K H p n x y/\∀ H',aK H H'->Q (.bl true) H'
def pI (K:W.Frag):Sp:=λvs H Q _=>∃(p:Addr) (n x y:Int),vs=[.ref p]/\PtS K H p n x y/\∀ H',aK H H'->Q .non H'
def rG (c:CCs) (K:W.Frag):Sp:=λvs H Q _=>∃(a p:Addr) (t:Tr) (n x y:Int),vs=[.ref a,.ref p]/\Ob c H a t/\t.size<=1000/\PtS K H p n x y/\∀ H',aK H H'->Q (.int (t.worth n x y)) H'
theorem ud (T:aD K mg "is_point" dS) (aM:mg "isinstance"=none) (aZ:mg "tuple"=none) (bg:mg "len"=none) (mM:mg "all"=none) (yK:Def P w K mg base 1 "is_whole" ["thing"] va):Def P w K mg base 2 "is_point" ["thing"] (vj K):=by
 refine aR T pZ (λ_ _ _ _ _ _=>L2.ar1 λ_=>rfl) ?_ ?_
 ·walk_at "i1";obtain ⟨p,n,x,y,rfl,_⟩:=h;rfl
 walk_at "i2";obtain ⟨p,n,x,y,rfl,⟨e,g1,g2,g3,g4,g5⟩,q⟩:=h;have nd:=pZ.nd
 have ex1:∃ te,PE (cS CX0 P w K mg base ptN "is_point" (ag dS) f cdv A outer s H E).nox (allArg (ptAt 1)) te/\∀(Q':VK) (o1:Option V),(∀ l H',aK H H'->H' l=some (.lst [.bl true,.bl true,.bl true])->Q' (.ref l) H')->te [some (.ref p),o1] H Q':=by
  refine ⟨_,(fV rfl (qo (pv 0)) rfl (by decide+kernel) (by decide+kernel) rfl (show ∀ p∈Scope.names _,p.2=NameKind.free->List.lookup p.1 (ag dS).names=some .cell\/List.lookup p.1 (ag dS).names=some .free by decide+kernel) dD (show (["number"]:List Str).Nodup by decide+kernel) (λ_ _ _ _=>eU) (λ_ _ _ _=>(aE yK (hr.mono (by decide)) rfl (aa (pv 0) af)))),?_⟩;intro Q' o1 fin;refine iO ?_;refine ⟨_,rfl,p,rfl,⟨_,e⟩,?_⟩;refine ET (K:=K) (is:=[n,x,y]) (λ_=>.bl true) e (by show 3<=1000;decide) (λi H' N s1 hN=>?_) (λD H' s1 hD eD=>fin D H' s1 eD);exact ⟨_,rfl,i,rfl,hN _ (aK.refl _)⟩
 obtain ⟨t1,ht1,hq1⟩:=ex1
 refine ⟨_,ah (aP (PW.pt (ig (iy (gk (aC iQ rfl aM (by decide+kernel) (aa (pv 0) (aa (gD (v:=V.ty "tuple") rfl aZ (by decide+kernel) rfl) af))))) (gW (aA jh (aC bC rfl bg (by decide+kernel) (aa (pv 0) af)) aq (aF _))))) (ao (av kK)) aH) (ah (aP (iy (gk (aC (qU rfl) rfl mM (by decide+kernel) (aa ht1 af)))) (ao (av kK)) aH) (ah (aJ (i:=1) nd rfl (Or.inl rfl) (aG aB (pv 0) aq (λ_ _=>rfl)))
  (ao (av (kZ (fS qr (pv 1) aq (aF _)) (kZ (vP ji ji aq (aG aB (pv 0) aq (λ_ _=>rfl)) (pv 1)) (qp (vP ji ji aq (aG aB (pv 0) aq (λ_ _=>rfl)) (pv 1))))))))),?_⟩
 refine ⟨_,rfl,_,_,_,_,true,rfl,(λ_ h=>h),e,fX,_,rfl,?_⟩;refine bH ⟨_,rfl,_,3,rfl,.inr ⟨_,e,rfl⟩,rfl,_,rfl,?_⟩;refine sH rfl ?_;refine hq1 _ _ λl H1 s1 el=>?_;have e1:=e.ts s1.ts;refine ⟨l,[true,true,true],rfl,SqL.of el,_,rfl,bH ?_⟩;refine ⟨_,rfl,_,_,_,_,rfl,rfl,e1,rfl,?_⟩;refine ⟨_,rfl,_,_,rfl,rfl,_,rfl,?_⟩;rw [decide_eq_true (show n ≥ 1 from g1)];refine dN ⟨_,rfl,_,_,_,_,rfl,rfl,e1,rfl,_,_,rfl,rfl,_,rfl,?_⟩;rw [decide_eq_true (show (0:Int)<=x from g2)];refine dN ⟨_,rfl,_,_,rfl,rfl,_,rfl,?_⟩;rw [decide_eq_true (show x<=n from g3)];refine dN ⟨_,rfl,_,_,_,_,rfl,rfl,e1,rfl,_,_,rfl,rfl,_,rfl,?_⟩;rw [decide_eq_true (show (0:Int)<=y from g4)];refine dN ⟨_,rfl,_,_,rfl,rfl,?_⟩;show Q (.bl (decide (y<=n))) H1;rw [decide_eq_true (show y<=n from g5)];exact q _ s1
theorem vV (T:aD K mg "must_be_point" gh) (yL:Def P w K mg base 2 "is_point" ["thing"] (vj K)):Def P w K mg base 3 "must_be_point" ["thing"] (pI K):=by
 refine aR T rN (λ_ _ _ _ _ _=>L2.ar1 λ_=>rfl) ?_ ?_
 ·walk_at "i1";obtain ⟨p,n,x,y,rfl,_⟩:=h;rfl
 walk_at "i2";obtain ⟨p,n,x,y,rfl,g,q⟩:=h;have nd:=rN.nd;refine ⟨_,(ao (aP (iy (gk (aE yL (hr.mono (by decide)) rfl (aa (pv 0) af)))) (ao vN) aH)),?_⟩;exact ⟨_,rfl,p,n,x,y,rfl,g,λH' s'=>⟨_,rfl,bH (q _ s')⟩⟩
theorem rH:az ["saying","point"] ["saying","point"] (ag tH):=L2.fsc rfl (by decide+kernel)
theorem xR (T:aD K mg "worth" tH) (oM:Def P w K mg base 3 "must_be_point" ["thing"] (pI K)) (M:∀ t,aT P w K mg base (c.of t) "out_of" 3 ["self","n","x","y"] (CD c t)):Def P w K mg base 4 "worth" ["saying","point"] (rG c K):=by
 refine aR T rH (λ_ _ _ _ _ _=>L2.ar2 λ_ _=>rfl) ?_ ?_
 ·walk_at "i1";obtain ⟨a,p,t,n,x,y,rfl,_⟩:=h;rfl
 walk_at "i2";obtain ⟨a,p,t,n,x,y,rfl,o,z,g,q⟩:=h;have nd:=rH.nd
 refine ⟨_,(ah (bf (aE oM (hr.mono (by decide)) rfl (aa (pv 1) af)))
  (ao (av (qq (k:=3) (pv 0) (hr.mono (by omega)) (aa (aG aB (pv 1) aq (λ_ _=>rfl)) (aa (aG aB (pv 1) aq (λ_ _=>rfl)) (aa (aG aB (pv 1) aq (λ_ _=>rfl)) af))))))),?_⟩
 refine ⟨_,rfl,p,n,x,y,rfl,g,λH1 s1=>?_⟩;have o1:=o.to (Kp.of s1);have e1:=(g.to s1).1;obtain ⟨dx,fs,ea,nf⟩:=o1.cls;exact ⟨_,rfl,a,_,_,_,_,_,rfl,ea,nf _ (by decide+kernel),M t,_,rfl,_,_,_,_,rfl,rfl,e1,rfl,_,rfl,_,_,_,_,rfl,rfl,e1,rfl,_,rfl,_,_,_,_,rfl,rfl,e1,rfl,a,n,x,y,rfl,o1,z,λH2 s2=>q _ (s1.trans s2)⟩
namespace Hu
theorem Tc.told_cone:∀{t:Tc} {h:List T3} {L:List (List T3)},HK h->t.Sm 64->t.told h=some L->∀ g∈L,∀ c∈g,gH h c
 | .leaf,h,L,H,_,e,g,hg,c,hc=>by
  cases e
  rw [List.mem_singleton.mp hg] at hc;exact iN hc
 | .cut r l k,h,L,H,sm,e,x,hx,p,hp=>by
  unfold Tc.told at e;split at e
  ·cases e
  ·rename_i nc;have c:=Hu.iA H sm.1 nc;cases ea:l.told (low r h) with
   | none=>rw [ea] at e;cases e
   | some a=>cases eb:k.told (high r h) with
    | none=>rw [ea,eb] at e;cases e
    | some b =>
     rw [ea,eb] at e;cases e
     rcases List.mem_append.mp hx with z | z
     ·exact gH.sub (kq H) (Tc.told_cone c.lo sm.2.1 ea x z p hp)
     ·exact gH.sub (kq H) (Tc.told_cone c.hi sm.2.2 eb x z p hp)
theorem cone_sq {p:T3} (C:gH sqH p):0<=p.v/\p.v<=p.u/\0<=p.w/\p.w<=p.u:=by
 have h:∀ f:T3,0<=tl f ⟨1,0,0⟩->0<=tl f ⟨1,1,0⟩->0<=tl f ⟨1,1,1⟩->0<=tl f ⟨1,0,1⟩->0<=tl f p:=λf a b c d=>C f λx hx=>by
  simp only [sqH,List.mem_cons,List.not_mem_nil,or_false] at hx;rcases hx with rfl | rfl | rfl | rfl <;> assumption
 have e:∀ f q:T3,tl f q=f.u*q.v+f.v*q.w+f.w*q.u:=λ_ _=>rfl;have h1:=h ⟨1,0,0⟩ (by decide) (by decide) (by decide) (by decide);have h2:=h ⟨-1,0,1⟩ (by decide) (by decide) (by decide) (by decide);have h3:=h ⟨0,1,0⟩ (by decide) (by decide) (by decide) (by decide);have h4:=h ⟨0,-1,1⟩ (by decide) (by decide) (by decide) (by decide);rw [e] at h1 h2 h3 h4;refine ⟨?_,?_,?_,?_⟩ <;> simp at h1 h2 h3 h4 <;> omega
end Hu
theorem jW:∀{t:Hu.Tc} {h:List T3} {L:List (List T3)},t.told h=some L->L.length=t.iA+1
 | .leaf,h,L,e=>by cases e;rfl
 | .cut r l g,h,L,e=>by
  unfold Hu.Tc.told at e;split at e
  ·cases e
  ·cases ea:l.told (Hu.low r h) with
   | none=>rw [ea] at e;cases e
   | some a=>cases eb:g.told (Hu.high r h) with
    | none=>rw [ea,eb] at e;cases e
    | some b =>
     rw [ea,eb] at e;cases e
     have:=jW ea;have:=jW eb;rw [List.length_append];show _=1+l.iA+g.iA+1;omega
def HuV (K:W.Frag) (H:Hp) (v:V) (h:List T3):Prop:=∃(a:Addr) (us:List V),v=.ref a/\H a=some (.lst us)/\DatAll K H (h.map t3D) us
theorem HuV.to {K:W.Frag} {H H':Hp} (s:aK H H') (v:V) (h:List T3) (y:HuV K H v h):HuV K H' v h:=by
 obtain ⟨a,us,rfl,e,d⟩:=y;exact ⟨a,us,rfl,s _ _ e,d.ts s.ts⟩
theorem bM.all2 {K:W.Frag} {H:Hp} {N:Addr->Prop}:∀{L:List (List T3)} {vs:List V},bM K H N L vs->bW (HuV K H) vs L
 | [],_,g=>by cases (show _=([]:List V) from g);exact .nil
 | _::_,_,⟨v,r,e,⟨a,us,e1,_,e2,e3⟩,g2⟩=>by subst e;exact .cons ⟨a,us,e1,e2,e3⟩ g2.all2
theorem w5_bd {u:W5} {n i j:Int} (hn:0<=n) (a:0<=i/\i<=n) (b:0<=j/\j<=n):0<=u.worth n i j/\u.worth n i j<=n:=by
 cases u with
 | more=>show 0<=min (i+j) n/\min (i+j) n<=n;omega
 | less=>show 0<=max (i+j - n) 0/\max (i+j - n) 0<=n;omega
 | greater=>show 0<=max i j/\max i j<=n;omega
 | lesser=>show 0<=min i j/\min i j<=n;omega
 | leads=>show 0<=min (n - i+j) n/\min (n - i+j) n<=n;omega
theorem jm {n x y:Int} (hn:0<=n) (a:0<=x/\x<=n) (b:0<=y/\y<=n):∀ t:Tr,0<=t.worth n x y/\t.worth n x y<=n
 | .no t=>by
  have:=jm hn a b t;show 0<=n - t.worth n x y/\n - t.worth n x y<=n;omega
 | .fold w u v=>w5_bd hn (jm hn a b u) (jm hn a b v)
 | .never=>⟨Int.le_refl _,hn⟩
 | .always=>⟨hn,Int.le_refl _⟩
 | .lp=>a
 | .lq=>b
def dC:List Tr->List Rw->List Rw×List Nat
 | [],rs=>(rs,[])
 | t::r,rs=>((dC r (t.putR rs).1).1,(t.putR rs).2::(dC r (t.putR rs).1).2)
theorem kW (x:Tr):∀(l:List Tr) (rs:List Rw),dC (l++[x]) rs=((x.putR (dC l rs).1).1,(dC l rs).2++[(x.putR (dC l rs).1).2])
 | [],rs=>rfl
 | t::r,rs=>by
  show ((dC (r++[x]) (t.putR rs).1).1,(t.putR rs).2::(dC (r++[x]) (t.putR rs).1).2)=_;rw [kW x r];rfl
theorem AH (t:Tr) (rs:List Rw):t.putR rs=aN (dC t.kids rs).1 (dj t.word (dC t.kids rs).2):=by cases t <;> rfl
theorem nC:∀(l:List Tr) (rs:List Rw),(dC l rs).1.length<=rs.length+bK l
 | [],rs=>by simp [dC,bK]
 | t::r,rs=>by
  have h1:=eQ t rs;have h2:=nC r (t.putR rs).1;have e:bK (t::r)=t.size+bK r:=by simp [bK]
  show (dC r (t.putR rs).1).1.length<=_;omega
theorem qj:∀(l:List Tr) (rs:List Rw),(∀ x∈rs,nR x)->∀ x∈(dC l rs).1,nR x
 | [],rs,h=>h
 | t::r,rs,h=>qj r _ (mf t rs h)
theorem rV:∀(l:List Tr) (rs:List Rw),(dC l rs).2.length=l.length
 | [],rs=>rfl
 | t::r,rs=>congrArg (·+1) (rV r _)
theorem xH (l:List Tr) (i:Nat):bK (l.take i)<=bK l:=by
 have:bK l=bK (l.take i)+bK (l.drop i):=by rw [<- jY,List.take_append_drop]
 omega
def xG (n:Nat):Sp:=λvs H Q _=>∃(a:Addr) (t:Tr),vs=[.ref a]/\Tu H a t/\t.size<=n/\∀ H',aK H H'->Q (.int (t.nf:Int)) H'
theorem kids_nf (t:Tr):(if (t.kids.length+1:Nat)=3 then (1:Int) else 0)+(t.kids.map λx=>(x.nf:Int)).sum=(t.nf:Int):=by
 cases t with
 | no t=>rw [zH];simp [Tr.kids]
 | fold u a b=>rw [oZ];simp [Tr.kids];omega
 | never=>rfl
 | always=>rfl
 | lp=>rfl
 | lq=>rfl
section
variable {P:Program} {w:World} {K:W.Frag} {mg:Str->Option Value} {base:Heap} {c:CCs}
theorem ok_nf50 (T:aD K mg "_law_folds" iL) (Fd:mg "sum"=none) (fe:mg "int"=none) (bg:mg "len"=none):∀ n:Nat,Def P w K mg base (n+1) "_law_folds" ["_law_tree"] (xG n):=by
 intro n
 induction n with
 | zero =>
  refine aR T kR (λ_ _ _ _ _ _=>L2.ar1 λ_=>rfl) ?_ ?_
  ·walk_at "i1";obtain ⟨a,t,rfl,_⟩:=h;rfl
  ·walk_at "i2";obtain ⟨a,t,rfl,_,z,_⟩:=h;have:=t.size_pos;omega
 | succ n dI =>
  refine aR T kR (λ_ _ _ _ _ _=>L2.ar1 λ_=>rfl) ?_ ?_
  ·walk_at "i1";obtain ⟨a,t,rfl,_⟩:=h;rfl
  walk_at "i2";obtain ⟨a,t,rfl,tu,hz,q⟩:=h;have nd:=kR.nd;obtain ⟨us,e,ou⟩:=tu.parts;have ul:=ou.len;refine ⟨_,(ao (av (aL bR (cB iR rfl fe (by decide+kernel) (aa (fS bO (aC bC rfl bg (by decide+kernel) (aa (pv 0) af)) aq (aF _)) af)) (aC (BE rfl) rfl Fd (by decide+kernel) (aa (fV rfl (qo (jF oR (pv 0) (mh aq) mj)) rfl (by decide+kernel) (by decide+kernel) rfl (show ∀ p∈Scope.names _,p.2=NameKind.free->List.lookup p.1 (ag iL).names=some .cell\/List.lookup p.1 (ag iL).names=some .free by decide+kernel) dD (show (["_law_part"]:List Str).Nodup by decide+kernel) (λ_ _ _ _=>eU) (λ_ _ _ _=>(aE dI (hr.mono (by omega)) rfl (aa (pv 0) af)))) af))))),?_⟩;refine ⟨_,rfl,_,_,rfl,.inr ⟨_,SqT.of e,rfl⟩,rfl,.inr ⟨_,rfl,?_⟩⟩;dsimp only [Cn,tOp,tC,tCB,fo,pG];refine iO ?_;refine ⟨_,rfl,_,rfl,?_⟩;dsimp only [lM];refine sl1 (K:=K) e λp hp=>?_;refine ⟨p,rfl,⟨_,SqT.of ae⟩,?_⟩;have sp:=ak hp (.tup us)
  refine BC (K:=K) (ts:=t.kids) (R:=TuV) (xs:=us) (λx=>.int (x.nf:Int)) (λ_ _ v t e h=>TuV.to (Kp.of e) v t h) (λl H'=>l=p/\H'=upd H p (.tup us)) (λR h=>h p _ ⟨rfl,rfl⟩) (λl H' h=>by obtain ⟨rfl,rfl⟩:=h;exact ⟨ae,aK.refl _⟩) (by rw [ul];have:=jJ t;omega)
   (ou.imp (TuV.to (Kp.of sp))) (λv x H' N hx hv hN=>?_) (λD H6 s6 hD eD=>?_)
  ·obtain ⟨b,rfl,tb⟩:=hv;have:=qB hx;exact ⟨_,rfl,b,x,rfl,tb,by omega,hN⟩
  ·refine ⟨D,t.kids.map λx=>(x.nf:Int),rfl,SqL.of (by rw [List.map_map];exact eD),_,_,rfl,rfl,?_⟩;have ks:=kids_nf t
   have e1:(if decide (V.int (((V.str t.word::us).length:Nat):Int)=V.int 3)=true then (1:Int) else 0)=if t.kids.length+1=3 then (1:Int) else 0:=by
    rw [List.length_cons,ul]
    by_cases h3:t.kids.length+1=3
    ·rw [if_pos h3,h3,if_pos (by decide)]
    ·rw [if_neg h3,if_neg (λz=>h3 (by have:=V.int.inj (of_decide_eq_true z);omega))]
   try dsimp only
   rw [e1,ks];exact q _ (sp.trans s6)
def CB (K:W.Frag) (n:Nat):Sp:=λvs H Q _=>∃(a l:Addr) (t:Tr) (rs:List Rw) (us:List V),vs=[.ref a,.ref l]/\Tu H a t/\t.size<=n/\H l=some (.lst us)/\bW (RwV H) us rs/\rs.length+t.size<=1000/\(∀ x∈rs,nR x)/\
 ∀ H' us',SB (.ref l) H H'->H' l=some (.lst us')->bW (RwV H') us' (t.putR rs).1->Q (.int ((t.putR rs).2:Nat)) H'
theorem ok_rt50 (T:aD K mg "_law_rows_to" fU) (aZ:mg "tuple"=none):∀ n:Nat,Def P w K mg base (n+1) "_law_rows_to" ["_law_tree","_law_rows"] (CB K n):=by
 intro n
 induction n with
 | zero =>
  refine aR T iW (λ_ _ _ _ _ _=>L2.ar2 λ_ _=>rfl) ?_ ?_
  ·walk_at "i1";obtain ⟨a,l,t,rs,us,rfl,_⟩:=h;rfl
  ·walk_at "i2";obtain ⟨a,l,t,rs,us,rfl,_,z,_⟩:=h;have:=t.size_pos;omega
 | succ n fm =>
  refine aR T iW (λ_ _ _ _ _ _=>L2.ar2 λ_ _=>rfl) ?_ ?_
  ·walk_at "i1";obtain ⟨a,l,t,rs,us,rfl,_⟩:=h;rfl
  walk_at "i2";obtain ⟨a,l,t,rs,vs0,rfl,tu,hz,el,rv,hb,rok,q⟩:=h;have nd:=iW.nd;have hu:=hr.units;obtain ⟨us,e,ou⟩:=tu.parts;refine ⟨_,(ah (oU (i:=2) nd rfl (Or.inl rfl) (Or.inl rfl) rfl rfl (qo (jF oR (pv 0) (mh aq) mj)) rfl (by decide+kernel) (by decide+kernel) rfl (show ∀ p∈Scope.names _,p.2=NameKind.free->List.lookup p.1 (ag fU).names=some .cell\/List.lookup p.1 (ag fU).names=some .free by decide+kernel) (dR (j:=1) rfl (Or.inl rfl) (by decide+kernel) (Or.inl rfl) dD) (show (["_law_part","_law_rows"]:List Str).Nodup by decide+kernel) (λ_ _ _ _=>eU) (λ_ _ _ _=>(aE fm (hr.mono (by omega)) rfl (aa (pv 0) (aa (pv 1) af)))))
  (ah (aJ (i:=3) nd rfl (Or.inl rfl) (aL zE (ba (aa (aG aB (pv 0) aq (λ_ _=>rfl)) af)) (cB cH rfl aZ (by decide+kernel) (aa (pv 2) af))))
  (ah (aP (aA (AL hu) (pv 3) (pv 1) rfl) (ao (bf (cI PySem.F.plainAttrs_list PySem.F.slot_list_append PySem.F.type_list_append aW (pv 1) (aa (pv 3) af)))) aH)
  (ao (av (cI PySem.F.plainAttrs_list PySem.F.slot_list_index PySem.F.type_list_index (Bm hu) (pv 1) (aa (pv 3) af))))))),?_⟩
  have ksz:=sv t;have kl:=jJ t;have ul:=ou.len;dsimp only [tSeq,uV];refine iO ?_;refine ⟨_,rfl,_,rfl,?_⟩;dsimp only [lM];refine sl1 (K:=K) e λp hp=>?_;refine ⟨p,rfl,⟨_,SqT.of ae⟩,?_⟩;have sp:=ak hp (.tup us);have ep:upd H p (.tup us) p=some (.tup us):=ae;generalize upd H p (.tup us)=H1 at sp ep ⊢;have el1:=sp _ _ el
  refine wK (K:=K) (xs:=us) (λl' H'=>l'=p/\H'=H1) (λR h=>h p _ ⟨rfl,rfl⟩) (λl' H' h=>by obtain ⟨rfl,rfl⟩:=h;exact ep) (by omega)
   (λl' D i ys H'=>H1 D=none/\ys=(dC (t.kids.take i) rs).2.map (λi:Nat=>V.int (i:Int))/\SB (.ref l) H1 H'/\∃ vs1,H' l=some (.lst vs1)/\bW (RwV H') vs1 (dC (t.kids.take i) rs).1) (λl' H' D src hD=>?_) (λl' D i v ys H' hv nl el' eD h N hN=>?_) (λl' D ys H' el' eD h=>?_)
  ·obtain ⟨rfl,rfl⟩:=src;have sD:=ak hD (.lst []);exact ⟨hD,rfl,SB.of sD,vs0,sD _ _ el1,rv.imp (RwV.to (Kp.of (sp.trans sD)))⟩
  ·obtain ⟨hD,rfl,sb,vs1,elv,rv1⟩:=h;obtain ⟨x,hx,b,rfl,tb⟩:=ou.get i v hv;have xm:x∈t.kids:=List.mem_of_getElem? hx;have xs:=qB xm;have kp:Kp H1 H':=sb.kp λa' o' z1 z2=>by cases z1;rw [el1] at z2;cases z2;rfl
   have pl:=nC (t.kids.take i) rs;have hsn:t.kids.take (i+1)=t.kids.take i++[x]:=by rw [List.take_add_one,hx];rfl
   have st:bK (t.kids.take (i+1))<=bK t.kids:=xH _ _;have st2:bK (t.kids.take (i+1))=bK (t.kids.take i)+x.size:=by rw [hsn,jY];simp [bK]
   have nDl:D≠l:=λz=>by subst z;rw [hD] at el1;cases el1
   refine ⟨_,rfl,_,rfl,b,l,x,(dC (t.kids.take i) rs).1,vs1,rfl,(tb.to (Kp.of sp)).to kp,by omega,elv,rv1,by omega,qj _ _ rok,λH2 vs2 sb2 el2 rv2=>?_⟩;have ep2:=sb2 _ _ el' λz=>by cases z;rw [el'] at elv;cases elv
   have eD2:=sb2 _ _ eD λz=>nDl (by cases z;rfl);refine hN _ _ ep2 eD2 ⟨hD,?_,λd o z n=>?_,vs2,?_,?_⟩
   ·rw [hsn,kW,List.map_append];rfl
   ·rw [au (λy=>by subst y;rw [hD] at z;cases z)]
    exact sb2 _ _ (sb _ _ z n) n
   ·rw [au (Ne.symm nDl)];exact el2
   ·rw [hsn,kW];exact rv2.imp (RwV.to (gp eD2 rfl))
  ·obtain ⟨hD,rfl,sb,vs1,el6,rv6⟩:=h;rw [ul,List.take_length] at eD rv6;have pl:=nC t.kids rs;have pc:=rV t.kids rs;have pok:=qj t.kids rs rok;have e6:H' a=some (.tup (.str t.word::us)):=sb _ _ (sp _ _ e) λz=>by cases z;rw [sp _ _ e] at el1;cases el1
   refine ⟨_,rfl,_,_,_,_,rfl,rfl,SqT.of e6,cg (j:=0) rfl,(by show 1<=sizeLine;decide),λr0 hr00=>?_⟩;have sr:=ak hr00 (.tup [V.str t.word]);refine ⟨_,rfl,D,_,rfl,.inl ⟨SqL.of (sr _ _ eD),λr1 hr1=>?_⟩⟩;have sr1:=ak hr1 (.tup ((dC t.kids rs).2.map λi:Nat=>V.int (i:Int)));refine wO (K:=K) (sr1 _ _ ae) ae (by simp) (by simp only [List.length_cons,List.length_nil,List.length_map];exact Nat.le_trans (show _<=5 by omega) (by decide)) λrw' H4 s4 e4=>?_;have s14:=(sr.trans sr1).trans s4;have e6':RwV H4 (.ref rw') (dj t.word (dC t.kids rs).2):=⟨rw',rfl,by rw [tQ];exact e4⟩;have sb06:SB (.ref l) H H4:=λd o z n=>s14 _ _ (sb _ _ (sp _ _ z) n);have el6:=s14 _ _ el6;have rv6:=rv6.imp (RwV.to (Kp.of s14));have hr0:nR (dj t.word (dC t.kids rs).2):=iY (word_ok t);have vl:=rv6.len;have hput:=AH t rs;clear eD;generalize dj t.word (dC t.kids rs).2=r at e6' hr0 hput;generalize (dC t.kids rs).1=rs1 at *;refine ⟨_,rfl,_,rfl,rwD r,rs1.map rwD,l,vs1,.inl e6'.dat,rfl,SqL.of el6,RwV.all rv6,tN pok,xM hr0,Nat.le_trans (nv _) (by decide),_,rfl,?_⟩;rw [rws_any]
   have fin:∀(H7:Hp) (vs7:List V),SB (.ref l) H H7->H7 l=some (.lst vs7)->bW (RwV H7) vs7 (aN rs1 r).1->RwV H7 (.ref rw') r->∃ j,(aN rs1 r).2=j/\zu K (.ref l) [.ref rw'] H7 Q:=by
    intro H7 vs7 sb7 el7 rv7 e7;refine ⟨_,rfl,l,vs7,.ref rw',(aN rs1 r).1.map rwD,rwD r,(aN rs1 r).2,rwD r,rfl,rfl,el7,RwV.all rv7,e7.dat,tN (ja pok hr0),xM hr0,Nat.le_trans (nv _) (by decide),?_,?_,?_,?_⟩
    ·rw [List.getElem?_map];unfold aN;cases hx0:idx rs1 r with
     | some i=>exact congrArg (Option.map rwD) (ur hx0)
     | none=>show ((rs1++[r])[rs1.length]?).map rwD=_;simp
    ·rw [tO,decide_eq_true rfl]
    ·intro m x hm hx;rw [List.getElem?_map] at hx;obtain ⟨y,hy,rfl⟩:=Option.map_eq_some_iff.mp hx;rw [tO,decide_eq_false_iff_not];unfold aN at hm hy;cases hx0:idx rs1 r with
     | some i=>rw [hx0] at hm hy;exact sJ hx0 m y hm hy
     | none =>
      rw [hx0] at hm hy;have hm':m < rs1.length:=hm
      have hy':rs1[m]?=some y:=by
       have:=hy;simp only [List.getElem?_append_left hm'] at this;exact this
      intro z;subst z;exact wD hx0 (List.mem_of_getElem? hy')
    ·have:=q H7 vs7 sb7 el7 (by rw [hput];exact rv7);rw [hput] at this;exact this
   cases hx0:idx rs1 r with
   | some i =>
    refine bH ?_;have hp7:(aN rs1 r).1=rs1:=by unfold aN;rw [hx0]
    obtain ⟨_,_,g⟩:=fin H4 vs1 sb06 el6 (by rw [hp7];exact rv6) e6';exact ⟨_,rfl,.inl ⟨rfl,_,SqL.of el6⟩,_,rfl,g⟩
   | none =>
    refine dN ?_;have hp7:(aN rs1 r).1=rs1++[r]:=by unfold aN;rw [hx0]
    refine ⟨_,rfl,.inl ⟨rfl,_,SqL.of el6⟩,_,rfl,l,_,_,rfl,rfl,el6,by rw [vl];exact Nat.lt_of_le_of_lt (show _<=1000 by omega) (by decide),?_⟩;have km:Kp H4 (upd H4 l (.lst (vs1++[.ref rw']))):=gp el6 rfl;obtain ⟨_,_,g⟩:=fin (upd H4 l (.lst (vs1++[.ref rw']))) (vs1++[.ref rw']) (sb06.trans (jy _ _)) ae (by rw [hp7];exact (rv6.imp (RwV.to km)).app (.cons (RwV.to km _ _ e6') .nil)) (RwV.to km _ _ e6');exact ⟨_,rfl,.inl ⟨rfl,_,SqL.of ae⟩,_,rfl,g⟩
end
end Mine
namespace PySem
section
variable {prog:Program} {w:World} {A:Around} {E:Value->Shared->Prop} {s:Shared} {l:Addr} {xs:Array (Int×Tok)}
theorem yd {Q:Value->Shared->Prop} (hh:A.handled=none) (hl:s.heap.IsTuple l (intItems xs)) (hne:0 < xs.size)
  (h:∀ v h' tk,(intItems xs)[argBest (λi j=>decide (numAt xs i < numAt xs j)) (xs.size - 1)]?=some v->(∀ b o,s.heap.get? b=some o->h'.get? b=some o)->Q v {s with heap:=h',toks:=tk}) :
  wpAny (model prog w) A (call (.builtin "min") [.ref l]) Q E s:=by
 have hlt:l < s.heap.objs.size:=by obtain ⟨_,e,_⟩:=hl;exact Heap.lt_size e
 refine call_min_walk (wpAny_pyIter_tuple hl ?_);refine ⟨_,[s.heap.objs.size,l],[s.heap.objs.size],_,_,_,_,rfl,Walks.tuple (A:=A.in1) hh _ l (Nat.ne_of_lt hlt) (intItems xs),⟨⟨_,Heap.get?_push_size _ rfl,rfl,rfl⟩,hl.push _⟩,(λb hb=>?_),by simpa [intItems] using hne,CmpOf.ints_lt (numAt xs) (λ_ _=>intItems_at),λv h' tk hP hk=>?_⟩
 ·show b < (s.heap.push _).objs.size;rw [Heap.size_push];rcases List.mem_cons.mp hb with rfl | hb
  ·exact Nat.lt_succ_self _
  ·rcases List.mem_cons.mp hb with rfl | hb
   ·exact Nat.lt_succ_of_lt hlt
   ·cases hb
 ·exact h v h' tk (by simpa [intItems] using hP) (λb o e=>hk b o (λhm=>by
   rcases List.mem_cons.mp hm with e1 | hm
   ·exact absurd (e1 ▸ Heap.lt_size e) (Nat.lt_irrefl _)
   ·cases hm) (Heap.get?_push_of_some _ e))
theorem yf {Q:Value->Shared->Prop} (hh:A.handled=none) (hl:s.heap.IsTuple l (intItems xs)) (hne:0 < xs.size)
  (h:∀ v h' tk,(intItems xs)[argBest (λi j=>decide (numAt xs i > numAt xs j)) (xs.size - 1)]?=some v->(∀ b o,s.heap.get? b=some o->h'.get? b=some o)->Q v {s with heap:=h',toks:=tk}) :
  wpAny (model prog w) A (call (.builtin "max") [.ref l]) Q E s:=by
 have hlt:l < s.heap.objs.size:=by obtain ⟨_,e,_⟩:=hl;exact Heap.lt_size e
 refine call_max_walk (wpAny_pyIter_tuple hl ?_);refine ⟨_,[s.heap.objs.size,l],[s.heap.objs.size],_,_,_,_,rfl,Walks.tuple (A:=A.in1) hh _ l (Nat.ne_of_lt hlt) (intItems xs),⟨⟨_,Heap.get?_push_size _ rfl,rfl,rfl⟩,hl.push _⟩,(λb hb=>?_),by simpa [intItems] using hne,CmpOf.ints_gt (numAt xs) (λ_ _=>intItems_at),λv h' tk hP hk=>?_⟩
 ·show b < (s.heap.push _).objs.size;rw [Heap.size_push];rcases List.mem_cons.mp hb with rfl | hb
  ·exact Nat.lt_succ_self _
  ·rcases List.mem_cons.mp hb with rfl | hb
   ·exact Nat.lt_succ_of_lt hlt
   ·cases hb
 ·exact h v h' tk (by simpa [intItems] using hP) (λb o e=>hk b o (λhm=>by
   rcases List.mem_cons.mp hm with e1 | hm
   ·exact absurd (e1 ▸ Heap.lt_size e) (Nat.lt_irrefl _)
   ·cases hm) (Heap.get?_push_of_some _ e))
end
end PySem
namespace L2
open PySem PySem.Spec PyProof.Rows
section
variable {X:Cx}
theorem BF {K:W.Frag} (hk:X.K=K) (hc:X.calm=true):fq X (.builtin "min") (λxs H Q=>∃(l:Addr) (ns:List Int),xs=[.ref l]/\SqT K H l (ns.map V.int)/\0 < ns.length/\∀ M,M∈ns->(∀ a∈ns,M<=a)->Q (.int M) H):=by
 subst hk;intro pins s σ H xs us Q I r h;obtain ⟨l,ns,rfl,hq,hne,q⟩:=h;obtain ⟨u,rfl,rx⟩:=vals1 r;cases rx
 obtain ⟨its,rv,pl,_⟩:=I.tuple hq;have hi:IntsAre its ns:=intsAre_of rv;have hl:s.heap.IsTuple l its.toArray:=pl;obtain ⟨ys,e⟩:=hi.allInts.items;have en:ns=ys.toList.map (·.1):=by rw [<- hi.numsOf,<- nums_intItems,<- e]
 have sz:ns.length=ys.size:=by rw [en,List.length_map,Array.length_toList]
 rw [e] at hl;refine yd (I.ok.hd hc) hl (by omega) λv h' tk hv hk=>?_;obtain ⟨t,rfl⟩:=intItems_at hv;obtain ⟨h1,h2⟩:=argBest_lt (numAt ys) (ys.size - 1);refine ⟨.int _,H,I.kept hk,⟨t,rfl⟩,q _ ?_ λa ha=>?_⟩
 ·rw [numAt_eq,<- en];exact PySem.getD_mem (by omega)
 ·rw [en] at ha;obtain ⟨j,hj,rfl⟩:=mem_getD ha;rw [<- numAt_eq];exact h2 j (by rw [List.length_map,Array.length_toList] at hj;omega)
theorem BG {K:W.Frag} (hk:X.K=K) (hc:X.calm=true):fq X (.builtin "max") (λxs H Q=>∃(l:Addr) (ns:List Int),xs=[.ref l]/\SqT K H l (ns.map V.int)/\0 < ns.length/\∀ M,M∈ns->(∀ a∈ns,a<=M)->Q (.int M) H):=by
 subst hk;intro pins s σ H xs us Q I r h;obtain ⟨l,ns,rfl,hq,hne,q⟩:=h;obtain ⟨u,rfl,rx⟩:=vals1 r;cases rx
 obtain ⟨its,rv,pl,_⟩:=I.tuple hq;have hi:IntsAre its ns:=intsAre_of rv;have hl:s.heap.IsTuple l its.toArray:=pl;obtain ⟨ys,e⟩:=hi.allInts.items;have en:ns=ys.toList.map (·.1):=by rw [<- hi.numsOf,<- nums_intItems,<- e]
 have sz:ns.length=ys.size:=by rw [en,List.length_map,Array.length_toList]
 rw [e] at hl;refine yf (I.ok.hd hc) hl (by omega) λv h' tk hv hk=>?_;obtain ⟨t,rfl⟩:=intItems_at hv;obtain ⟨h1,h2⟩:=argBest_gt (numAt ys) (ys.size - 1);refine ⟨.int _,H,I.kept hk,⟨t,rfl⟩,q _ ?_ λa ha=>?_⟩
 ·rw [numAt_eq,<- en];exact PySem.getD_mem (by omega)
 ·rw [en] at ha;obtain ⟨j,hj,rfl⟩:=mem_getD ha;rw [<- numAt_eq];exact h2 j (by rw [List.length_map,Array.length_toList] at hj;omega)
end
end L2
namespace Mine
open PySem L2
theorem fld_u5 (u:W5) (n a b:Int):Hu.fld (u5 u) n a b=u.worth n a b:=by
 cases u <;> simp [u5,Hu.fld,W5.worth] <;> omega
theorem gU {g:List T3} {p:T3} (C:Hu.gH g p):∀{t:Tr} {r:T3},rl g t=some r->t.worth p.u p.v p.w=Hu.tl r p
 | .never,r,h=>by cases h;rw [Hu.mU];rfl
 | .always,r,h=>by cases h;rw [Hu.mU];rfl
 | .lp,r,h=>by cases h;rw [Hu.mU];rfl
 | .lq,r,h=>by cases h;rw [Hu.mU];rfl
 | .no t,r,h=>by
  cases e:rl g t with
  | none=>rw [show rl g (.no t)=(rl g t).map λr=>Hu.mi Hu.al r from rfl,e] at h;cases h
  | some x =>
   rw [show rl g (.no t)=(rl g t).map λr=>Hu.mi Hu.al r from rfl,e] at h;cases h
   rw [Hu.jq,Hu.lL,<- gU C e];rfl
 | .fold u a b,r,h=>by
  unfold rl at h;cases e1:rl g a with
  | none=>rw [e1] at h;cases h
  | some x=>cases e2:rl g b with
   | none=>rw [e1,e2] at h;cases h
   | some y =>
    rw [e1,e2] at h;have z:=Hu.fc (rs:=[x,y]) (r:=.fd (u5 u) 0 1) h C;rw [z];show u.worth p.u (a.worth p.u p.v p.w) (b.worth p.u p.v p.w)=Hu.fld (u5 u) p.u (Hu.tl x p) (Hu.tl y p);rw [fld_u5,gU C e1,gU C e2]
theorem sl1T {K:W.Frag} {H:Hp} {a:Addr} {x:V} {us:List V} {Q:VK} (e:SqT K H a (x::us)) (h:∀ p,H p=none->Q (.ref p) (upd H p (.tup us))):rSlA K (.ref a) (some 1) none H Q:=by
 refine ⟨a,_,rfl,e,λz=>?_,λ_ p=>?_⟩
 ·have hix0:_root_.HT.sIx (x::us).length 0 (some 1)=1:=by
   rw [show (some (1:Int))=some ((1:Nat):Int) from rfl,_root_.HT.tM,List.length_cons];omega
  exact absurd (hix0.symm.trans z) (by decide)
 ·intro hp';rw [cut1];exact h _ hp'
theorem xx {r:T3} {l g:Hu.Tc} {h:List T3} {L:List (List T3)} (e:(Hu.Tc.cut r l g).told h=some L):¬Hu.fZ r h/\∃ a b,l.told (Hu.low r h)=some a/\g.told (Hu.high r h)=some b/\L=a++b:=by
 by_cases n:Hu.fZ r h
 ·unfold Hu.Tc.told at e;rw [if_pos n] at e;cases e
 ·rw [uR n] at e;cases e1:l.told (Hu.low r h) with
  | none=>rw [e1] at e;cases e
  | some a=>cases e2:g.told (Hu.high r h) with
   | none=>rw [e1,e2] at e;cases e
   | some b=>rw [e1,e2] at e;cases e;exact ⟨n,a,b,rfl,rfl,rfl⟩
theorem xB:∀ t:Hu.Tc,(tcD t).canLay0=true
 | .leaf=>by decide+kernel
 | .cut r l g=>by
  have h1:=xB l;have h2:=xB g;have h3:(t3D r).canLay0=true:=rfl;have h4:(PyData.str "cut").canLay0=true:=by decide+kernel
  unfold tcD;simp only [PyData.canLay0,PyData.canLayAll0,h1,h2,h3,Bool.and_true,Bool.true_and] at h4 ⊢;exact h4
theorem pF:∀ t:Hu.Tc,(tcD t).depth<=t.deep+3
 | .leaf=>by decide+kernel
 | .cut r l g=>by
  have h1:=pF l;have h2:=pF g;have h3:(t3D r).depth<=2:=by simp [t3D,PyData.depth,PyData.depthAll]
  unfold tcD;simp only [PyData.depth,PyData.depthAll,Hu.Tc.deep];omega
theorem Au {t:Hu.Tc} (h:t.deep<=20):SeqAt.shaped (tcD t)=true:=by
 have:=pF t;simp only [SeqAt.shaped,xB,Bool.true_and];exact decide_eq_true (by omega)
theorem tc_ne (r:T3) (l g:Hu.Tc):PyData.eqv (tcD (.cut r l g)) (tcD .leaf)=false:=by
 unfold tcD;simp [PyData.eqv,PyData.eqvAll]
def sY:Sp:=λvs H Q _=>∃ i:Int,vs=[.int i]/\Q (.bl true) H
def vi (K:W.Frag) (n:Nat):Sp:=λvs H Q _=>∃(x:V) (l:Addr) (us:List V) (t:Hu.Tc) (h:List T3) (L:List (List T3)),vs=[x,.ref l]/\H l=some (.lst us)/\DatAll K H (h.map t3D) us/\Hu.HK h/\t.Sm 64/\h.length+t.deep<=20/\t.deep+1<=n/\t.iA<=700/\Dat K H (tcD t) x/\t.told h=some L/\
 ∀(ll:Addr) (ws:List V) (H':Hp),aK H H'->H' ll=some (.lst ws)->bW (HuV K H') ws L->Q (.ref ll) H'
def spLPt (K:W.Frag):Sp:=λvs H Q _=>∃(v:V) (p:T3),vs=[v]/\Dat K H (t3D p) v/\0 < p.u/\0<=p.v/\p.v<=p.u/\0<=p.w/\p.w<=p.u/\∀ H',aK H H'->Q (.bl true) H'
variable {P:Program} {w:World} {K:W.Frag} {mg:Str->Option Value} {base:Heap}
theorem pU:az ["_law_found"] ["_law_found"] (ag nj):=L2.fsc rfl (by decide+kernel)
theorem DL (T:aD K mg "_law_whole" nj) (aM:mg "isinstance"=none) (fe:mg "int"=none) (nP:mg "bool"=none) (kb:PySem.W.kitOne K (.type "int") (.type "bool")=some false):Def P w K mg base 1 "_law_whole" ["_law_found"] sY:=by
 refine aR T pU (λ_ _ _ _ _ _=>L2.ar1 λ_=>rfl) ?_ ?_
 ·walk_at "i1";obtain ⟨i,rfl,_⟩:=h;rfl
 walk_at "i2";obtain ⟨i,rfl,q⟩:=h;have nd:=pU.nd;refine ⟨_,(ao (av (kZ (aC jR rfl aM (by decide+kernel) (aa (pv 0) (aa (gD (v:=V.ty "int") rfl fe (by decide+kernel) rfl) af))) (qp (DD (aC jR rfl aM (by decide+kernel) (aa (pv 0) (aa (gD (v:=V.ty "bool") rfl nP (by decide+kernel) rfl) af)))))))),?_⟩;exact ⟨_,rfl,_,_,_,_,true,rfl,(λ_ h=>h),jd.int _,fX,_,rfl,dN ⟨_,rfl,_,_,_,_,false,rfl,(λ_ h=>h),jd.int _,kb,_,rfl,q⟩⟩
theorem yP {H1:Hp} {t D:Addr} {a b c:Int} {te:TE} {js:List Nat} {σ:St} {R:Hp->Prop} (st:SqT K H1 t [.int a,.int b,.int c]) (hD:H1 D=none)
  (step:∀(n:Int) (H':Hp) (k:VK),k (.bl true) H'->te (some (.int n)::bL js σ) H' k)
  (fin:∀ H',aK H1 H'->H' D=some (.lst ((List.replicate 3 true).map V.bl))->R H') :
  ∃ W:Nat->Nat->Hp->Prop,(∃ m,W 0 m (upd H1 D (.lst [])))/\∀ i m H2,W i m H2->((Itt K t).stop i H2/\R H2)\/
   ((
    Itt K t).go i H2/\∀ v H3,(Itt K t).yld i H2 v H3->kG (some v::bL js σ) H3 λb H4=>if b=true then te (some v::bL js σ) H4 λy H5 =>
    ∃ ys,H5 D=some (.lst ys)/\ys.length < sizeLine/\∃ m',m' < m/\W (i+1) m' (upd H5 D (.lst (ys++[y]))) else ∃ m',m' < m/\W (i+1) m' H4):=by
 refine ⟨λi m H2=>m=3 - i/\i<=3/\aK H1 H2/\H2 D=some (.lst ((List.replicate i true).map V.bl)),⟨_,rfl,Nat.zero_le _,ak hD _,ae⟩,?_⟩;rintro i m H2 ⟨rfl,hi,sm,hlD⟩
 have sa2:=st.ts sm.ts
 by_cases hlt:i < 3
 ·refine .inr ⟨⟨_,_,sa2,List.getElem?_eq_getElem (show i < 3 from hlt)⟩,λv H3 y=>?_⟩;obtain ⟨rfl,y⟩:=y
  have hv:∃ n:Int,v=.int n:=by
   have z:=y _ sa2;rcases (show i=0\/i=1\/i=2 by omega) with rfl | rfl | rfl
   ·exact ⟨a,(Option.some.inj z).symm⟩
   ·exact ⟨b,(Option.some.inj z).symm⟩
   ·exact ⟨c,(Option.some.inj z).symm⟩
  obtain ⟨n,rfl⟩:=hv;refine iC ?_;refine step n _ _ ⟨_,hlD,aO (by simp;omega),3 - (i+1),by omega,rfl,hlt,aQ sm hD _,?_⟩;rw [ae,List.replicate_succ',List.map_append];rfl
 ·have e:i=3:=by omega
  subst e;exact .inl ⟨⟨_,sa2,Nat.le_refl _⟩,fin _ sm hlD⟩
theorem vW (T:aD K mg "_law_rules" nr) (xk:Def P w K mg base 2 "_law_rule" ["_law_row","_law_rules_here","_law_hull"] (yY K)):Def P w K mg base 3 "_law_rules" ["_law_rows","_law_hull"] (vh K):=by
 refine aR T pX (λ_ _ _ _ _ _=>L2.ar2 λ_ _=>rfl) ?_ ?_
 ·walk_at "i1";obtain ⟨l,lh,us,hs,rows,h,rfl,_⟩:=h;rfl
 walk_at "i2";obtain ⟨l,lh,us,hs,rows,h,rfl,hl,da,ok,few,hlh,dh,bp,pos,hfew,q1,q2⟩:=h;have nd:=pX.nd;have lu:=zr da;have d2:(2:Nat)<=sizeLine:=by decide
 refine ⟨_,(ah (aJ (i:=2) nd rfl (Or.inl rfl) (bI af))
  (ah (gX PassesOwn.never rfl (di (pv 0)) (aY (i:=3) nd rfl (Or.inl rfl)) (ah (xP (aE xk (hr.mono (by decide)) rfl (aa (pv 3) (aa (pv 2) (aa (pv 1) af)))) (kY rfl (bw (aY (i:=4) nd rfl (Or.inl rfl)) (bw (aY (i:=5) nd rfl (Or.inl rfl)) eV))))
  (ah (aP (aA lg (pv 4) cQ (aF _)) (ao (av (ba (aa cQ (aa (pv 5) af))))) aH)
  (ao (bf (cI PySem.F.plainAttrs_list PySem.F.slot_list_append PySem.F.type_list_append aW (pv 2) (aa (pv 4) af)))))))
  (ao (av (ba (aa (pv 2) (aa cQ af))))))),?_⟩
 refine ⟨(by show 0<=sizeLine;decide),λlr hlr=>?_⟩;have u0:=ak hlr (.lst []);refine ⟨_,rfl,l,rfl,⟨us,SqL.of (u0 _ _ hl)⟩,?_⟩
 refine hI (xs:=us) (λi σ H'=>i<=us.length/\aK H H'/\∃(ws:List V) (rs:List T3) (o3 o4 o5:Option V),σ=[some (.ref l),some (.ref lh),some (.ref lr),o3,o4,o5]/\H' lr=some (.lst ws)/\DatAll K H' (rs.map t3D) ws/\rs.length=i/\Hu.Rb rs/\Hu.run h rows []=Hu.run h (rows.drop i) rs)
  ⟨Nat.zero_le _,u0,[],[],_,_,_,rfl,ae,rfl,rfl,(λi x e=>by simp at e),rfl⟩ (λi σ H' _ z=>SqL.of (z.2.1 _ _ hl)) (λi v σ H' hv z=>?_) (λσ H' z=>?_)
 ·obtain ⟨_,sm,ws,rs,o3,o4,o5,rfl,hr',dr,lrs,rb,er⟩:=z;have hi:i < us.length:=(List.getElem?_eq_some_iff.mp hv).1;obtain ⟨r,er',dv⟩:=zt (da.ts sm.ts) hv;have okr:r.Ok rs.length:=by rw [lrs];exact ok i r er'
  have dp:rows.drop i=r::rows.drop (i+1):=by
   obtain ⟨g1,g2⟩:=List.getElem?_eq_some_iff.mp er';rw [<- g2];exact List.drop_eq_getElem_cons g1
  rw [dp] at er;obtain ⟨cb,_,_⟩:=Hu.jQ rb okr;refine ⟨_,rfl,_,rfl,_,rfl,v,lr,lh,ws,hs,r,rs,h,rfl,dv,hr',dr,okr,rb,by omega,sm _ _ hlh,dh.ts sm.ts,bp,pos,hfew,λx u t H3 s3 ex du et=>?_,λex u t H3 s3 du et=>?_⟩
  ·refine ⟨t,_,rfl,SqT.of et,rfl,_,_,rfl,_,_,rfl,rfl,?_⟩;obtain ⟨ua,rfl,su⟩:=dX du;refine ⟨_,rfl,rfl,_,rfl,bH ?_⟩;have m4:=sm.trans s3;have hr4:=s3 _ _ hr';have lw:=jr dr;refine ⟨_,rfl,.inl ⟨rfl,_,SqL.of hr4⟩,_,rfl,lr,ws,_,rfl,rfl,hr4,aO (by omega),?_⟩;have t5:Tst H3 (upd H3 lr (.lst (ws++[.ref ua]))):=dJ hr4;refine ⟨hi,aQ m4 hlr _,ws++[.ref ua],rs++[x],_,_,_,rfl,ae,?_,?_,Hu.tS rb (Hu.qS rb okr ex),?_⟩
   ·rw [List.map_append];exact ((dr.ts s3.ts).ts t5).snoc (du.ts t5)
   ·rw [List.length_append,lrs];rfl
   ·rw [er];show (match Hu.aV h (Hu.choice rs r) with | some x=>_ | none=>_)=_
    rw [ex]
  ·refine ⟨t,_,rfl,SqT.of et,rfl,_,_,rfl,_,_,rfl,rfl,?_⟩;refine ⟨_,rfl,rfl,_,rfl,dN ?_⟩;refine ⟨_,rfl,d2,λp hp=>?_⟩;have u3:=ak hp (.tup [.non,u]);refine q2 i (Hu.choice rs r).1 p u _ ((sm.trans s3).trans u3) ?_ (by omega) (by rw [<- lrs];exact cb) ae (du.ts u3.ts);rw [er];show (match Hu.aV h (Hu.choice rs r) with | some x=>_ | none=>_)=_
   rw [ex,lrs]
 ·obtain ⟨_,sm,ws,rs,o3,o4,o5,rfl,hr',dr,lrs,rb,er⟩:=z;refine ⟨_,rfl,d2,λp hp=>?_⟩;have u:=ak hp (.tup [.ref lr,.non]);refine q1 rs p lr ws _ (sm.trans u) ?_ rb (by omega) ae (u _ _ hr') (dr.ts u.ts);rw [er,List.drop_eq_nil_of_le (by omega)];rfl
theorem AV (T:aD K mg "_law_hulls" iK) (aM:mg "isinstance"=none) (aZ:mg "tuple"=none) (bg:mg "len"=none) (mM:mg "all"=none) (jT:Def P w K mg base 1 "_law_whole" ["_law_found"] sY) (BZ:Def P w K mg base 3 "_law_cut" ["_law_hull","_law_rule_here"] (CI K)):∀ n:Nat,Def P w K mg base (n+4) "_law_hulls" ["_law_tree","_law_hull"] (vi K n):=by
 intro n
 induction n with
 | zero =>
  refine aR T kQ (λ_ _ _ _ _ _=>L2.ar2 λ_ _=>rfl) ?_ ?_
  ·walk_at "i1";obtain ⟨x,l,us,t,h,L,rfl,_⟩:=h;rfl
  ·walk_at "i2";obtain ⟨x,l,us,t,h,L,rfl,_,_,_,_,_,z,_⟩:=h;omega
 | succ n gG =>
  refine aR T kQ (λ_ _ _ _ _ _=>L2.ar2 λ_ _=>rfl) ?_ ?_
  ·walk_at "i1";obtain ⟨x,l,us,t,h,L,rfl,_⟩:=h;rfl
  walk_at "i2";obtain ⟨x,l,us,t,h,L,rfl,el,da,hk,sm,hl,dn,cu,dx,eL,q⟩:=h;have nd:=kQ.nd;have hu:=hr.units;have n3:=hk.n3;refine ⟨_,(ah (aP (aA (op_eqD hu) (pv 0) (ba (aa aI af)) (aF _)) (ao (av (bI (aa (pv 1) af)))) aH)
  (ah (aP (PW.pt (ig (iy (gk (aC iQ rfl aM (by decide+kernel) (aa (pv 0) (aa (gD (v:=V.ty "tuple") rfl aZ (by decide+kernel) rfl) af))))) (ig (aA jh (aC bC rfl bg (by decide+kernel) (aa (pv 0) af)) aq (aF _)) (ig (aA jh (aG aB (pv 0) aq (λ_ _=>rfl)) aI (aF _)) (gW (iy (gk (aC iQ rfl aM (by decide+kernel) (aa (aG aB (pv 0) aq (λ_ _=>rfl)) (aa (gD (v:=V.ty "tuple") rfl aZ (by decide+kernel) rfl) af)))))))))) (ao (av cQ)) aH)
  (ah (aP (PW.pt (ig (aA jh (aC bC rfl bg (by decide+kernel) (aa (aG aB (pv 0) aq (λ_ _=>rfl)) af)) aq (aF _)) (gW (iy (gk (aC (qU rfl) rfl mM (by decide+kernel) (aa (fV rfl (qo (aG aB (pv 0) aq (λ_ _=>rfl))) rfl (by decide+kernel) (by decide+kernel) rfl (show ∀ p∈Scope.names _,p.2=NameKind.free->List.lookup p.1 (ag iK).names=some .cell\/List.lookup p.1 (ag iK).names=some .free by decide+kernel) dD (show (["_law_number"]:List Str).Nodup by decide+kernel) (λ_ _ _ _=>eU) (λ_ _ _ _=>(aE jT (hr.mono (by omega)) rfl (aa (pv 0) af)))) af))))))) (ao (av cQ)) aH)
  (ah (aJ (i:=2) nd rfl (Or.inl rfl) (aE BZ (hr.mono (by omega)) rfl (aa (pv 1) (aa (aG aB (pv 0) aq (λ_ _=>rfl)) af))))
  (ah (aP (aA lg (pv 2) cQ (aF _)) (ao (av cQ)) aH)
  (ah (aJ (i:=3) nd rfl (Or.inl rfl) (aE gG (hr.mono (by omega)) rfl (aa (aG aB (pv 0) aq (λ_ _=>rfl)) (aa (aG aB (pv 2) aq (λ_ _=>rfl)) af))))
  (ah (aJ (i:=4) nd rfl (Or.inl rfl) (aE gG (hr.mono (by omega)) rfl (aa (aG aB (pv 0) aq (λ_ _=>rfl)) (aa (aG aB (pv 2) aq (λ_ _=>rfl)) af))))
  (ah (aP (PW.pt (ig (aA lg (pv 3) cQ (aF _)) (gW (aA lg (pv 4) cQ (aF _))))) (ao (av cQ)) aH)
  (ao (av (aL jG (pv 3) (pv 4)))))))))))),?_⟩
  cases t with
  | leaf =>
   refine ⟨_,rfl,(by show 1<=sizeLine;decide),λp2 hp2=>?_⟩;have u2:=ak hp2 (.tup [V.str "leaf"]);have dl:Dat K (upd H p2 (.tup [V.str "leaf"])) (tcD .leaf) (.ref p2):=mW (SqT.of ae);refine ⟨_,_,.inl (dx.ts u2.ts),.inl dl,(by decide+kernel),(by decide+kernel),?_⟩;rw [show PyData.eqv (tcD .leaf) (tcD .leaf)=true from by decide+kernel];refine ⟨_,rfl,dN ?_⟩;refine ⟨_,rfl,(by show 1<=sizeLine;decide),λll hll=>?_⟩;have u:=ak hll (.lst [.ref l]);cases eL
   exact q ll [.ref l] _ (u2.trans u) ae (.cons ⟨l,us,rfl,(u2.trans u) _ _ el,da.ts (u2.trans u).ts⟩ .nil)
  | cut r t1 t2 =>
   obtain ⟨a,x1,y1,z1,rfl,sq,d1,d2,d3⟩:=Cj dx;obtain ⟨ta,rfl,sqt⟩:=dX d1;obtain ⟨nc,L1,L2,e1,e2,rfl⟩:=xx eL;refine ⟨_,rfl,(by show 1<=sizeLine;decide),λp2 hp2=>?_⟩;have u2:=ak hp2 (.tup [V.str "leaf"]);have dl:Dat K (upd H p2 (.tup [V.str "leaf"])) (tcD .leaf) (.ref p2):=mW (SqT.of ae);refine ⟨_,_,.inl (dx.ts u2.ts),.inl dl,Au (by omega),(by decide+kernel),?_⟩;rw [tc_ne];refine ⟨_,rfl,bH ?_⟩;generalize upd H p2 (.tup [V.str "leaf"])=H0 at u2 ⊢;have sq0:=sq.ts u2.ts;refine ⟨_,rfl,a,_,_,_,true,rfl,(λ_ h=>h),sq0,fX,_,rfl,bH ?_⟩;refine ⟨_,rfl,_,_,rfl,.inr ⟨_,sq0,rfl⟩,rfl,_,rfl,bH ?_⟩;refine ⟨_,rfl,_,_,_,_,rfl,rfl,sq0,rfl,rfl,_,rfl,bH ?_⟩;refine ⟨_,rfl,_,_,_,_,rfl,rfl,sq0,rfl,ta,_,_,_,true,rfl,(λ_ h=>h),sqt.ts u2.ts,fX,_,rfl,bH ?_⟩;refine ⟨_,rfl,_,_,_,_,rfl,rfl,sq0,rfl,_,_,rfl,.inr ⟨_,sqt.ts u2.ts,rfl⟩,rfl,_,rfl,bH ?_⟩;refine ⟨_,rfl,_,_,_,_,rfl,rfl,sq0,rfl,ta,rfl,⟨_,sqt.ts u2.ts⟩,λD hD=>?_⟩;refine yP (K:=K) (sqt.ts u2.ts) hD (λn H' k z=>⟨_,rfl,n,rfl,z⟩) (λH1 s1' hlD=>?_);have s1:=u2.trans s1';refine ⟨D,List.replicate 3 true,rfl,SqL.of hlD,_,rfl,bH ?_⟩;have dp:max t1.deep t2.deep+1+h.length<=20:=by simp only [Hu.Tc.deep] at hl;omega
   have dn':max t1.deep t2.deep+1+1<=n+1:=dn;have cu':1+t1.iA+t2.iA<=700:=cu;refine ⟨_,rfl,_,rfl,_,_,_,_,rfl,rfl,sq.ts s1.ts,rfl,l,.ref ta,us,h,r,rfl,s1 _ _ el,da.ts s1.ts,d1.ts s1.ts,hk.hull.mono (by decide) (by omega),sm.1.mono (by decide),λz=>absurd z nc,λ_ v2 H2 s2' cr=>?_⟩;obtain ⟨t2',la,lb,us1,us2,rfl,nab,fa,fb,sqp,ea,eb,da1,da2⟩:=cr;have s2:=s1.trans s2';have C:=Hu.iA hk sm.1 nc;have c1:=C.ll;have c2:=C.lh;refine ⟨_,rfl,rfl,_,rfl,bH ?_⟩;refine ⟨_,rfl,_,_,_,_,rfl,rfl,sq.ts s2.ts,rfl,_,rfl,_,_,_,_,rfl,rfl,sqp,rfl,y1,la,us1,t1,_,L1,rfl,ea,da1,C.lo,sm.2.1,by omega,by omega,by omega,d2.ts s2.ts,e1,λl1 w1 H3 s3' el1 al1=>?_⟩;have s3:=s2.trans s3';refine ⟨_,rfl,_,_,_,_,rfl,rfl,sq.ts s3.ts,rfl,_,rfl,_,_,_,_,rfl,rfl,sqp.ts s3'.ts,rfl,z1,lb,us2,t2,_,L2,rfl,s3' _ _ eb,da2.ts s3'.ts,C.hi,sm.2.2,by omega,by omega,by omega,d3.ts s3.ts,e2,λl2 w2 H4 s4 el2 al2=>?_⟩;refine ⟨_,rfl,rfl,_,rfl,bH ⟨_,rfl,rfl,_,rfl,bH ?_⟩⟩;have k1:=jW e1;have k2:=jW e2;have lw1:=al1.len;have lw2:=al2.len;refine ⟨_,rfl,_,rfl,l1,l2,w1,w2,rfl,rfl,s4 _ _ el1,el2,Nat.le_of_lt (aO (by omega)),λl3 h3=>?_⟩;have u3:=ak h3 (.lst (w1++w2));exact q l3 _ _ ((s3.trans s4).trans u3) ae ((al1.imp (HuV.to (s4.trans u3))).app (al2.imp (HuV.to u3)))
variable {c:CCs}
theorem zi:az ["_law_cells"] ["_law_cells"] (ag sNext):=L2.fsc rfl (by decide+kernel)
theorem ok_next (T:aD K mg "_law_next" sNext) (bg:mg "len"=none):Def P w K mg base 1 "_law_next" ["_law_cells"] sZ:=by
 refine aR T zi (λ_ _ _ _ _ _=>L2.ar1 λ_=>rfl) ?_ ?_
 ·walk_at "i1";obtain ⟨l,ms,rfl,_⟩:=h;rfl
 walk_at "i2";obtain ⟨l,ms,rfl,e,hc,q⟩:=h;have nd:=zi.nd
 refine ⟨_,(ah (aP (aA bO (aC bC rfl bg (by decide+kernel) (aa (pv 0) af)) aq (aF _)) (ao (av aq)) aH)
  (ao (av (cI PySem.F.plainAttrs_list PySem.F.slot_list_pop PySem.F.type_list_pop Eg (pv 0) (fW af))))),?_⟩
 refine ⟨_,rfl,_,_,rfl,.inl ⟨_,SqL.of e,rfl⟩,rfl,_,rfl,?_⟩;refine eA (λz=>?_) (λz=>?_)
 ·exact q 0 ms H cel0 hc (SB.refl _ _) e
 ·cases ms with
  | nil=>exact absurd (decide_eq_true rfl) z
  | cons m r =>
   refine ⟨_,rfl,.inl ⟨rfl,_,SqL.of e⟩,l,_,0,0,V.int m,rfl,rfl,e,by decide,by decide,seqIndex_of (Int.le_refl 0) (by rw [List.length_map,List.length_cons];omega),rfl,?_⟩;exact q m r _ (hc m (by simp)) (λn hn=>hc n (List.mem_cons_of_mem _ hn)) (jy _ _) ae
theorem vF:az ["_law_word","_law_n","_law_one","_law_other"] ["_law_word","_law_n","_law_one","_law_other"] (ag CY):=L2.fsc rfl (by decide+kernel)
theorem DY (T:aD K mg "_law_fold" CY) (bU:mg "min"=none) (ck:mg "max"=none):Def P w K mg base 1 "_law_fold" ["_law_word","_law_n","_law_one","_law_other"] za:=by
 refine aR T vF (λ_ _ _ _ _ _=>L2.ar4 λ_ _ _ _=>rfl) ?_ ?_
 ·walk_at "i1";obtain ⟨u,n,x,y,rfl,_⟩:=h;rfl
 walk_at "i2";obtain ⟨u,n,x,y,rfl,q⟩:=h;have nd:=vF.nd
 refine ⟨_,(ah (aP (aA bO (pv 0) aI (aF _)) (ao (av (aC (fJ rfl) rfl bU (by decide+kernel) (aa (pv 1) (aa (aL bR (pv 2) (pv 3)) af))))) aH)
  (ah (aP (aA bO (pv 0) aI (aF _)) (ao (av (aC (iP rfl) rfl ck (by decide+kernel) (fW (aa (aL eW (aL bR (pv 2) (pv 3)) (pv 1)) af))))) aH)
  (ah (aP (aA bO (pv 0) aI (aF _)) (ao (av (aC (iP rfl) rfl ck (by decide+kernel) (aa (pv 2) (aa (pv 3) af))))) aH)
  (ah (aP (aA bO (pv 0) aI (aF _)) (ao (av (aC (fJ rfl) rfl bU (by decide+kernel) (aa (pv 2) (aa (pv 3) af))))) aH)
  (ao (av (aC (fJ rfl) rfl bU (by decide+kernel) (aa (pv 1) (aa (aL bR (aL eW (pv 1) (pv 2)) (pv 3)) af))))))))),?_⟩
 cases u with
 | more =>
  refine ⟨_,rfl,rfl,_,rfl,ite_yes rfl ⟨_,rfl,_,rfl,_,rfl,_,_,rfl,rfl,_,_,rfl,?_⟩⟩;rw [jc,Int.min_comm];exact q
 | less =>
  refine ⟨_,rfl,rfl,_,rfl,ite_no (by decide+kernel) ⟨_,rfl,rfl,_,rfl,ite_yes rfl ⟨_,rfl,_,rfl,_,_,rfl,rfl,_,rfl,_,_,rfl,rfl,_,_,rfl,?_⟩⟩⟩;rw [lz,Int.max_comm];exact q
 | greater =>
  refine ⟨_,rfl,rfl,_,rfl,ite_no (by decide+kernel) ⟨_,rfl,rfl,_,rfl,ite_no (by decide+kernel) ⟨_,rfl,rfl,_,rfl,ite_yes rfl ⟨_,rfl,_,rfl,_,_,rfl,?_⟩⟩⟩⟩;rw [lz];exact q
 | lesser =>
  refine ⟨_,rfl,rfl,_,rfl,ite_no (by decide+kernel) ⟨_,rfl,rfl,_,rfl,ite_no (by decide+kernel) ⟨_,rfl,rfl,_,rfl,ite_no (by decide+kernel) ⟨_,rfl,rfl,_,rfl,ite_yes rfl ⟨_,rfl,_,rfl,_,_,rfl,?_⟩⟩⟩⟩⟩;rw [jc];exact q
 | leads =>
  refine ⟨_,rfl,rfl,_,rfl,ite_no (by decide+kernel) ⟨_,rfl,rfl,_,rfl,ite_no (by decide+kernel) ⟨_,rfl,rfl,_,rfl,ite_no (by decide+kernel) ⟨_,rfl,rfl,_,rfl,ite_no (by decide+kernel) ⟨_,rfl,_,rfl,_,rfl,_,_,rfl,rfl,_,rfl,_,_,rfl,rfl,_,_,rfl,?_⟩⟩⟩⟩⟩;rw [jc,Int.min_comm];exact q
theorem vy:az wx ["_law_script","_law_least"] (ag tL):=L2.fsc rfl (by decide+kernel)
theorem DT (T:aD K mg "_law_mixed" tL) (bg:mg "len"=none) (ck:mg "max"=none) (bU:mg "min"=none) (uJ:mg "range"=none) (hV:mg "abs"=none) (fe:mg "int"=none):Def P w K mg base 1 "_law_mixed" ["_law_script","_law_least"] (yX K):=by
 refine aR T vy (λ_ _ _ _ _ _=>L2.ar2 λ_ _=>rfl) ?_ ?_
 ·walk_at "i1";obtain ⟨a,ns,k,rfl,_⟩:=h;rfl
 walk_at "i2";obtain ⟨a,ns,k,rfl,S,k0,k1,q⟩:=h;have nd:=vy.nd;have hlen:=S.few
 have tail:∃ t,PSs (cS CX0 P w K mg base wx "_law_mixed" (ag tL) f cdv A outer s H E).nox ((bu tL).drop 1) t/\∀ b:Bool,t {nx:=λ_ H'=>Q .non H',rt:=Q} [some (.ref a),some (.int k),some (.bl b),none,none,none] H:=by
  refine ⟨_,(ah (aJ (i:=3) nd rfl (Or.inl rfl) (bI af))
  (ah (gX PassesOwn.never rfl (AJ rfl uJ (aa (aC (iP rfl) rfl ck (by decide+kernel) (aa (aL bR (pv 1) aq) (aa (aC (fJ rfl) rfl bU (by decide+kernel) (fW (aa (aC bC rfl bg (by decide+kernel) (aa (pv 0) af)) af))) af))) af)) (aY (i:=4) nd rfl (Or.inl rfl)) (ah (aJ (i:=5) nd rfl (Or.inl rfl) aq)
  (ah (aP (aA rX (pv 4) (aC bC rfl bg (by decide+kernel) (aa (pv 0) af)) (aF _)) (ao (aJ (i:=5) nd rfl (Or.inl rfl) (aG bG (pv 0) (pv 4) (λ_ _=>rfl)))) aH)
  (ao (aP (PW.pt (tV (ql (pv 2) (λ_=>rfl)) (oT (Dv rX rX aq (pv 4) (aC bC rfl bg (by decide+kernel) (aa (pv 0) af)))))) (ao (bf (cI PySem.F.plainAttrs_list PySem.F.slot_list_append PySem.F.type_list_append aW (pv 3) (aa (aC hJ rfl hV (by decide+kernel) (aa (pv 5) af)) af)))) (ao (bf (cI PySem.F.plainAttrs_list PySem.F.slot_list_append PySem.F.type_list_append aW (pv 3) (aa (aL fB (aL cf (aL fB (aL bR (aL cf (aL fB (pv 5) (aL op_pow aq aq)) aq) (aL cf aq (aL bR (pv 4) aq))) aq) aq) aq) af)))))))))
  (ao (av (jF sl_list (pv 3) (mh (cB iR rfl fe (by decide+kernel) (aa (pv 2) af))) mj))))),?_⟩
  intro b;refine ⟨(by show 0<=sizeLine;decide),λD hD=>?_⟩;refine ⟨_,rfl,_,_,rfl,rfl,_,rfl,_,_,rfl,.inl ⟨_,(ak hD _).seq S.l,rfl⟩,_,_,rfl,_,_,rfl,_,rfl,?_,?_,?_⟩
  ·rw [jc,lz,List.length_map];omega
  ·rw [jc,lz,List.length_map];omega
  rw [jc,lz,List.length_map];have hN:(max (k+1) (min 63 (ns.length:Int))).toNat<=1000:=by omega
  refine By (λi σ H2=>∃(ms:List Int) (o4 o5:Option V),σ=[some (.ref a),some (.int k),some (.bl b),some (.ref D),o4,o5]/\aK H H2/\H2 D=some (.lst (ms.map V.int))/\ms.length=i/\∀ m∈ms,Cel m)
   ⟨[],_,_,rfl,ak hD _,ae,rfl,λ_ h=>nomatch h⟩ (λi σ H2 hi h=>?_) (λσ H2 h=>?_)
  ·obtain ⟨ms,o4,o5,rfl,sm,e,hm,hc⟩:=h;have S2:=S.to sm
   have next:∀ v:Int,Cel v->∀ z:Int,∃(ms':List Int) (o4 o5:Option V),[some (V.ref a),some (.int k),some (.bl b),some (.ref D),some (.int (0+(i:Int))),some (.int z)]=[some (V.ref a),some (.int k),some (.bl b),some (.ref D),o4,o5]/\aK H (upd H2 D (.lst (ms.map V.int++[V.int v])))/\
     upd H2 D (.lst (ms.map V.int++[V.int v])) D=some (.lst (ms'.map V.int))/\ms'.length=i+1/\∀ m∈ms',Cel m:=λv cv z=>by
    refine ⟨ms++[v],_,_,rfl,λd o zz=>?_,by rw [ae,List.map_append];rfl,by rw [List.length_append,hm];rfl,λm hm'=>?_⟩
    ·rw [au (aw zz hD)];exact sm d o zz
    ·rcases List.mem_append.mp hm' with zz | zz
     ·exact hc m zz
     ·have:m=v:=by simpa using zz
      rw [this];exact cv
   have ml:(ms.map V.int).length < sizeLine:=by rw [List.length_map,hm];exact Nat.lt_of_lt_of_le hi (Nat.le_trans hN (by decide))
   have lenV:∃ xs,SqL K H2 a xs/\(ns.length:Nat)=xs.length:=⟨_,S2.l,(List.length_map _).symm⟩;refine ⟨_,rfl,_,rfl,_,ns.length,rfl,.inl lenV,_,_,rfl,rfl,_,rfl,?_⟩
   have cellOk:∃ z:Int,Builtin.Int.intBits z<=1048576/\(decide ((0+(i:Int)) < (ns.length:Int))=true->atI (ns.map V.int) (0+(i:Int))=some (V.int z))/\(¬decide ((0+(i:Int)) < (ns.length:Int))=true->z=0):=by
    by_cases hlt:i < ns.length
    ·refine ⟨ns[i],S.bit _ (List.getElem_mem hlt),λ_=>?_,λz=>absurd (decide_eq_true (by omega)) z⟩;rw [Int.zero_add];exact cg (by rw [List.getElem?_map,List.getElem?_eq_getElem hlt];rfl)
    ·exact ⟨0,by decide,λz=>absurd (of_decide_eq_true z) (by omega),λ_=>rfl⟩
   obtain ⟨z,hz,hz1,hz2⟩:=cellOk;refine eA (λg=>?a) (λg=>?b)
   case' a=>refine ⟨_,rfl,_,rfl,_,_,_,_,rfl,rfl,S2.l,hz1 g,?_⟩
   case' b=>have ez:=hz2 g;subst ez
   all_goals
    cases b with
    | false =>
     refine ⟨_,rfl,false,rfl,bH (bH ?_)⟩;refine ⟨_,rfl,.inl ⟨rfl,_,SqL.of e⟩,_,rfl,_,_,rfl,rfl,⟨by decide,by decide,by decide⟩,_,_,rfl,rfl,(show (0:Int) < 10 ^ (Int.toNat 18) by decide+kernel),_,_,rfl,rfl,eX (by decide+kernel),_,rfl,_,_,rfl,rfl,_,_,rfl,rfl,qv (by decide+kernel),_,_,rfl,rfl,_,_,rfl,rfl,(show (0:Int) < 2147483647 by decide),_,_,rfl,rfl,eX (by decide+kernel),_,_,rfl,rfl,(show (0:Int) < 2147483629 by decide),D,_,_,rfl,rfl,e,ml,?_⟩;exact next _ (nO (Int.emod_nonneg _ (by decide)) (Int.lt_trans (Int.emod_lt_of_pos _ (by decide)) (by decide))) _
    | true =>
     refine ⟨_,rfl,true,rfl,dN ?_⟩;refine ⟨_,rfl,_,_,rfl,rfl,_,rfl,?_⟩;refine eA (λg1=>?_) (λg1=>?_)
     ·refine ⟨_,rfl,_,ns.length,rfl,.inl lenV,_,_,rfl,rfl,_,rfl,?_⟩;refine eA (λg2=>?_) (λg2=>?_)
      ·refine ⟨_,rfl,.inl ⟨rfl,_,SqL.of e⟩,_,rfl,_,rfl,D,_,_,rfl,rfl,e,ml,?_⟩;exact next _ (cel_abs hz) _
      ·refine ⟨_,rfl,.inl ⟨rfl,_,SqL.of e⟩,_,rfl,_,_,rfl,rfl,⟨by decide,by decide,by decide⟩,_,_,rfl,rfl,(show (0:Int) < 10 ^ (Int.toNat 18) by decide+kernel),_,_,rfl,rfl,eX (by decide+kernel),_,rfl,_,_,rfl,rfl,_,_,rfl,rfl,qv (by decide+kernel),_,_,rfl,rfl,_,_,rfl,rfl,(show (0:Int) < 2147483647 by decide),_,_,rfl,rfl,eX (by decide+kernel),_,_,rfl,rfl,(show (0:Int) < 2147483629 by decide),D,_,_,rfl,rfl,e,ml,?_⟩;exact next _ (nO (Int.emod_nonneg _ (by decide)) (Int.lt_trans (Int.emod_lt_of_pos _ (by decide)) (by decide))) _
     ·refine ⟨_,rfl,bH ?_⟩;refine ⟨_,rfl,.inl ⟨rfl,_,SqL.of e⟩,_,rfl,_,_,rfl,rfl,⟨by decide,by decide,by decide⟩,_,_,rfl,rfl,(show (0:Int) < 10 ^ (Int.toNat 18) by decide+kernel),_,_,rfl,rfl,eX (by decide+kernel),_,rfl,_,_,rfl,rfl,_,_,rfl,rfl,qv (by decide+kernel),_,_,rfl,rfl,_,_,rfl,rfl,(show (0:Int) < 2147483647 by decide),_,_,rfl,rfl,eX (by decide+kernel),_,_,rfl,rfl,(show (0:Int) < 2147483629 by decide),D,_,_,rfl,rfl,e,ml,?_⟩;exact next _ (nO (Int.emod_nonneg _ (by decide)) (Int.lt_trans (Int.emod_lt_of_pos _ (by decide)) (by decide))) _
  ·obtain ⟨ms,o4,o5,rfl,sm,e,hm,hc⟩:=h;refine ⟨_,rfl,_,rfl,.inr ⟨b,rfl,_,rfl,D,_,rfl,SqL.of e,λp hp=>?_⟩⟩;obtain ⟨ms',em,hm'⟩:=cut_int ms (some (if b then 1 else 0)) none;rw [em];have np:H p=none:=sm.free hp;exact q p ms' _ (λd o zz=>by rw [au (aw zz np)];exact sm d o zz) np ae λm h=>hc m (hm' m h)
 obtain ⟨t1,ht1,hq1⟩:=tail;refine ⟨_,ah (aJ (i:=2) nd rfl (Or.inl rfl) (kZ (fS kM (aC bC rfl bg (by decide+kernel) (aa (pv 0) af)) aq (aF _)) (qp (fS bO (aL fB (aG bG (pv 0) aq (λ_ _=>rfl)) aq) aq (aF _))))) ht1,?_⟩;refine ⟨_,rfl,_,ns.length,rfl,.inl ⟨_,S.l,(List.length_map _).symm⟩,_,_,rfl,rfl,_,rfl,?_⟩;refine eA (λg=>?_) (λg=>?_)
 ·cases ns with
  | nil=>exact absurd (of_decide_eq_true g) (by decide)
  | cons n r=>exact ⟨_,rfl,_,_,_,_,rfl,rfl,S.l,cg (j:=0) rfl,_,_,rfl,rfl,(show (0:Int) < 2 by decide),rfl,hq1 _⟩
 ·exact hq1 false
def zb:Sp:=λvs H Q _=>∃(l:Addr) (ms:List Int) (r m:Int),vs=[.ref l,.int r,.int m]/\H l=some (.lst (ms.map V.int))/\(∀ m∈ms,Cel m)/\1<=r/\r<=60/\0<=m/\
 ∀(a:Addr) (t:Tr) (ms':List Int) (H':Hp),(t.size:Int)<=r->(t.nf:Int)<=m->(∀ m∈ms',Cel m)->SB (.ref l) H H'->H' l=some (.lst (ms'.map V.int))->Tu H' a t->Q (.ref a) H'
theorem ok_ispt (T:aD K mg "_law_is_point" eI) (aM:mg "isinstance"=none) (aZ:mg "tuple"=none) (bg:mg "len"=none) (mM:mg "all"=none) (bU:mg "min"=none) (ck:mg "max"=none) (jT:Def P w K mg base 1 "_law_whole" ["_law_found"] sY):Def P w K mg base 2 "_law_is_point" ["_law_found"] (spLPt K):=by
 refine aR T kI (λ_ _ _ _ _ _=>L2.ar1 λ_=>rfl) ?_ ?_
 ·walk_at "i1";obtain ⟨v,p,rfl,_⟩:=h;rfl
 walk_at "i2";obtain ⟨v,p,rfl,dv,u0,v0,v1,w0,w1,q⟩:=h;obtain ⟨a,rfl,sq⟩:=dX dv;have nd:=kI.nd
 refine ⟨_,(ah (aP (PW.pt (ig (iy (gk (aC iQ rfl aM (by decide+kernel) (aa (pv 0) (aa (gD (v:=V.ty "tuple") rfl aZ (by decide+kernel) rfl) af))))) (ig (aA jh (aC bC rfl bg (by decide+kernel) (aa (pv 0) af)) aq (aF _)) (gW (iy (gk (aC (qU rfl) rfl mM (by decide+kernel) (aa (fV rfl (qo (pv 0)) rfl (by decide+kernel) (by decide+kernel) rfl (show ∀ p∈Scope.names _,p.2=NameKind.free->List.lookup p.1 (ag eI).names=some .cell\/List.lookup p.1 (ag eI).names=some .free by decide+kernel) dD (show (["_law_number"]:List Str).Nodup by decide+kernel) (λ_ _ _ _=>eU) (λ_ _ _ _=>(aE jT (hr.mono (by omega)) rfl (aa (pv 0) af)))) af)))))))) (ao (av kK)) aH)
  (ao (av (kZ (fS kM (aG aB (pv 0) aq (λ_ _=>rfl)) aq (aF _)) (kZ (fS ji aq (aC (BF (K:=K) rfl rfl) rfl bU (by decide+kernel) (aa (jF oR (pv 0) (mh aq) mj) af)) (aF _)) (qp (fS ji (aC (BG (K:=K) rfl rfl) rfl ck (by decide+kernel) (aa (jF oR (pv 0) (mh aq) mj) af)) (aG aB (pv 0) aq (λ_ _=>rfl)) (aF _)))))))),?_⟩
 refine ⟨_,rfl,a,_,_,_,true,rfl,(λ_ h=>h),sq,fX,_,rfl,bH ?_⟩;refine ⟨_,rfl,_,_,rfl,.inr ⟨_,sq,rfl⟩,rfl,_,rfl,bH ?_⟩;refine ⟨_,rfl,a,rfl,⟨_,sq⟩,λD hD=>?_⟩;refine yP (K:=K) sq hD (λn H' k z=>⟨_,rfl,n,rfl,z⟩) (λH1 s1 hlD=>?_);refine ⟨D,List.replicate 3 true,rfl,SqL.of hlD,_,rfl,bH ?_⟩;have sq1:=sq.ts s1.ts;refine ⟨_,rfl,_,_,_,_,rfl,rfl,sq1,rfl,_,_,rfl,rfl,_,rfl,?_⟩;rw [show decide (p.u > 0)=true from decide_eq_true u0];refine dN ?_;refine ⟨_,rfl,_,rfl,?_⟩;dsimp only [lM];refine sl1T (K:=K) sq1 λp2 hp2=>?_;have u2:=ak hp2 (.tup [.int p.v,.int p.w]);refine ⟨p2,[p.v,p.w],rfl,SqT.of ae,by simp,λM hM hmin=>?_⟩
 have M0:0<=M:=by
  simp only [List.mem_cons,List.not_mem_nil,or_false] at hM;rcases hM with rfl | rfl <;> assumption
 refine ⟨_,_,rfl,rfl,_,rfl,?_⟩;rw [show decide ((0:Int)<=M)=true from decide_eq_true M0];refine dN ?_;have sq2:=sq1.ts u2.ts;refine ⟨_,rfl,_,rfl,?_⟩;dsimp only [lM];refine sl1T (K:=K) sq2 λp3 hp3=>?_;have u3:=ak hp3 (.tup [.int p.v,.int p.w]);refine ⟨p3,[p.v,p.w],rfl,SqT.of ae,by simp,λM2 hM2 hmax=>?_⟩
 have M1:M2<=p.u:=by
  simp only [List.mem_cons,List.not_mem_nil,or_false] at hM2;rcases hM2 with rfl | rfl <;> assumption
 refine ⟨_,rfl,_,_,_,_,rfl,rfl,sq2.ts u3.ts,rfl,_,_,rfl,rfl,?_⟩;show Q (.bl (decide (M2<=p.u))) _;rw [show decide (M2<=p.u)=true from decide_eq_true M1];exact q _ ((s1.trans u2).trans u3)
theorem ok_lfew (T:aD K mg "_law_few" tJ) (bg:mg "len"=none) (fL:Def P w K mg base 1 "_law_next" ["_law_cells"] sZ) (fj:Def P w K mg base 62 "_law_saying" ["_law_cells","_law_room","_law_two"] (vf 60)) (dI:Def P w K mg base 61 "_law_folds" ["_law_tree"] (xG 60)):Def P w K mg base 63 "_law_few" ["_law_cells","_law_room","_law_most"] zb:=by
 refine aR T vC (λ_ _ _ _ _ _=>L2.ar3 λ_ _ _=>rfl) ?_ ?_
 ·walk_at "i1";obtain ⟨l,ms,r,m,rfl,_⟩:=h;rfl
 walk_at "i2";obtain ⟨l,ms,r,m,rfl,el,cel,r1,r60,m0,q⟩:=h;have nd:=vC.nd
 refine ⟨_,(ah (aJ (i:=3) nd rfl (Or.inl rfl) (aE fj (hr.mono (by omega)) rfl (aa (pv 0) (aa (aL bR aq (aL ik (aE fL (hr.mono (by omega)) rfl (aa (pv 0) af)) (pv 1))) (aa kK af)))))
  (ah (jE PassesOwn.never (aA kM (aE dI (hr.mono (by omega)) rfl (aa (pv 3) af)) (pv 2) (aF _)) (ao (aJ (i:=3) nd rfl (Or.inl rfl) (aG aB (pv 3) (aL bR aq (aL ik (aE fL (hr.mono (by omega)) rfl (aa (pv 0) af)) (aL eW (aC bC rfl bg (by decide+kernel) (aa (pv 3) af)) aq))) (λ_ _=>rfl)))))
  (ao (av (pv 3))))),?_⟩
 refine ⟨_,rfl,_,rfl,l,ms,rfl,el,cel,λi ms1 H1 ci c1 sb1 el1=>?_⟩;refine ⟨_,rfl,_,_,rfl,rfl,(by omega),_,_,rfl,rfl,?_⟩;have f0:=Int.fmod_nonneg_of_pos i (show 0 < r by omega);have f1:=Int.fmod_lt_of_pos i (show 0 < r by omega);refine ⟨l,ms1,1+i.fmod r,true,rfl,el1,c1,by omega,by omega,λa t ms2 H2 sz c2 sb2 el2 tu=>?_⟩;refine ⟨λk σ H'=>∃(a:Addr) (t:Tr) (ms:List Int),σ=[some (.ref l),some (.int r),some (.int m),some (.ref a)]/\k=t.size/\(t.size:Int)<=r/\(∀ m∈ms,Cel m)/\SB (.ref l) H H'/\H' l=some (.lst (ms.map V.int))/\Tu H' a t,⟨_,a,t,ms2,rfl,rfl,by omega,c2,sb1.trans sb2,el2,tu⟩,?_⟩;rintro k σ H' ⟨a,t,ms,rfl,rfl,sz,cm,sb,elc,tu⟩
 refine ⟨_,rfl,a,t,rfl,tu,by omega,λH3 s3=>?_⟩;refine ⟨_,rfl,_,_,rfl,rfl,_,rfl,eA (λcc=>?_) (λcc=>?_)⟩
 ·have cc:m < (t.nf:Int):=of_decide_eq_true cc;obtain ⟨us,e,ou⟩:=(tu.to (Kp.of s3)).parts;have ul:=ou.len
  have kp:0 < t.kids.length:=by
   cases t with
   | no t=>exact Nat.zero_lt_one
   | fold u a b=>exact Nat.zero_lt_two
   | never=>have z:(Tr.never.nf:Int)=0:=rfl;omega
   | always=>have z:(Tr.always.nf:Int)=0:=rfl;omega
   | lp=>have z:(Tr.lp.nf:Int)=0:=rfl;omega
   | lq=>have z:(Tr.lq.nf:Int)=0:=rfl;omega
  refine ⟨λσ' H''=>∃(a':Addr) (t':Tr) (ms:List Int),t'∈t.kids/\σ'=[some (.ref l),some (.int r),some (.int m),some (.ref a')]/\(∀ m∈ms,Cel m)/\SB (.ref l) H H''/\H'' l=some (.lst (ms.map V.int))/\Tu H'' a' t',?_,?_⟩
  ·rintro σ' H'' ⟨a',t',ms',tk,rfl,cm',sb',el',tu'⟩
   have ks:=qB tk;exact ⟨t'.size,by omega,a',t',ms',rfl,rfl,by omega,cm',sb',el',tu'⟩
  ·have sbH3:SB (.ref l) H H3:=λd o z n=>s3 _ _ (sb _ _ z n);refine ⟨_,rfl,_,rfl,l,ms,rfl,s3 _ _ elc,cm,λj ms4 H4 cj c4 sb4 el4=>?_⟩;have e4:=sb4 _ _ e λz=>by cases z;rw [s3 _ _ elc] at e;cases e
   have kp4:Kp H3 H4:=sb4.kp λa' o' z1 z2=>by cases z1;rw [s3 _ _ elc] at z2;cases z2;rfl
   have lk:(((V.str t.word::us).length:Nat):Int) - 1=(t.kids.length:Int):=by rw [List.length_cons,ul];omega
   have g0:=Int.fmod_nonneg_of_pos j (show 0 < (t.kids.length:Int) by omega);have g1:=Int.fmod_lt_of_pos j (show 0 < (t.kids.length:Int) by omega);have hj:∃ v,us[(j.fmod (t.kids.length:Int)).toNat]?=some v:=⟨us[(j.fmod (t.kids.length:Int)).toNat]'(by omega),List.getElem?_eq_getElem (by omega)⟩;obtain ⟨v,hv⟩:=hj;obtain ⟨t',ht',b,rfl,tb⟩:=ou.get _ v hv;refine ⟨_,rfl,_,_,rfl,.inr ⟨_,SqT.of e4,rfl⟩,_,_,rfl,rfl,_,_,rfl,rfl,(by rw [lk];omega),_,_,rfl,rfl,_,_,_,_,rfl,rfl,SqT.of e4,?_,b,t',ms4,List.mem_of_getElem? ht',rfl,c4,sbH3.trans sb4,el4,tb.to kp4⟩;show atI (V.str t.word::us) (1+j.fmod ((((V.str t.word::us).length:Nat):Int) - 1))=_;rw [lk,show (1:Int)+j.fmod (t.kids.length:Int)=(((j.fmod (t.kids.length:Int)).toNat+1:Nat):Int) by omega];exact cg (by simpa using hv)
 ·have cc:¬m < (t.nf:Int):=λz=>cc (decide_eq_true z);exact ⟨_,rfl,q a t ms H3 sz (by omega) cm (λd o z n=>s3 _ _ (sb _ _ z n)) (s3 _ _ elc) (tu.to (Kp.of s3))⟩
end Mine
set_option maxHeartbeats 1000000
namespace Mine
namespace Hu
theorem uv {f:Nat->List T3} {j:Nat} {x:T3} (hx:x∈f j):∀{n:Nat},j < n->x∈fl f n
 | 0,h=>absurd h (Nat.not_lt_zero _)
 | n+1,h=>by
  rw [aX];rcases Nat.lt_or_ge j n with z | z
  ·exact List.mem_append_left _ (uv hx z)
  ·have e:j=n:=by omega
   subst e;exact List.mem_append_right _ hx
theorem low_mem {h:List T3} {r c:T3} (hc:c∈h) (n:tl r c<=0):c∈low r h:=by
 obtain ⟨j,hj,ej⟩:=List.mem_iff_getElem.mp hc;refine uv (j:=j) ?_ hj;have e:cor h j=c:=(cy hj).trans ej;unfold stp;rw [if_pos (show tv r h j<=0 by unfold tv;rw [e];exact n),e];exact List.mem_append_left _ List.mem_cons_self
theorem Er {h:List T3} {r c:T3} (hc:c∈h) (n:0<=tl r c):c∈high r h:=by
 obtain ⟨j,hj,ej⟩:=List.mem_iff_getElem.mp hc;refine uv (j:=j) ?_ hj;have e:cor h j=c:=(cy hj).trans ej;unfold stp;rw [if_pos (show tn r h j<=0 by unfold tn;rw [e];omega),e];exact List.mem_append_left _ List.mem_cons_self
theorem no_cut {r:T3} {h:List T3} (h1:¬fZ r h):(∃ p∈h,tl r p < 0)/\∃ p∈h,0 < tl r p:=by
 constructor
 ·refine Classical.byContradiction λz=>h1 (.inl λp hp=>?_);refine Classical.byContradiction λy=>z ⟨p,hp,by omega⟩
 ·refine Classical.byContradiction λz=>h1 (.inr λp hp=>?_);refine Classical.byContradiction λy=>z ⟨p,hp,by omega⟩
theorem ins_cut {h:List T3} {r p:T3} (H:HK h) (hr:R3 64 r) (n:¬fZ r h) (P:Ins h p):(tl r p<=0->Ins (low r h) p)/\(0<=tl r p->Ins (high r h) p):=by
 obtain ⟨⟨a,ha,a0⟩,b,hb,b0⟩:=no_cut n;obtain ⟨X,W1,W2⟩:=Cc H ha hb a0 b0;have C:=iA H hr n;refine ⟨λz=>?_,λz=>?_⟩
 ·exact wC (s:=1) H W1 (by show tl r (cor h h.length)=tl r (cor h 0);rw [bV]) (.inl rfl) (λi=>(Int.one_mul _).symm) C.lo.n3 C.lo.tri (low_mem ha (Int.le_of_lt a0)) (by omega) P (by omega)
 ·exact wC (s:=-1) H W2 (by show - tl r (cor h h.length) = - tl r (cor h 0);rw [bV]) (.inr rfl) (λi=>by show - tl r (cor h i) = -1*tl r (cor h i);omega) C.hi.n3 C.hi.tri (Er hb (Int.le_of_lt b0)) (by omega) P (by omega)
theorem cover:∀{t:Tc} {h:List T3} {L:List (List T3)} {p:T3},HK h->t.Sm 64->t.told h=some L->Ins h p->∃ g∈L,Ins g p
 | .leaf,h,L,p,_,_,e,P=>by
  cases e
  exact ⟨h,List.mem_cons_self,P⟩
 | .cut r l k,h,L,p,H,sm,e,P=>by
  unfold Tc.told at e;split at e
  ·cases e
  ·rename_i nc;have c:=iA H sm.1 nc;have I:=ins_cut H sm.1 nc P;cases ea:l.told (low r h) with
   | none=>rw [ea] at e;cases e
   | some a=>cases eb:k.told (high r h) with
    | none=>rw [ea,eb] at e;cases e
    | some b =>
     rw [ea,eb] at e;cases e
     rcases Int.le_total (tl r p) 0 with z | z
     ·obtain ⟨g,hg,q⟩:=cover c.lo sm.2.1 ea (I.1 z);exact ⟨g,List.mem_append_left _ hg,q⟩
     ·obtain ⟨g,hg,q⟩:=cover c.hi sm.2.2 eb (I.2 z);exact ⟨g,List.mem_append_right _ hg,q⟩
theorem ins_sq {p:T3} (v0:0<=p.v) (v1:p.v<=p.u) (w0:0<=p.w) (w1:p.w<=p.u):Ins sqH p:=by
 intro i hi;have hi:i < 4:=hi;rcases (by omega:i=0\/i=1\/i=2\/i=3) with rfl | rfl | rfl | rfl
 ·show 0<=det ⟨1,0,0⟩ ⟨1,1,0⟩ p;simp only [det];omega
 ·show 0<=det ⟨1,1,0⟩ ⟨1,1,1⟩ p;simp only [det];omega
 ·show 0<=det ⟨1,1,1⟩ ⟨1,0,1⟩ p;simp only [det];omega
 ·show 0<=det ⟨1,0,1⟩ ⟨1,0,0⟩ p;simp only [det];omega
theorem ES {t:Tc} {L:List (List T3)} {p:T3} (sm:t.Sm 64) (e:t.told sqH=some L) (v0:0<=p.v) (v1:p.v<=p.u) (w0:0<=p.w) (w1:p.w<=p.u):∃ g∈L,gH g p:=by
 obtain ⟨g,hg,I⟩:=cover lR sm e (ins_sq v0 v1 w0 w1);have hk:=(Tc.jV lR sm e g hg).1;exact ⟨g,hg,En hk.tri hk.n3 I⟩
end Hu
end Mine
set_option maxHeartbeats 4000000
namespace Mine
open PySem L2
theorem eqv_t3 (x y:T3):PyData.eqv (t3D x) (t3D y)=decide (x=y):=by
 have e:PyData.eqv (t3D x) (t3D y)=((x.u == y.u) && ((x.v == y.v) && ((x.w == y.w) && true))):=rfl;rw [e];clear e;cases x
 cases y
 rw [Bool.eq_iff_iff];simp [T3.mk.injEq]
theorem rD (x:T3):SeqAt.shaped (t3D x)=true:=rfl
def spRB (c:CCs):Sp:=λvs H Q _=>∃(x y:Addr) (a b:Tr),vs=[.ref x,.ref y]/\Ob c H x a/\Ob c H y b/\a.size+b.size<=900/\
 ∀(p lr:Addr) (us:List V) (H':Hp),aK H H'->H' p=some (.tup [.ref lr,.int ((a.putR []).2:Nat),.int ((b.putR (a.putR []).1).2:Nat)])->H' lr=some (.lst us)->bW (RwV H') us (mL a b)->Q (.ref p) H'
variable {P:Program} {w:World} {K:W.Frag} {mg:Str->Option Value} {base:Heap} {c:CCs}
theorem ok_rb (T:aD K mg "rows_of_both" gQ) (lI:∀ u:W5,oJ P w K mg base u.cls (c.fold u) 1 ["self","one","other"] (oQ (c.fold u))) (BY:Def P w K mg base 3 "rows_of" ["saying"] (vg c)):Def P w K mg base 4 "rows_of_both" ["one","other"] (spRB c):=by
 refine aR T jg (λ_ _ _ _ _ _=>L2.ar2 λ_ _=>rfl) ?_ ?_
 ·walk_at "i1";obtain ⟨x,y,a,b,rfl,_⟩:=h;rfl
 walk_at "i2";obtain ⟨x,y,a,b,rfl,oa,ob,sz,q⟩:=h;have nd:=jg.nd
 refine ⟨_,(ah (aJ (i:=2) nd rfl (Or.inl rfl) (aE BY (hr.mono (by omega)) rfl (aa (oh (lI .leads) (hr.mono (by omega)) rfl (aa (pv 0) (aa (pv 1) af))) af)))
  (ah (aJ (i:=3) nd rfl (Or.inl rfl) (gY PySem.F.plainAttrs_list PySem.F.slot_list_pop PySem.F.type_list_pop jb (pv 2)))
  (ao (av (ba (aa (pv 2) (aa (aG aB (pv 3) aq (λ_ _=>rfl)) (aa (aG aB (pv 3) aq (λ_ _=>rfl)) af)))))))),?_⟩
 refine ⟨_,rfl,_,rfl,λz dz hz hdz ne=>⟨z,dz,_,_,rfl,ae,rfl,?_⟩⟩;have s1:=iI (C:=c.fold .leads) (fs:=nM (.ref x) (.ref y)) hz hdz ne;have oe:Ob c (upd (upd (upd H dz (.own z)) z (.ins (c.fold .leads) dz [])) z (.ins (c.fold .leads) dz (nM (.ref x) (.ref y)))) z (.fold .leads a b):=.fold ae (oa.to (Kp.of s1)) (ob.to (Kp.of s1));generalize upd (upd (upd H dz (.own z)) z (.ins (c.fold .leads) dz [])) z (.ins (c.fold .leads) dz (nM (.ref x) (.ref y)))=H1 at s1 oe ⊢;have fsz:(Tr.fold .leads a b).size=a.size+b.size+1:=rfl;refine ⟨z,.fold .leads a b,rfl,oe,by omega,λl us H2 s2 hl el al=>?_⟩;rw [(ma a b).2] at al;have ul:=al.len;obtain ⟨us',v,ts',r',rfl,e2,⟨p,rfl,ep⟩,al'⟩:=al.last (λz=>by rw [z] at ul;simp at ul);obtain ⟨rfl,e3⟩:=List.append_inj' e2 rfl;have e3:dj "leads" [(a.putR []).2,(b.putR (a.putR []).1).2]=r':=(List.cons.inj e3).1;subst e3;have ep':H2 p=some (.tup [.str "leads",.int ((a.putR []).2:Nat),.int ((b.putR (a.putR []).1).2:Nat)]):=ep;refine ⟨_,rfl,.inl ⟨rfl,_,SqL.of el⟩,l,_,_,rfl,rfl,el,gJ _ _,?_⟩;rw [List.dropLast_concat];have k3:Kp H2 (upd H2 l (.lst us')):=gp el rfl;have np:p≠l:=oi ep' el (by intro z;cases z)
 have ep3:upd H2 l (.lst us') p=some (.tup [.str "leads",.int ((a.putR []).2:Nat),.int ((b.putR (a.putR []).1).2:Nat)]):=by rw [au np];exact ep'
 refine ⟨_,rfl,_,rfl,_,_,_,_,rfl,rfl,SqT.of ep3,cg (j:=1) rfl,_,rfl,_,_,_,_,rfl,rfl,SqT.of ep3,cg (j:=2) rfl,(by show 3<=sizeLine;decide),λp2 hp2=>?_⟩;have u4:=ak hp2 (.tup [.ref l,.int ((a.putR []).2:Nat),.int ((b.putR (a.putR []).1).2:Nat)]);refine q p2 l us' _ ((aQ (s1.trans s2) (s1.free hl) _).trans u4) ae (u4 _ _ ae) ?_;exact (al'.imp (RwV.to k3)).imp (RwV.to (Kp.of u4))
namespace Hu
theorem AE {g:List T3} (H:HK g) {r s:T3} (h:∀ c∈g,tl r c=tl s c):r=s:=by
 have n3:=H.n3;have m0:=bS (h:=g) (by omega) 0;have m1:=bS (h:=g) (by omega) 1;have m2:=bS (h:=g) (by omega) 2;have d:=dE H.tri (show 0 < 1 by decide) (show 1 < 2 by decide) (show 2 < g.length by omega);have z:∀ c∈g,tl (mi r s) c=0:=λc hc=>by rw [jq,h c hc];omega
 have k:∀ p:T3,tl (mi r s) p=0:=λp=>by
  have e:=yt (cor g 0) (cor g 1) (cor g 2) p (mi r s);rw [z _ m0,z _ m1,z _ m2,Int.zero_mul,Int.zero_mul,Int.zero_mul] at e;rcases Int.mul_eq_zero.mp (show det (cor g 0) (cor g 1) (cor g 2)*tl (mi r s) p=0 by omega) with y | y
  ·omega
  ·exact y
 have k1:=k ⟨0,1,0⟩;have k2:=k ⟨0,0,1⟩;have k3:=k ⟨1,0,0⟩;simp only [tl,mi] at k1 k2 k3;cases r
 cases s
 simp only [T3.mk.injEq];simp at k1 k2 k3;omega
end Hu
def Eqv (a b:Tr):Prop:=∀ p:T3,0 < p.u->0<=p.v/\p.v<=p.u->0<=p.w/\p.w<=p.u->a.worth p.u p.v p.w=b.worth p.u p.v p.w
def spCfb (c:CCs) (K:W.Frag):Sp:=λvs H Q _=>∃(x y:Addr) (a b:Tr),vs=[.ref x,.ref y]/\Ob c H x a/\Ob c H y b/\a.size+b.size<=60/\a.nf+b.nf<=8/\∀(v:V) (T:Hu.Tc) (H':Hp),aK H H'->Dat K H' (tcD T) v->T.Sm 61->T.deep<=8->T.iA+1<=2 ^ 8->Gd [qi a b] Hu.sqH T->Q v H'
def zc (c:CCs) (K:W.Frag):Sp:=λvs H Q _=>∃(x y:Addr) (a b:Tr),vs=[.ref x,.ref y]/\Ob c H x a/\Ob c H y b/\a.size+b.size<=60/\a.nf+b.nf<=8/\
 (∀(p:Addr) (vt:V) (T:Hu.Tc) (L:List (List T3)) (H':Hp),aK H H'->H' p=some (.tup [.str "alike",vt])->Dat K H' (tcD T) vt->T.Sm 64->T.deep<=8->T.iA<=700->T.told Hu.sqH=some L->(∀ g∈L,∃ rs,Hu.run g (qi a b) []=.rules rs)->(∀ g∈L,∀ c∈g,a.worth c.u c.v c.w=b.worth c.u c.v c.w)->Q (.ref p) H')/\
 ∀(p:Addr) (vc:V) (k:T3) (H':Hp),aK H H'->H' p=some (.tup [.str "unlike",vc])->Dat K H' (t3D k) vc->0 < k.u->0<=k.v/\k.v<=k.u->0<=k.w/\k.w<=k.u->a.worth k.u k.v k.w≠b.worth k.u k.v k.w->Q (.ref p) H'
section
variable {P:Program} {w:World} {K:W.Frag} {mg:Str->Option Value} {base:Heap} {c:CCs}
theorem ok_cfb (T:aD K mg "cutting_for_both" dU) (M:∀ t,aT P w K mg base (c.of t) "folds" 3 ["self"] (pK c t)) (ro:Def P w K mg base 1 "must_be_few" ["folds"] spFew) (qX:Def P w K mg base 1 "square" [] (Cz K)) (qY:Def P w K mg base 4 "rows_of_both" ["one","other"] (spRB c)) (kE:Def P w K mg base 13 "tree_on" ["hull","rows"] (vd K 9)):Def P w K mg base 14 "cutting_for_both" ["one","other"] (spCfb c K):=by
 refine aR T gv (λ_ _ _ _ _ _=>L2.ar2 λ_ _=>rfl) ?_ ?_
 ·walk_at "i1";obtain ⟨x,y,a,b,rfl,_⟩:=h;rfl
 walk_at "i2";obtain ⟨x,y,a,b,rfl,oa,ob,sz,nf8,q⟩:=h;have nd:=gv.nd;obtain ⟨dx,fs,ea,nf⟩:=oa.cls;have R:=(ma a b).1;have fd:=R.fd;have ln:=R.len
 refine ⟨_,(ah (bf (aE ro (hr.mono (by decide)) rfl (aa (aL bR (cX (k:=3) (pv 0) (hr.mono (by omega))) (cX (k:=3) (pv 1) (hr.mono (by omega)))) af)))
  (ao (av (aE kE (hr.mono (by omega)) rfl (aa (zC qX (hr.mono (by omega)) rfl) (aa (aG aB (aE qY (hr.mono (by decide)) rfl (aa (pv 0) (aa (pv 1) af))) aq (λ_ _=>rfl)) af)))))),?_⟩
 refine ⟨_,rfl,x,_,_,_,_,_,rfl,ea,nf _ (by decide+kernel),M a,x,rfl,oa,by omega,λH1 s1=>?_⟩;have ob1:=ob.to (Kp.of s1);obtain ⟨dx',fs',eb,nf'⟩:=ob1.cls;refine ⟨_,rfl,y,_,_,_,_,_,rfl,eb,nf' _ (by decide+kernel),M b,y,rfl,ob1,by omega,λH2 s2=>⟨_,_,rfl,rfl,_,rfl,by omega,?_⟩⟩;have s12:=s1.trans s2;refine ⟨rfl,λl us H3 s3 hl el da=>?_⟩;have s13:=s12.trans s3;refine ⟨_,rfl,_,rfl,x,y,a,b,rfl,oa.to (Kp.of s13),ob.to (Kp.of s13),by omega,λp lr ws H4 s4 ep er al=>?_⟩;have s14:=s13.trans s4;refine ⟨_,_,_,_,rfl,rfl,SqT.of ep,rfl,?_⟩;exact ⟨l,lr,us,ws,qi a b,Hu.sqH,8,rfl,s4 _ _ el,da.ts s4.ts,er,R.dat al,R.ok,R.pos,by omega,sq_tnl (by simp;omega),by decide,λv T H5 s5 d5 m5 p5 c5 g5=>q v T H5 (s14.trans s5) d5 m5 p5 c5 g5⟩
theorem Eb {CN:Addr} (T:aD K mg "alike" tK) (lJ:Def P w K mg base 14 "cutting_for_both" ["one","other"] (spCfb c K)) (yM:xb P w K mg base 4 "hulls_of" ["tree"] (yZ K CN)) (Ai:Def P w K mg base 4 "worth" ["saying","point"] (rG c K)):Def P w K mg base 16 "alike" ["one","other"] (zc c K):=by
 refine aR T vI (λ_ _ _ _ _ _=>L2.ar2 λ_ _=>rfl) ?_ ?_
 ·walk_at "i1";obtain ⟨x,y,a,b,rfl,_⟩:=h;rfl
 walk_at "i2";obtain ⟨x,y,a,b,rfl,oa,ob,sz,n8,q1,q2⟩:=h;have nd:=vI.nd;have d2:(2:Nat)<=sizeLine:=by decide
 refine ⟨_,(ah (aJ (i:=2) nd rfl (Or.inl rfl) (aE lJ (hr.mono (by omega)) rfl (aa (pv 0) (aa (pv 1) af))))
  (ah (gX PassesOwn.never rfl (di (zB yM (hr.mono (by omega)) rfl (aa (pv 2) af))) (aY (i:=3) nd rfl (Or.inl rfl)) (ao (gX PassesOwn.never rfl (di (pv 3)) (aY (i:=4) nd rfl (Or.inl rfl)) (ao (aP (aA jh (aE Ai (hr.mono (by omega)) rfl (aa (pv 0) (aa (pv 4) af))) (aE Ai (hr.mono (by omega)) rfl (aa (pv 1) (aa (pv 4) af))) (aF _)) (ao (av (ba (aa aI (aa (pv 4) af))))) aH)))))
  (ao (av (ba (aa aI (aa (pv 2) af))))))),?_⟩
 refine ⟨_,rfl,_,rfl,x,y,a,b,rfl,oa,ob,sz,n8,λvt X H1 s1 dt sm dp cu gd=>?_⟩;obtain ⟨L,eL,kL⟩:=gd;have sm64:X.Sm 64:=sm.mono (by decide);have hk:=Hu.Tc.jV Hu.lR sm64 eL;have cn:=Hu.Tc.told_cone Hu.lR sm64 eL;refine ⟨_,rfl,vt,X,rfl,dt,sm64,by omega,λnn=>absurd (eL.symm.trans nn) (λz=>by cases z),λL' eL' l us H2 s2 hl el al=>?_⟩;rw [eL] at eL';cases eL'
 have s12:=s1.trans s2;have al2:=al.all2;have lu:=al2.len;refine ⟨l,rfl,⟨us,SqL.of el⟩,?_⟩;refine hI (xs:=us) (λi σ H'=>aK H2 H'/\∃(o3 o4:Option V),σ=[some (.ref x),some (.ref y),some vt,o3,o4]/\∀ g∈L.take i,∀ k∈g,a.worth k.u k.v k.w=b.worth k.u k.v k.w) ⟨aK.refl _,_,_,rfl,(λg hg=>by simp at hg)⟩ (λi σ H' _ z=>SqL.of (z.1 _ _ el)) (λi v σ H' hv z=>?_) (λσ H' z=>?_)
 ·obtain ⟨s3,o3,o4,rfl,be⟩:=z;obtain ⟨g,hg,ga,gus,rfl,eg,dg⟩:=(al2.imp (HuV.to s3)).get i v hv;have gm:=List.mem_of_getElem? hg;refine ⟨_,rfl,ga,rfl,⟨gus,SqL.of eg⟩,?_⟩;refine hI (xs:=gus) (λj σ H''=>aK H' H''/\∃(o4:Option V),σ=[some (.ref x),some (.ref y),some vt,some (.ref ga),o4]/\∀ k∈g.take j,a.worth k.u k.v k.w=b.worth k.u k.v k.w) ⟨aK.refl _,_,rfl,(λk hk=>by simp at hk)⟩ (λj σ H'' _ z=>SqL.of (z.1 _ _ eg)) (λj v σ H'' hv z=>?_) (λσ H'' z=>?_)
  ·obtain ⟨s4,o4,rfl,bj⟩:=z;obtain ⟨p,hpj,dpv⟩:=sW (dg.ts s4.ts) hv;obtain ⟨pa,rfl,sp⟩:=dX dpv;have pm:=List.mem_of_getElem? hpj;have u0:=((hk g gm).1.ok p pm).n0;have bx:=Hu.cone_sq (cn g gm p pm);have s04:=(s12.trans s3).trans s4;refine ⟨_,rfl,_,rfl,x,pa,a,p.u,p.v,p.w,rfl,oa.to (Kp.of s04),by omega,⟨sp,by omega,bx.1,bx.2.1,bx.2.2.1,bx.2.2.2⟩,λH5 s5=>?_⟩;have s05:=s04.trans s5;refine ⟨_,rfl,_,rfl,y,pa,b,p.u,p.v,p.w,rfl,ob.to (Kp.of s05),by omega,⟨sp.ts s5.ts,by omega,bx.1,bx.2.1,bx.2.2.1,bx.2.2.2⟩,λH6 s6=>?_⟩;have s46:=s5.trans s6;refine ⟨rfl,_,rfl,?_⟩
   by_cases e:a.worth p.u p.v p.w=b.worth p.u p.v p.w
   ·refine sH (congrArg V.int e) ⟨s4.trans s46,_,rfl,λk hk=>?_⟩;rw [List.take_add_one,hpj] at hk;rcases List.mem_append.mp hk with z | z
    ·exact bj k z
    ·have:k=p:=by simpa using z
     rw [this];exact e
   ·rw [show (!decide (V.int (a.worth p.u p.v p.w)=V.int (b.worth p.u p.v p.w)))=true from by rw [decide_eq_false (λz=>e (V.int.inj z))];rfl];refine dN ?_;refine ⟨_,rfl,d2,λp9 hp9=>?_⟩;have u:=ak hp9 (.tup [.str "unlike",.ref pa]);exact q2 p9 (.ref pa) p _ ((s04.trans s46).trans u) ae (dpv.ts (s46.trans u).ts) u0 ⟨bx.1,bx.2.1⟩ ⟨bx.2.2.1,bx.2.2.2⟩ e
  ·obtain ⟨s4,o4,rfl,bj⟩:=z;rw [jr dg,List.take_length] at bj;refine ⟨s3.trans s4,_,_,rfl,λg' hg'=>?_⟩;rw [List.take_add_one,hg] at hg';rcases List.mem_append.mp hg' with z | z
   ·exact be g' z
   ·have:g'=g:=by simpa using z
    rw [this];exact bj
 ·obtain ⟨s3,o3,o4,rfl,be⟩:=z;rw [lu,List.take_length] at be;refine ⟨_,rfl,d2,λp9 hp9=>?_⟩;have u:=ak hp9 (.tup [.str "alike",vt]);exact q1 p9 vt X L _ ((s12.trans s3).trans u) ae (dt.ts ((s2.trans s3).trans u).ts) sm64 dp (by omega) eL (λg hg=>kL g hg _ List.mem_cons_self) be
end
section
variable {P:Program} {w:World} {K:W.Frag} {mg:Str->Option Value} {base:Heap} {c:CCs}
theorem pM:az ["_law_tree","_law_n","_law_x","_law_y"] ["_law_tree","_law_n","_law_x","_law_y"] (ag CV):=L2.fsc rfl (by decide+kernel)
theorem DK (T:aD K mg "_law_worth" CV) (fe:mg "int"=none) (yJ:Def P w K mg base 1 "_law_fold" ["_law_word","_law_n","_law_one","_law_other"] za):∀ k:Nat,Def P w K mg base (k+2) "_law_worth" ["_law_tree","_law_n","_law_x","_law_y"] (yU k):=by
 intro k
 induction k with
 | zero =>
  refine aR T pM (λ_ _ _ _ _ _=>L2.ar4 λ_ _ _ _=>rfl) ?_ ?_
  ·walk_at "i1";obtain ⟨a,t,n,x,y,rfl,_⟩:=h;rfl
  ·walk_at "i2";obtain ⟨a,t,n,x,y,rfl,_,z,_⟩:=h;have:=t.size_pos;omega
 | succ k dZ =>
  refine aR T pM (λ_ _ _ _ _ _=>L2.ar4 λ_ _ _ _=>rfl) ?_ ?_
  ·walk_at "i1";obtain ⟨a,t,n,x,y,rfl,_⟩:=h;rfl
  walk_at "i2";obtain ⟨a,t,n,x,y,rfl,tu,hz,q⟩:=h;have nd:=pM.nd;refine ⟨_,(ah (aP (aA kr (aG aB (pv 0) aq (λ_ _=>rfl)) (ba (aa aI (aa aI af))) rfl) (ao (av (aL cf (pv 1) (cB iR rfl fe (by decide+kernel) (aa (fS bO (aG aB (pv 0) aq (λ_ _=>rfl)) aI (aF _)) af))))) aH)
  (ah (aP (aA kr (aG aB (pv 0) aq (λ_ _=>rfl)) (ba (aa aI (aa aI af))) rfl) (ao (av (aG bG (bI (aa (pv 2) (aa (pv 3) af))) (cB iR rfl fe (by decide+kernel) (aa (fS bO (aG aB (pv 0) aq (λ_ _=>rfl)) aI (aF _)) af)) (λ_ _=>rfl)))) aH)
  (ah (aP (aA bO (aG aB (pv 0) aq (λ_ _=>rfl)) aI (aF _)) (ao (av (aL eW (pv 1) (aE dZ (hr.mono (by omega)) rfl (aa (aG aB (pv 0) aq (λ_ _=>rfl)) (aa (pv 1) (aa (pv 2) (aa (pv 3) af)))))))) aH)
  (ao (av (aE yJ (hr.mono (by omega)) rfl (aa (aG aB (pv 0) aq (λ_ _=>rfl)) (aa (pv 1) (aa (aE dZ (hr.mono (by omega)) rfl (aa (aG aB (pv 0) aq (λ_ _=>rfl)) (aa (pv 1) (aa (pv 2) (aa (pv 3) af))))) (aa (aE dZ (hr.mono (by omega)) rfl (aa (aG aB (pv 0) aq (λ_ _=>rfl)) (aa (pv 1) (aa (pv 2) (aa (pv 3) af))))) af)))))))))),?_⟩
  cases tu with
  | never e =>
   refine ⟨_,rfl,_,_,_,_,rfl,rfl,SqT.of e,rfl,(by show 2<=sizeLine;decide),λp hp=>⟨p,_,rfl,.inr (SqT.of ae),rfl,rfl,_,rfl,jK na_ne ?_⟩⟩;have s0:=ak hp (.tup [V.str "never",.str "always"]);have dz:decide (V.str "never"=V.str "always")=false:=decide_eq_false (λz:V.str "never"=V.str "always"=>absurd (V.str.inj z) (by decide+kernel));refine ⟨_,rfl,_,rfl,_,_,_,_,rfl,rfl,SqT.of (s0 _ _ e),rfl,rfl,.inr ⟨_,rfl,_,_,rfl,rfl,(by rw [dz];exact eX (by decide+kernel)),?_⟩⟩;rw [dz];have z:n*(if false=true then 1 else 0)=Tr.worth n x y .never:=by show n*0=0;omega
   exact (show Q (V.int (n*(if false=true then 1 else 0))) _ from by rw [z];exact q _ s0)
  | always e =>
   refine ⟨_,rfl,_,_,_,_,rfl,rfl,SqT.of e,rfl,(by show 2<=sizeLine;decide),λp hp=>⟨p,_,rfl,.inr (SqT.of ae),rfl,rfl,_,rfl,jK na_al ?_⟩⟩;have s0:=ak hp (.tup [V.str "never",.str "always"]);have dz:decide (V.str "always"=V.str "always")=true:=decide_eq_true (rfl:V.str "always"=V.str "always");refine ⟨_,rfl,_,rfl,_,_,_,_,rfl,rfl,SqT.of (s0 _ _ e),rfl,rfl,.inr ⟨_,rfl,_,_,rfl,rfl,(by rw [dz];exact eX (by decide+kernel)),?_⟩⟩;rw [dz];have z:n*(if true=true then 1 else 0)=Tr.worth n x y .always:=by show n*1=n;omega
   exact (show Q (V.int (n*(if true=true then 1 else 0))) _ from by rw [z];exact q _ s0)
  | lp e =>
   refine ⟨_,rfl,_,_,_,_,rfl,rfl,SqT.of e,rfl,(by show 2<=sizeLine;decide),λp hp=>⟨p,_,rfl,.inr (SqT.of ae),rfl,rfl,_,rfl,jL na_p ?_⟩⟩;have s0:=ak hp (.tup [V.str "never",.str "always"]);refine ⟨_,rfl,_,_,_,_,rfl,rfl,SqT.of (s0 _ _ e),rfl,(by show 2<=sizeLine;decide),λp1 hp1=>⟨p1,_,rfl,.inr (SqT.of ae),rfl,rfl,_,rfl,jK pq_p ?_⟩⟩;have s1:=s0.trans (ak hp1 (.tup [V.str "p",.str "q"]));refine ⟨_,rfl,_,rfl,(by show 2<=sizeLine;decide),λl hl=>?_⟩;have s2:=s1.trans (ak hl (.lst [V.int x,.int y]));refine ⟨_,rfl,_,_,_,_,rfl,rfl,SqT.of (s2 _ _ e),rfl,rfl,.inr ⟨_,rfl,l,_,_,_,rfl,rfl,SqL.of ae,?_,q _ s2⟩⟩;rw [decide_eq_false (λz:V.str "p"=V.str "q"=>absurd (V.str.inj z) (by decide+kernel))];rfl
  | lq e =>
   refine ⟨_,rfl,_,_,_,_,rfl,rfl,SqT.of e,rfl,(by show 2<=sizeLine;decide),λp hp=>⟨p,_,rfl,.inr (SqT.of ae),rfl,rfl,_,rfl,jL na_q ?_⟩⟩;have s0:=ak hp (.tup [V.str "never",.str "always"]);refine ⟨_,rfl,_,_,_,_,rfl,rfl,SqT.of (s0 _ _ e),rfl,(by show 2<=sizeLine;decide),λp1 hp1=>⟨p1,_,rfl,.inr (SqT.of ae),rfl,rfl,_,rfl,jK pq_q ?_⟩⟩;have s1:=s0.trans (ak hp1 (.tup [V.str "p",.str "q"]));refine ⟨_,rfl,_,rfl,(by show 2<=sizeLine;decide),λl hl=>?_⟩;have s2:=s1.trans (ak hl (.lst [V.int x,.int y]));refine ⟨_,rfl,_,_,_,_,rfl,rfl,SqT.of (s2 _ _ e),rfl,rfl,.inr ⟨_,rfl,l,_,_,_,rfl,rfl,SqL.of ae,?_,q _ s2⟩⟩;rw [decide_eq_true (rfl:V.str "q"=V.str "q")];rfl
  | @no _ b t e tb =>
   have hz':t.size+1<=k+1:=hz;refine ⟨_,rfl,_,_,_,_,rfl,rfl,SqT.of e,rfl,(by show 2<=sizeLine;decide),λp hp=>⟨p,_,rfl,.inr (SqT.of ae),rfl,rfl,_,rfl,jL na_not ?_⟩⟩;have s0:=ak hp (.tup [V.str "never",.str "always"]);refine ⟨_,rfl,_,_,_,_,rfl,rfl,SqT.of (s0 _ _ e),rfl,(by show 2<=sizeLine;decide),λp1 hp1=>⟨p1,_,rfl,.inr (SqT.of ae),rfl,rfl,_,rfl,jL Dy ?_⟩⟩;have s1:=s0.trans (ak hp1 (.tup [V.str "p",.str "q"]));refine ⟨_,rfl,_,_,_,_,rfl,rfl,SqT.of (s1 _ _ e),rfl,rfl,_,rfl,ite_yes rfl ?_⟩;refine ⟨_,rfl,_,rfl,_,_,_,_,rfl,rfl,SqT.of (s1 _ _ e),rfl,_,rfl,_,rfl,_,rfl,b,t,n,x,y,rfl,tb.to (Kp.of s1),by omega,λH2 s2=>⟨_,_,rfl,rfl,q _ (s1.trans s2)⟩⟩
  | @fold _ b d u t t' e tb td =>
   have hz':t.size+t'.size+1<=k+1:=hz;refine ⟨_,rfl,_,_,_,_,rfl,rfl,SqT.of e,rfl,(by show 2<=sizeLine;decide),λp hp=>⟨p,_,rfl,.inr (SqT.of ae),rfl,rfl,_,rfl,jL (na_w u) ?_⟩⟩;have s0:=ak hp (.tup [V.str "never",.str "always"]);refine ⟨_,rfl,_,_,_,_,rfl,rfl,SqT.of (s0 _ _ e),rfl,(by show 2<=sizeLine;decide),λp1 hp1=>⟨p1,_,rfl,.inr (SqT.of ae),rfl,rfl,_,rfl,jL (pq_w u) ?_⟩⟩;have s1:=s0.trans (ak hp1 (.tup [V.str "p",.str "q"]));refine ⟨_,rfl,_,_,_,_,rfl,rfl,SqT.of (s1 _ _ e),rfl,rfl,_,rfl,ite_no (w_not u) ?_⟩;refine ⟨_,rfl,_,_,_,_,rfl,rfl,SqT.of (s1 _ _ e),rfl,_,rfl,_,rfl,_,_,_,_,rfl,rfl,SqT.of (s1 _ _ e),rfl,_,rfl,_,rfl,_,rfl,b,t,n,x,y,rfl,tb.to (Kp.of s1),by omega,λH2 s2=>?_⟩;have s12:=s1.trans s2;refine ⟨_,rfl,_,_,_,_,rfl,rfl,SqT.of (s12 _ _ e),rfl,_,rfl,_,rfl,_,rfl,d,t',n,x,y,rfl,td.to (Kp.of s12),by omega,λH3 s3=>?_⟩;exact ⟨u,n,_,_,rfl,q _ (s12.trans s3)⟩
end
def CG (c:CCs) (n:Nat):Sp:=λvs H Q _=>∃(a:Addr) (t:Tr),vs=[.ref a]/\Tu H a t/\t.size<=n/\∀ x H',aK H H'->Ob c H' x t->Q (.ref x) H'
section
variable {P:Program} {w:World} {K:W.Frag} {mg:Str->Option Value} {base:Heap} {c:CCs}
theorem pS:az ["_law_tree","_law_one","_law_other"] ["_law_tree"] (ag zp):=L2.fsc rfl (by decide+kernel)
theorem DS (T:aD K mg "_law_object" zp) (N_never:Mk0 K c.ne) (M_never:mg "Never"=some (.ref c.ne)) (Fj:Mk0 K c.al) (Fl:mg "Always"=some (.ref c.al)) (Fm:oJ P w K mg base "Letter" c.le 1 ["self","name"] (jX c.le mJ)) (K_not:oJ P w K mg base "Not" c.no 1 ["self","part"] (jX c.no qK)) (lI:∀ u:W5,oJ P w K mg base u.cls (c.fold u) 1 ["self","one","other"] (oQ (c.fold u))):∀ n:Nat,Def P w K mg base (n+3) "_law_object" ["_law_tree"] (CG c n):=by
 intro n
 induction n with
 | zero =>
  refine aR T pS (λ_ _ _ _ _ _=>L2.ar1 λ_=>rfl) ?_ ?_
  ·walk_at "i1";obtain ⟨a,t,rfl,_⟩:=h;rfl
  ·walk_at "i2";obtain ⟨a,t,rfl,_,z,_⟩:=h;have:=t.size_pos;omega
 | succ n dH =>
  refine aR T pS (λ_ _ _ _ _ _=>L2.ar1 λ_=>rfl) ?_ ?_
  ·walk_at "i1";obtain ⟨a,t,rfl,_⟩:=h;rfl
  walk_at "i2";obtain ⟨a,t,rfl,tu,hz,q⟩:=h;have nd:=pS.nd;refine ⟨_,(ah (aP (aA bO (aG aB (pv 0) aq (λ_ _=>rfl)) aI (aF _)) (ao (av (vO N_never rfl M_never))) aH)
  (ah (aP (aA bO (aG aB (pv 0) aq (λ_ _=>rfl)) aI (aF _)) (ao (av (vO Fj rfl Fl))) aH)
  (ah (aP (aA kr (aG aB (pv 0) aq (λ_ _=>rfl)) (ba (aa aI (aa aI af))) rfl) (ao (av (oh Fm (hr.mono (by omega)) rfl (aa (aG aB (pv 0) aq (λ_ _=>rfl)) af)))) aH)
  (ah (aP (aA bO (aG aB (pv 0) aq (λ_ _=>rfl)) aI (aF _)) (ao (av (oh K_not (hr.mono (by omega)) rfl (aa (aE dH (hr.mono (by omega)) rfl (aa (aG aB (pv 0) aq (λ_ _=>rfl)) af)) af)))) aH)
  (ah (aJ (i:=1) nd rfl (Or.inl rfl) (aE dH (hr.mono (by omega)) rfl (aa (aG aB (pv 0) aq (λ_ _=>rfl)) af)))
  (ah (aJ (i:=2) nd rfl (Or.inl rfl) (aE dH (hr.mono (by omega)) rfl (aa (aG aB (pv 0) aq (λ_ _=>rfl)) af)))
  (ah (aP (aA bO (aG aB (pv 0) aq (λ_ _=>rfl)) aI (aF _)) (ao (av (oh (lI .more) (hr.mono (by omega)) rfl (aa (pv 1) (aa (pv 2) af))))) aH)
  (ah (aP (aA bO (aG aB (pv 0) aq (λ_ _=>rfl)) aI (aF _)) (ao (av (oh (lI .less) (hr.mono (by omega)) rfl (aa (pv 1) (aa (pv 2) af))))) aH)
  (ah (aP (aA bO (aG aB (pv 0) aq (λ_ _=>rfl)) aI (aF _)) (ao (av (oh (lI .greater) (hr.mono (by omega)) rfl (aa (pv 1) (aa (pv 2) af))))) aH)
  (ah (aP (aA bO (aG aB (pv 0) aq (λ_ _=>rfl)) aI (aF _)) (ao (av (oh (lI .lesser) (hr.mono (by omega)) rfl (aa (pv 1) (aa (pv 2) af))))) aH)
  (ao (av (oh (lI .leads) (hr.mono (by omega)) rfl (aa (pv 1) (aa (pv 2) af))))))))))))))),?_⟩
  cases tu with
  | never e =>
   refine ⟨_,rfl,_,_,_,_,rfl,rfl,SqT.of e,rfl,rfl,_,rfl,ite_yes rfl (λz dz h1 h2 ne=>?_)⟩;exact q z _ (qe (C:=c.ne) h1 h2) (.never ae)
  | always e =>
   refine ⟨_,rfl,_,_,_,_,rfl,rfl,SqT.of e,rfl,rfl,_,rfl,ite_no (by decide+kernel) ?_⟩;refine ⟨_,rfl,_,_,_,_,rfl,rfl,SqT.of e,rfl,rfl,_,rfl,ite_yes rfl (λz dz h1 h2 ne=>?_)⟩;exact q z _ (qe (C:=c.al) h1 h2) (.always ae)
  | lp e =>
   refine ⟨_,rfl,_,_,_,_,rfl,rfl,SqT.of e,rfl,rfl,_,rfl,ite_no (by decide+kernel) ?_⟩;refine ⟨_,rfl,_,_,_,_,rfl,rfl,SqT.of e,rfl,rfl,_,rfl,ite_no (by decide+kernel) ?_⟩;refine ⟨_,rfl,_,_,_,_,rfl,rfl,SqT.of e,rfl,(by show 2<=sizeLine;decide),λp hp=>⟨p,_,rfl,.inr (SqT.of ae),rfl,rfl,_,rfl,jK pq_p ?_⟩⟩;have s0:=ak hp (.tup [V.str "p",.str "q"]);refine ⟨_,rfl,_,_,_,_,rfl,rfl,SqT.of (s0 _ _ e),rfl,λz dz h1 h2 ne=>⟨z,dz,_,rfl,ae,rfl,?_⟩⟩;exact q z _ (s0.trans (iI (C:=c.le) (fs:=mJ (.str "p")) h1 h2 ne)) (.lp ae)
  | lq e =>
   refine ⟨_,rfl,_,_,_,_,rfl,rfl,SqT.of e,rfl,rfl,_,rfl,ite_no (by decide+kernel) ?_⟩;refine ⟨_,rfl,_,_,_,_,rfl,rfl,SqT.of e,rfl,rfl,_,rfl,ite_no (by decide+kernel) ?_⟩;refine ⟨_,rfl,_,_,_,_,rfl,rfl,SqT.of e,rfl,(by show 2<=sizeLine;decide),λp hp=>⟨p,_,rfl,.inr (SqT.of ae),rfl,rfl,_,rfl,jK pq_q ?_⟩⟩;have s0:=ak hp (.tup [V.str "p",.str "q"]);refine ⟨_,rfl,_,_,_,_,rfl,rfl,SqT.of (s0 _ _ e),rfl,λz dz h1 h2 ne=>⟨z,dz,_,rfl,ae,rfl,?_⟩⟩;exact q z _ (s0.trans (iI (C:=c.le) (fs:=mJ (.str "q")) h1 h2 ne)) (.lq ae)
  | @no _ b x e tb =>
   have hz':x.size+1<=n+1:=hz;refine ⟨_,rfl,_,_,_,_,rfl,rfl,SqT.of e,rfl,rfl,_,rfl,ite_no (by decide+kernel) ?_⟩;refine ⟨_,rfl,_,_,_,_,rfl,rfl,SqT.of e,rfl,rfl,_,rfl,ite_no (by decide+kernel) ?_⟩;refine ⟨_,rfl,_,_,_,_,rfl,rfl,SqT.of e,rfl,(by show 2<=sizeLine;decide),λp hp=>⟨p,_,rfl,.inr (SqT.of ae),rfl,rfl,_,rfl,jL Dy ?_⟩⟩;have s0:=ak hp (.tup [V.str "p",.str "q"]);refine ⟨_,rfl,_,_,_,_,rfl,rfl,SqT.of (s0 _ _ e),rfl,rfl,_,rfl,ite_yes rfl ?_⟩;refine ⟨_,rfl,_,_,_,_,rfl,rfl,SqT.of (s0 _ _ e),rfl,b,x,rfl,tb.to (Kp.of s0),by omega,λy H2 s2 oy=>?_⟩;have s02:=s0.trans s2;refine λz dz h1 h2 ne=>⟨z,dz,_,rfl,ae,rfl,?_⟩;have sm:=iI (C:=c.no) (fs:=qK (.ref y)) h1 h2 ne;exact q z _ (s02.trans sm) (.no ae (oy.to (Kp.of sm)))
  | @fold _ b d u x y e tb td =>
   have hz':x.size+y.size+1<=n+1:=hz;refine ⟨_,rfl,_,_,_,_,rfl,rfl,SqT.of e,rfl,rfl,_,rfl,ite_no (w_ne u) ?_⟩;refine ⟨_,rfl,_,_,_,_,rfl,rfl,SqT.of e,rfl,rfl,_,rfl,ite_no (w_al u) ?_⟩;refine ⟨_,rfl,_,_,_,_,rfl,rfl,SqT.of e,rfl,(by show 2<=sizeLine;decide),λp hp=>⟨p,_,rfl,.inr (SqT.of ae),rfl,rfl,_,rfl,jL (pq_w u) ?_⟩⟩;have s0:=ak hp (.tup [V.str "p",.str "q"]);refine ⟨_,rfl,_,_,_,_,rfl,rfl,SqT.of (s0 _ _ e),rfl,rfl,_,rfl,ite_no (w_not u) ?_⟩;refine ⟨_,rfl,_,_,_,_,rfl,rfl,SqT.of (s0 _ _ e),rfl,b,x,rfl,tb.to (Kp.of s0),by omega,λv1 H2 s2 o1=>?_⟩;have s02:=s0.trans s2;refine ⟨_,rfl,_,_,_,_,rfl,rfl,SqT.of (s02 _ _ e),rfl,d,y,rfl,td.to (Kp.of s02),by omega,λv2 H3 s3 o2=>?_⟩;have s03:=s02.trans s3;have o1':=o1.to (Kp.of s3);have e3:=s03 _ _ e;have fin:∀(z dz:Addr),H3 z=none->H3 dz=none->dz≠z->Q (.ref z) (upd (upd (upd H3 dz (.own z)) z (.ins (c.fold u) dz [])) z (.ins (c.fold u) dz (nM (.ref v1) (.ref v2)))):=λz dz h1 h2 ne=>Bo (Q:=Q) h1 h2 ne o1' o2 λe' H' s' o'=>q e' H' (s03.trans s') o';cases u
   ·refine ⟨_,rfl,_,_,_,_,rfl,rfl,SqT.of e3,rfl,rfl,_,rfl,ite_yes rfl ?_⟩;exact ⟨_,rfl,_,rfl,λz dz h1 h2 ne=>⟨z,dz,_,_,rfl,ae,rfl,fin z dz h1 h2 ne⟩⟩
   ·refine ⟨_,rfl,_,_,_,_,rfl,rfl,SqT.of e3,rfl,rfl,_,rfl,ite_no (by decide+kernel) ?_⟩;refine ⟨_,rfl,_,_,_,_,rfl,rfl,SqT.of e3,rfl,rfl,_,rfl,ite_yes rfl ?_⟩;exact ⟨_,rfl,_,rfl,λz dz h1 h2 ne=>⟨z,dz,_,_,rfl,ae,rfl,fin z dz h1 h2 ne⟩⟩
   ·refine ⟨_,rfl,_,_,_,_,rfl,rfl,SqT.of e3,rfl,rfl,_,rfl,ite_no (by decide+kernel) ?_⟩;refine ⟨_,rfl,_,_,_,_,rfl,rfl,SqT.of e3,rfl,rfl,_,rfl,ite_no (by decide+kernel) ?_⟩;refine ⟨_,rfl,_,_,_,_,rfl,rfl,SqT.of e3,rfl,rfl,_,rfl,ite_yes rfl ?_⟩;exact ⟨_,rfl,_,rfl,λz dz h1 h2 ne=>⟨z,dz,_,_,rfl,ae,rfl,fin z dz h1 h2 ne⟩⟩
   ·refine ⟨_,rfl,_,_,_,_,rfl,rfl,SqT.of e3,rfl,rfl,_,rfl,ite_no (by decide+kernel) ?_⟩;refine ⟨_,rfl,_,_,_,_,rfl,rfl,SqT.of e3,rfl,rfl,_,rfl,ite_no (by decide+kernel) ?_⟩;refine ⟨_,rfl,_,_,_,_,rfl,rfl,SqT.of e3,rfl,rfl,_,rfl,ite_no (by decide+kernel) ?_⟩;refine ⟨_,rfl,_,_,_,_,rfl,rfl,SqT.of e3,rfl,rfl,_,rfl,ite_yes rfl ?_⟩;exact ⟨_,rfl,_,rfl,λz dz h1 h2 ne=>⟨z,dz,_,_,rfl,ae,rfl,fin z dz h1 h2 ne⟩⟩
   ·refine ⟨_,rfl,_,_,_,_,rfl,rfl,SqT.of e3,rfl,rfl,_,rfl,ite_no (by decide+kernel) ?_⟩;refine ⟨_,rfl,_,_,_,_,rfl,rfl,SqT.of e3,rfl,rfl,_,rfl,ite_no (by decide+kernel) ?_⟩;refine ⟨_,rfl,_,_,_,_,rfl,rfl,SqT.of e3,rfl,rfl,_,rfl,ite_no (by decide+kernel) ?_⟩;refine ⟨_,rfl,_,_,_,_,rfl,rfl,SqT.of e3,rfl,rfl,_,rfl,ite_no (by decide+kernel) ?_⟩;exact ⟨_,rfl,_,rfl,λz dz h1 h2 ne=>⟨z,dz,_,_,rfl,ae,rfl,fin z dz h1 h2 ne⟩⟩
end
theorem eqv_of {a b:Tr} {T:Hu.Tc} {L:List (List T3)} (sm:T.Sm 64) (eL:T.told Hu.sqH=some L) (kL:∀ g∈L,∃ rs,Hu.run g (qi a b) []=.rules rs) (ke:∀ g∈L,∀ c∈g,a.worth c.u c.v c.w=b.worth c.u c.v c.w):(∀ g∈L,∃ x,rl g a=some x/\rl g b=some x)/\Eqv a b:=by
 have hk:=Hu.Tc.jV Hu.lR sm eL
 have k:∀ g∈L,∃ x,rl g a=some x/\rl g b=some x:=λg hg=>by
  obtain ⟨rs,ru⟩:=kL g hg;rcases (ma a b).1.run g with ⟨out,x,y,e,_,e1,_,e2⟩ | ⟨⟨k,x,e⟩,_⟩
  ·have:x=y:=Hu.AE (hk g hg).1 λc hc=>by
    rw [<- gU (Hu.iN hc) e1,<- gU (Hu.iN hc) e2];exact ke g hg c hc
   subst this;exact ⟨x,e1,e2⟩
  ·rw [ru] at e;cases e
 refine ⟨k,λp _ hv hw=>?_⟩;obtain ⟨g,hg,C⟩:=Hu.ES sm eL hv.1 hv.2 hw.1 hw.2;obtain ⟨x,e1,e2⟩:=k g hg;rw [gU C e1,gU C e2]
def CA (K:W.Frag):Sp:=λvs H Q _=>∃(vt:V) (x y:Addr) (a b:Tr) (T:Hu.Tc) (L:List (List T3)),vs=[vt,.ref x,.ref y]/\Tu H x a/\Tu H y b/\a.size+b.size<=60/\Dat K H (tcD T) vt/\T.Sm 64/\T.deep<=8/\T.iA<=700/\T.told Hu.sqH=some L/\(∀ g∈L,∃ x,rl g a=some x/\rl g b=some x)/\∀ H',aK H H'->Q (.bl true) H'
def ve:Sp:=λvs H Q _=>∃(x y:Addr) (a b:Tr),vs=[.ref x,.ref y]/\Tu H x a/\Tu H y b/\a.size+b.size<=60/\a.nf+b.nf<=8/\∀(s:Str) (H':Hp),aK H H'->((s="alike"/\Eqv a b)\/(s="unlike"/\¬Eqv a b))->Q (.str s) H'
section
variable {P:Program} {w:World} {K:W.Frag} {mg:Str->Option Value} {base:Heap} {c:CCs}
theorem ok_same (T:aD K mg "_law_same" qg) (fm:Def P w K mg base 61 "_law_rows_to" ["_law_tree","_law_rows"] (CB K 60)) (gG:Def P w K mg base 13 "_law_hulls" ["_law_tree","_law_hull"] (vi K 9)) (xf:Def P w K mg base 3 "_law_rules" ["_law_rows","_law_hull"] (vh K)):Def P w K mg base 62 "_law_same" ["_law_tree","_law_one","_law_other"] (CA K):=by
 refine aR T rP (λ_ _ _ _ _ _=>L2.ar3 λ_ _ _=>rfl) ?_ ?_
 ·walk_at "i1";obtain ⟨vt,x,y,a,b,T,L,rfl,_⟩:=h;rfl
 walk_at "i2";obtain ⟨vt,x,y,a,b,t,L,rfl,tx,ty,sz,dt,sm,dp,cu,eL,kL,q⟩:=h;have nd:=rP.nd;have hu:=hr.units;have d3:(3:Nat)<=sizeLine:=by decide
 have hk:=Hu.Tc.jV Hu.lR sm eL;have R:=(ma a b).1;have ln:=R.len
 refine ⟨_,un (bz ⟨(aJ (i:=3) nd rfl (Or.inl rfl) (bI af))⟩ (bz ⟨(aJ (i:=4) nd rfl (Or.inl rfl) (aE fm (hr.mono (by decide)) rfl (aa (pv 1) (aa (pv 3) af))))⟩ (bz ⟨(aJ (i:=5) nd rfl (Or.inl rfl) (aE fm (hr.mono (by decide)) rfl (aa (pv 2) (aa (pv 3) af))))⟩ (bz (cY (i:=6) nd rfl (Or.inl rfl) (jN gG (hr.mono (by decide)) rfl (bb (hv 0) (bb (he_lst (kO (cw (bB (bB (bB bA)))) (kO (cw (bB (bB (bB bA)))) (kO (cw (bB (bB (bB bA)))) (kO (cw (bB (bB (bB bA)))) bA))))) bA)))) ⟨(ah (aP (aA lg (pv 6) cQ (aF _)) (ao (av kK)) aH)
  (ah (gX PassesOwn.never rfl (di (pv 6)) (aY (i:=7) nd rfl (Or.inl rfl)) (ah (aJ (i:=8) nd rfl (Or.inl rfl) (aG aB (aE xf (hr.mono (by omega)) rfl (aa (pv 3) (aa (pv 7) af))) aq (λ_ _=>rfl)))
  (ao (aP (PW.pt (ig (aA lg (pv 8) cQ (aF _)) (gW (aA (op_neD hu) (aG bG (pv 8) (pv 4) (λ_ _=>rfl)) (aG bG (pv 8) (pv 5) (λ_ _=>rfl)) (aF _))))) (ao (av kK)) aH))))
  (ao (av kK))))⟩)))),?_⟩
 refine ⟨(by show 0<=sizeLine;decide),λlr hlr=>?_⟩;have u1:=ak hlr (.lst []);have pl:=eQ a [];refine ⟨_,rfl,_,rfl,x,lr,a,[],[],rfl,tx.to (Kp.of u1),by omega,ae,.nil,by simp;omega,(λ_ z=>nomatch z),λH2 us2 sb2 el2 rv2=>?_⟩;have s2:aK H H2:=λd o z=>sb2 _ _ (u1 _ _ z) λy=>by cases y;rw [hlr] at z;cases z
 refine ⟨_,rfl,_,rfl,y,lr,b,_,us2,rfl,ty.to (Kp.of s2),by omega,el2,rv2,by simp at pl;omega,mf a [] (λ_ z=>nomatch z),λH3 us sb3 el rv=>?_⟩;have s3:aK H H3:=λd o z=>sb3 _ _ (s2 _ _ z) λy=>by cases y;rw [hlr] at z;cases z
 refine ⟨_,rfl,d3,λp1 h1=>⟨d3,λp2 h2=>⟨d3,λp3 h3=>⟨d3,λp4 h4=>⟨(by show 4<=sizeLine;decide),λl5 h5=>?_⟩⟩⟩⟩⟩;have u1:=ak h1 (.tup [.int 1,.int 0,.int 0]);have u2:=ak h2 (.tup [.int 1,.int 1,.int 0]);have u3:=ak h3 (.tup [.int 1,.int 1,.int 1]);have u4:=ak h4 (.tup [.int 1,.int 0,.int 1]);have u5:=ak h5 (.lst [V.ref p1,.ref p2,.ref p3,.ref p4]);have e1:=(u2.trans (u3.trans (u4.trans u5))) _ _ ae;have e2:=(u3.trans (u4.trans u5)) _ _ ae;have e3:=(u4.trans u5) _ _ ae;have e4:=u5 _ _ ae;have e5:upd (upd (upd (upd (upd H3 p1 (.tup [.int 1,.int 0,.int 0])) p2 (.tup [.int 1,.int 1,.int 0])) p3 (.tup [.int 1,.int 1,.int 1])) p4 (.tup [.int 1,.int 0,.int 1])) l5 (.lst [V.ref p1,.ref p2,.ref p3,.ref p4]) l5=some (.lst [V.ref p1,.ref p2,.ref p3,.ref p4]):=ae;have s5:=u1.trans (u2.trans (u3.trans (u4.trans u5)));generalize upd (upd (upd (upd (upd H3 p1 (.tup [.int 1,.int 0,.int 0])) p2 (.tup [.int 1,.int 1,.int 0])) p3 (.tup [.int 1,.int 1,.int 1])) p4 (.tup [.int 1,.int 0,.int 1])) l5 (.lst [V.ref p1,.ref p2,.ref p3,.ref p4])=H5 at *;have dsq:DatAll K H5 (Hu.sqH.map t3D) [V.ref p1,.ref p2,.ref p3,.ref p4]:=⟨_,_,rfl,bY (p:=⟨1,0,0⟩) (SqT.of e1),_,_,rfl,bY (p:=⟨1,1,0⟩) (SqT.of e2),_,_,rfl,bY (p:=⟨1,1,1⟩) (SqT.of e3),_,_,rfl,bY (p:=⟨1,0,1⟩) (SqT.of e4),rfl⟩;have s05:=s3.trans s5;refine ⟨vt,l5,_,t,Hu.sqH,L,rfl,e5,dsq,Hu.lR,sm,by show 4+t.deep<=20;omega,by omega,cu,dt.ts s05.ts,eL,λll ws H6 s6 el6 al6=>?_⟩;have s36:=s5.trans s6;have s06:=s05.trans s6;refine ⟨_,rfl,rfl,_,rfl,bH ?_⟩;refine ⟨_,rfl,ll,rfl,⟨ws,SqL.of el6⟩,?_⟩;refine hI (xs:=ws) (λi σ H'=>aK H6 H'/\∃ o7 o8,σ=[some vt,some (.ref x),some (.ref y),some (.ref lr),some (.int ((a.putR []).2:Nat)),some (.int ((b.putR (a.putR []).1).2:Nat)),some (.ref ll),o7,o8]) ⟨aK.refl _,_,_,rfl⟩ (λi σ H' _ z=>SqL.of (z.1 _ _ el6)) (λi v σ H' hv z=>?_) (λσ H' z=>?_)
 ·obtain ⟨s7,o7,o8,rfl⟩:=z;obtain ⟨g,hgi,ga,gus,rfl,eg,dg⟩:=(al6.imp (HuV.to s7)).get i v hv;have gm:=List.mem_of_getElem? hgi;obtain ⟨k,ka,kb⟩:=kL g gm;obtain ⟨hkg,hlg⟩:=hk g gm;have s37:=s36.trans s7;have gr3:∀ p∈g,Hu.R3 3000 p:=λp hp=>(hkg.ok p hp).r.mono (by decide);have n3:=hkg.n3;have sqn:Hu.sqH.length=4:=rfl;have da:DatAll K H3 ((qi a b).map kU) us:=R.dat rv;rcases R.run g with ⟨out,x1,y1,er,g1,e1,g2,e2⟩ | ⟨_,z⟩
  ·rw [ka] at e1;rw [kb] at e2;cases e1
   cases e2
   refine ⟨_,rfl,_,rfl,lr,ga,us,gus,qi a b,g,rfl,s37 _ _ el,da.ts s37.ts,R.ok,by omega,eg,dg,gr3,by omega,by omega,λrs t2 lq wr H8 s8 er' rb ln' et elr dlr=>?_,λk tt t2 v2 H8 s8 er' _ _ _ _=>?_⟩
   ·rw [er] at er';cases er'
    obtain ⟨v1,hv1,dv1⟩:=kH dlr g1;obtain ⟨v2,hv2,dv2⟩:=kH dlr g2;refine ⟨_,_,_,_,rfl,rfl,SqT.of et,rfl,?_⟩;refine ⟨_,rfl,rfl,_,rfl,bH ?_⟩;refine ⟨_,rfl,_,rfl,_,_,_,_,rfl,rfl,SqL.of elr,cg hv1,_,rfl,_,rfl,_,_,_,_,rfl,rfl,SqL.of elr,cg hv2,?_⟩;refine ⟨_,_,.inl dv1,.inl dv2,rD _,rD _,?_⟩;rw [eqv_t3,decide_eq_true rfl];exact ⟨_,rfl,bH ⟨s7.trans s8,_,_,rfl⟩⟩
   ·rw [er] at er';cases er'
  ·exfalso;rcases z with z | z
   ·rw [ka] at z;cases z
   ·rw [kb] at z;cases z
 ·obtain ⟨s7,o7,o8,rfl⟩:=z;exact q _ (s06.trans s7)
theorem AR (T:aD K mg "_law_told" qf) (aM:mg "isinstance"=none) (aZ:mg "tuple"=none) (bg:mg "len"=none) (dH:Def P w K mg base 63 "_law_object" ["_law_tree"] (CG c 60)) (D_alike:Def P w K mg base 16 "alike" ["one","other"] (zc c K)) (xj:Def P w K mg base 62 "_law_same" ["_law_tree","_law_one","_law_other"] (CA K)) (oN:Def P w K mg base 2 "_law_is_point" ["_law_found"] (spLPt K)) (dZ:Def P w K mg base 62 "_law_worth" ["_law_tree","_law_n","_law_x","_law_y"] (yU 60)):Def P w K mg base 64 "_law_told" ["_law_one","_law_other"] ve:=by
 refine aR T rO (λ_ _ _ _ _ _=>L2.ar2 λ_ _=>rfl) ?_ ?_
 ·walk_at "i1";obtain ⟨x,y,a,b,rfl,_⟩:=h;rfl
 walk_at "i2";obtain ⟨x,y,a,b,rfl,tx,ty,sz,n8,q⟩:=h;have nd:=rO.nd;have pa:=a.size_pos;have pb:=b.size_pos
 refine ⟨_,(ah (aJ (i:=2) nd rfl (Or.inl rfl) (aE D_alike (hr.mono (by decide)) rfl (aa (aE dH (hr.mono (by omega)) rfl (aa (pv 0) af)) (aa (aE dH (hr.mono (by omega)) rfl (aa (pv 1) af)) af))))
  (ah (aP (PW.pt (ig (iy (gk (aC iQ rfl aM (by decide+kernel) (aa (pv 2) (aa (gD (v:=V.ty "tuple") rfl aZ (by decide+kernel) rfl) af))))) (gW (aA jh (aC bC rfl bg (by decide+kernel) (aa (pv 2) af)) aq (aF _))))) (ao (av aI)) aH)
  (ah (aP (PW.pt (tV (aA bO (aG aB (pv 2) aq (λ_ _=>rfl)) aI (aF _)) (oT (gk (aE xj (hr.mono (by decide)) rfl (aa (aG aB (pv 2) aq (λ_ _=>rfl)) (aa (pv 0) (aa (pv 1) af)))))))) (ao (av aI)) aH)
  (ah (aP (PW.pt (ig (aA jh (aG aB (pv 2) aq (λ_ _=>rfl)) aI (aF _)) (gW (iy (gk (aE oN (hr.mono (by decide)) rfl (aa (aG aB (pv 2) aq (λ_ _=>rfl)) af))))))) (ao (av aI)) aH)
  (ah (xP (aG aB (pv 2) aq (λ_ _=>rfl)) (kY rfl (bw (aY (i:=3) nd rfl (Or.inl rfl)) (bw (aY (i:=4) nd rfl (Or.inl rfl)) (bw (aY (i:=5) nd rfl (Or.inl rfl)) eV)))))
  (ah (aP (aA jh (aE dZ (hr.mono (by omega)) rfl (aa (pv 0) (aa (pv 3) (aa (pv 4) (aa (pv 5) af))))) (aE dZ (hr.mono (by omega)) rfl (aa (pv 1) (aa (pv 3) (aa (pv 4) (aa (pv 5) af))))) (aF _)) (ao (av aI)) aH)
  (ao (av aI)))))))),?_⟩
 refine ⟨_,rfl,x,a,rfl,tx,by omega,λo H1 s1 oa=>?_⟩;refine ⟨_,rfl,y,b,rfl,ty.to (Kp.of s1),by omega,λo' H2 s2 ob=>?_⟩;have s12:=s1.trans s2;refine ⟨o,o',a,b,rfl,oa.to (Kp.of s2),ob,sz,n8,λp vt X L H3 s3 ep dt sm dp cu eL kL ke=>?_,λp vc k H3 s3 ep dk k0 kv kw ne=>?_⟩
 ·obtain ⟨kk,ev⟩:=eqv_of sm eL kL ke;have s13:=s12.trans s3;refine ⟨_,rfl,p,_,_,_,true,rfl,(λ_ h=>h),SqT.of ep,fX,_,rfl,bH ?_⟩;refine ⟨_,rfl,_,_,rfl,.inr ⟨_,SqT.of ep,rfl⟩,rfl,_,rfl,bH ?_⟩;refine ⟨_,rfl,_,_,_,_,rfl,rfl,SqT.of ep,rfl,rfl,_,rfl,ite_yes rfl ?_⟩;refine ⟨_,rfl,_,_,_,_,rfl,rfl,SqT.of ep,rfl,_,rfl,_,rfl,vt,x,y,a,b,X,L,rfl,tx.to (Kp.of s13),ty.to (Kp.of s13),sz,dt,sm,dp,cu,eL,kk,λH4 s4=>⟨_,rfl,dN ?_⟩⟩;exact q "alike" H4 (s13.trans s4) (.inl ⟨rfl,ev⟩)
 ·have s13:=s12.trans s3;refine ⟨_,rfl,p,_,_,_,true,rfl,(λ_ h=>h),SqT.of ep,fX,_,rfl,bH ?_⟩;refine ⟨_,rfl,_,_,rfl,.inr ⟨_,SqT.of ep,rfl⟩,rfl,_,rfl,bH ?_⟩;refine ⟨_,rfl,_,_,_,_,rfl,rfl,SqT.of ep,rfl,rfl,_,rfl,ite_no (by decide+kernel) ?_⟩;refine ⟨_,rfl,_,_,_,_,rfl,rfl,SqT.of ep,rfl,rfl,_,rfl,sH rfl ?_⟩;refine ⟨_,rfl,_,_,_,_,rfl,rfl,SqT.of ep,rfl,vc,k,rfl,dk,k0,kv.1,kv.2,kw.1,kw.2,λH4 s4=>⟨_,rfl,bH ?_⟩⟩;obtain ⟨ka,rfl,sk⟩:=dX dk;refine ⟨_,rfl,_,_,_,_,rfl,rfl,SqT.of (s4 _ _ ep),rfl,ka,_,rfl,sk.ts s4.ts,rfl,_,_,rfl,_,_,rfl,_,_,rfl,rfl,?_⟩;have s14:=s13.trans s4;refine ⟨_,rfl,_,rfl,_,rfl,_,rfl,x,a,k.u,k.v,k.w,rfl,tx.to (Kp.of s14),by omega,λH5 s5=>?_⟩;refine ⟨_,rfl,_,rfl,_,rfl,_,rfl,y,b,k.u,k.v,k.w,rfl,ty.to (Kp.of (s14.trans s5)),by omega,λH6 s6=>?_⟩;refine ⟨rfl,_,rfl,?_⟩;rw [show (!decide (V.int (a.worth k.u k.v k.w)=V.int (b.worth k.u k.v k.w)))=true from by rw [decide_eq_false (λz=>ne (V.int.inj z))];rfl];exact dN (q "unlike" H6 ((s14.trans s5).trans s6) (.inr ⟨rfl,λev=>ne (ev k k0 kv kw)⟩))
end
section
variable {P:Program} {w:World} {K:W.Frag} {mg:Str->Option Value} {base:Heap} {c:CCs}
theorem mZ:az qd ["_law_cells","_law_room","_law_two"] (ag jZ):=L2.fsc rfl (by decide+kernel)
theorem AS (T:aD K mg "_law_saying" jZ) (fe:mg "int"=none) (fL:Def P w K mg base 1 "_law_next" ["_law_cells"] sZ):∀ n:Nat,Def P w K mg base (n+2) "_law_saying" ["_law_cells","_law_room","_law_two"] (vf n):=by
 intro n
 induction n with
 | zero =>
  refine aR T mZ (λ_ _ _ _ _ _=>L2.ar3 λ_ _ _=>rfl) ?_ ?_
  ·walk_at "i1";obtain ⟨l,ms,r,b,rfl,_⟩:=h;rfl
  ·walk_at "i2";obtain ⟨l,ms,r,b,rfl,_,_,z1,z2,_⟩:=h;have:(r:Int)<=((0:Nat):Int):=z2;omega
 | succ n fj =>
  refine aR T mZ (λ_ _ _ _ _ _=>L2.ar3 λ_ _ _=>rfl) ?_ ?_
  ·walk_at "i1";obtain ⟨l,ms,r,b,rfl,_⟩:=h;rfl
  walk_at "i2";obtain ⟨l,ms,r,b,rfl,e,hc,r1,r2,q⟩:=h;have nd:=mZ.nd;have r2':r<=(n:Int)+1:=by exact_mod_cast r2
  have tail4:∃ t,PSs (cS CX0 P w K mg base qd "_law_saying" (ag jZ) f cdv A outer s H E).nox ((bu jZ).drop 4) t/\∀(i:Int) (ms1:List Int) (H1:Hp),(∀ m∈ms1,Cel m)->SB (.ref l) H H1->H1 l=some (.lst (ms1.map V.int))->
    t {nx:=λ_ H'=>Q .non H',rt:=Q} [some (.ref l),some (.int r),some (.bl b),some (.int i),some (.int (i / 16)),none,none,none] H1:=by
   refine ⟨_,(ah (aP (aA kM (aL fB (pv 4) aq) aq (aF _)) (ao (av (ba (aa (aG aB (ba (aa aI (aa aI af))) (aL eW (aL fB (pv 4) aq) aq) (λ_ _=>rfl)) af)))) aH)
  (ao (av (ba (aa (aG aB (ba (aa aI (aa aI af))) (aL cf (aL fB (pv 4) aq) (cB iR rfl fe (by decide+kernel) (aa (pv 2) af))) (λ_ _=>rfl)) af))))),?_⟩
   intro i ms1 H1 hc1 sb1 e1
   have fin:∀(p p2:Addr) (xs:List V) (x:Str) (t:Tr),t.size=1->H1 p=none->upd H1 p (.tup xs) p2=none->Tu (upd (upd H1 p (.tup xs)) p2 (.tup [V.str x])) p2 t->Q (.ref p2) (upd (upd H1 p (.tup xs)) p2 (.tup [V.str x])):=λp p2 xs x t ht hp hp2 tu=>by
    have s1:=ak hp (.tup xs);have s2:=ak hp2 (.tup [V.str x]);exact q p2 t ms1 _ (by rw [ht];exact r1) hc1 (sb1.trans (SB.of (s1.trans s2))) (s2 _ _ (s1 _ _ e1)) tu
   refine ⟨_,rfl,_,_,rfl,rfl,(show (0:Int) < 9 by decide),_,_,rfl,rfl,_,rfl,?_⟩;refine eA (λg=>?_) (λg=>?_)
   ·have g1:6 < i / 16 % 9:=of_decide_eq_true g;have g2:i / 16 % 9 < 9:=Int.emod_lt_of_pos _ (by decide);refine ⟨(by show 2<=sizeLine;decide),λp hp=>?_⟩;obtain ⟨z,hz,hzz⟩:=two_at (x:=V.str "never") (y:=V.str "always") (i / 16 % 9 - 7) (by omega);refine ⟨_,rfl,_,_,rfl,rfl,(show (0:Int) < 9 by decide),_,_,rfl,rfl,_,_,_,_,rfl,rfl,SqT.of ae,hz,(by show 1<=sizeLine;decide),λp2 hp2=>?_⟩;rcases hzz with rfl | rfl
    ·exact fin p p2 _ _ .never rfl hp hp2 (.never ae)
    ·exact fin p p2 _ _ .always rfl hp hp2 (.always ae)
   ·have g2:i / 16 % 2 < 2:=Int.emod_lt_of_pos _ (by decide);have g3:0<=i / 16 % 2:=Int.emod_nonneg _ (by decide);refine ⟨(by show 2<=sizeLine;decide),λp hp=>?_⟩;have hi:i / 16 % 2*(if b then 1 else 0)=0\/i / 16 % 2*(if b then 1 else 0)=1:=by cases b <;> simp <;> omega
    obtain ⟨z,hz,hzz⟩:=two_at (x:=V.str "p") (y:=V.str "q") (i / 16 % 2*(if b then 1 else 0)) hi;refine ⟨_,rfl,_,_,rfl,rfl,(show (0:Int) < 2 by decide),_,rfl,.inr ⟨b,rfl,_,_,rfl,rfl,eX (by cases b <;> decide+kernel),_,_,_,_,rfl,rfl,SqT.of ae,hz,(by show 1<=sizeLine;decide),λp2 hp2=>?_⟩⟩;rcases hzz with rfl | rfl
    ·exact fin p p2 _ _ .lp rfl hp hp2 (.lp ae)
    ·exact fin p p2 _ _ .lq rfl hp hp2 (.lq ae)
  obtain ⟨t4,ht4,hq4⟩:=tail4
  have tail3:∃ t,PSs (cS CX0 P w K mg base qd "_law_saying" (ag jZ) f cdv A outer s H E).nox ((bu jZ).drop 3) t/\∀(i:Int) (ms1:List Int) (H1:Hp),(∀ m∈ms1,Cel m)->SB (.ref l) H H1->H1 l=some (.lst (ms1.map V.int))->
    t {nx:=λ_ H'=>Q .non H',rt:=Q} [some (.ref l),some (.int r),some (.bl b),some (.int i),some (.int (i / 16)),none,none,none] H1:=by
   refine ⟨_,ah (aP (PW.pt (tV (aA kM (pv 1) aq (aF _)) (oT (aA rX (aL fB (pv 3) aq) aq (aF _))))) (ao (av (ba (aa aI (aa (aE fj (hr.mono (by omega)) rfl (aa (pv 0) (aa (aL eW (pv 1) aq) (aa (pv 2) af)))) af))))) aH) ht4,?_⟩;intro i ms1 H1 hc1 sb1 e1;refine ⟨_,rfl,_,_,rfl,rfl,_,rfl,?_⟩;refine eA (λg=>?_) (λg=>?_)
   ·have g1:1 < r:=of_decide_eq_true g;refine ⟨_,rfl,_,_,rfl,rfl,(show (0:Int) < 16 by decide),_,_,rfl,rfl,_,rfl,?_⟩;refine eA (λg'=>?_) (λg'=>hq4 i ms1 H1 hc1 sb1 e1);refine ⟨_,rfl,_,rfl,_,_,rfl,rfl,_,rfl,l,ms1,r - 1,b,rfl,e1,hc1,by omega,by omega,λa1 t1 ms2 H2 z1 hc2 sb2 e2 tu=>?_⟩;refine ⟨(by show 2<=sizeLine;decide),λp hp=>?_⟩;have s3:=ak hp (.tup [V.str "not",.ref a1]);exact q p (.no t1) ms2 _ (by show ((t1.size+1:Nat):Int)<=r;omega) hc2 ((sb1.trans sb2).trans (SB.of s3)) (s3 _ _ e2) (.no ae (tu.to (Kp.of s3)))
   ·exact bH (hq4 i ms1 H1 hc1 sb1 e1)
  obtain ⟨t3,ht3,hq3⟩:=tail3;refine ⟨_,ah (aJ (i:=3) nd rfl (Or.inl rfl) (aE fL (hr.mono (by omega)) rfl (aa (pv 0) af))) (ah (aJ (i:=4) nd rfl (Or.inl rfl) (aL oX (pv 3) aq)) (ah (aP (PW.pt (tV (aA kM (pv 1) aq (aF _)) (oT (aA kM (aL fB (pv 3) aq) aq (aF _))))) (ah (aJ (i:=5) nd rfl (Or.inl rfl) (aL bR aq (aL fB (aL oX (pv 4) aq) (aL eW (pv 1) aq))))
  (ah (aJ (i:=6) nd rfl (Or.inl rfl) (aE fj (hr.mono (by omega)) rfl (aa (pv 0) (aa (pv 5) (aa (pv 2) af)))))
  (ah (aJ (i:=7) nd rfl (Or.inl rfl) (aG aB (ba (aa aI (aa aI (aa aI (aa aI (aa aI af)))))) (aL fB (pv 4) aq) (λ_ _=>rfl)))
  (ao (av (ba (aa (pv 7) (aa (pv 6) (aa (aE fj (hr.mono (by omega)) rfl (aa (pv 0) (aa (aL eW (aL eW (pv 1) aq) (pv 5)) (aa (pv 2) af)))) af))))))))) aH) ht3)),?_⟩
  refine ⟨_,rfl,l,ms,rfl,e,hc,λi ms1 H1 ci hc1 sb1 e1=>?_⟩;refine ⟨_,rfl,_,_,rfl,rfl,⟨by decide,by decide⟩,?_⟩;refine ⟨_,rfl,_,_,rfl,rfl,_,rfl,?_⟩;refine eA (λg=>?_) (λg=>bH (hq3 i ms1 H1 hc1 sb1 e1));have g1:2 < r:=of_decide_eq_true g;refine ⟨_,rfl,_,_,rfl,rfl,(show (0:Int) < 16 by decide),_,_,rfl,rfl,_,rfl,?_⟩;refine eA (λg'=>?_) (λg'=>hq3 i ms1 H1 hc1 sb1 e1);have b1:0<=i / 16 / 5 % (r - 2):=Int.emod_nonneg _ (by omega);have b2:i / 16 / 5 % (r - 2) < r - 2:=Int.emod_lt_of_pos _ (by omega);refine ⟨_,rfl,_,_,rfl,rfl,⟨by decide,by decide⟩,_,rfl,_,_,rfl,rfl,_,_,rfl,rfl,(show (0:Int) < r - 2 by omega),_,_,rfl,rfl,?_⟩;refine ⟨_,rfl,_,rfl,_,rfl,l,ms1,_,b,rfl,e1,hc1,by omega,by omega,λa1 x1 ms2 H2 z1 hc2 sb2 e2 tu1=>?_⟩;refine ⟨(by show 5<=sizeLine;decide),λp hp=>?_⟩;obtain ⟨u,hu⟩:=word_at (i / 16 % 5) (Int.emod_nonneg _ (by decide)) (Int.emod_lt_of_pos _ (by decide));refine ⟨_,rfl,_,_,rfl,rfl,(show (0:Int) < 5 by decide),_,_,_,_,rfl,rfl,SqT.of ae,hu,?_⟩;have s2:=ak hp (.tup [V.str "more",.str "less",.str "greater",.str "lesser",.str "leads"]);refine ⟨_,rfl,_,rfl,_,rfl,_,rfl,_,_,rfl,rfl,_,rfl,_,_,rfl,rfl,_,rfl,l,ms2,_,b,rfl,s2 _ _ e2,hc2,by omega,by omega,λa2 x2 ms3 H3 z2 hc3 sb3 e3 tu2=>?_⟩;refine ⟨(by show 3<=sizeLine;decide),λp2 hp2=>?_⟩;have s4:=ak hp2 (.tup [V.str u.str,.ref a1,.ref a2]);have k3:Kp (upd H2 p (.tup [V.str "more",.str "less",.str "greater",.str "lesser",.str "leads"])) H3:=sb3.kp (lst_fx (s2 _ _ e2));exact q p2 (.fold u x1 x2) ms3 _ (by show ((x1.size+x2.size+1:Nat):Int)<=r;omega) hc3 ((((sb1.trans sb2).trans (SB.of s2)).trans sb3).trans (SB.of s4)) (s4 _ _ e3) (.fold ae (tu1.to (((Kp.of s2).trans k3).trans (Kp.of s4))) (tu2.to (Kp.of s4)))
end
theorem wfold (u:W5) (a b:Tr) (n x y:Int):Tr.worth n x y (.fold u a b)=u.worth n (a.worth n x y) (b.worth n x y):=rfl
theorem wno (a:Tr) (n x y:Int):Tr.worth n x y (.no a)=n - a.worth n x y:=rfl
theorem wal (n x y:Int):Tr.worth n x y .always=n:=rfl
theorem sal:Tr.always.size=1:=rfl
theorem nal:Tr.always.nf=0:=rfl
theorem sfold (u:W5) (a b:Tr):(Tr.fold u a b).size=a.size+b.size+1:=rfl
theorem sno (a:Tr):(Tr.no a).size=a.size+1:=rfl
theorem twl_eqv {a b s t:Tr} (h:(s,t)∈twl a b):Eqv s t/\s.size+t.size<=3*(a.size+b.size)+10/\s.nf+t.nf<=3*(a.nf+b.nf)+4:=by
 have pa:=a.size_pos;have pb:=b.size_pos;refine ⟨λp p0 hv hw=>?_,?_,?_⟩
 ·have wa:=jm (n:=p.u) (x:=p.v) (y:=p.w) (by omega) hv hw a;have wb:=jm (n:=p.u) (x:=p.v) (y:=p.w) (by omega) hv hw b;simp only [twl,List.mem_cons,List.not_mem_nil,or_false,Prod.mk.injEq] at h;rcases h with ⟨rfl,rfl⟩ | ⟨rfl,rfl⟩ | ⟨rfl,rfl⟩ | ⟨rfl,rfl⟩ | ⟨rfl,rfl⟩ | ⟨rfl,rfl⟩ | ⟨rfl,rfl⟩ | ⟨rfl,rfl⟩ | ⟨rfl,rfl⟩ | ⟨rfl,rfl⟩ | ⟨rfl,rfl⟩ <;> simp only [wfold,wno,wal,W5.worth] <;> omega
 ·simp only [twl,List.mem_cons,List.not_mem_nil,or_false,Prod.mk.injEq] at h;rcases h with ⟨rfl,rfl⟩ | ⟨rfl,rfl⟩ | ⟨rfl,rfl⟩ | ⟨rfl,rfl⟩ | ⟨rfl,rfl⟩ | ⟨rfl,rfl⟩ | ⟨rfl,rfl⟩ | ⟨rfl,rfl⟩ | ⟨rfl,rfl⟩ | ⟨rfl,rfl⟩ | ⟨rfl,rfl⟩ <;> simp only [sfold,sno,sal] <;> omega
 ·simp only [twl,List.mem_cons,List.not_mem_nil,or_false,Prod.mk.injEq] at h;rcases h with ⟨rfl,rfl⟩ | ⟨rfl,rfl⟩ | ⟨rfl,rfl⟩ | ⟨rfl,rfl⟩ | ⟨rfl,rfl⟩ | ⟨rfl,rfl⟩ | ⟨rfl,rfl⟩ | ⟨rfl,rfl⟩ | ⟨rfl,rfl⟩ | ⟨rfl,rfl⟩ | ⟨rfl,rfl⟩ <;> simp only [oZ,zH,nal] <;> omega
theorem not_eqv (a:Tr):¬Eqv a (.no a):=λh=>by
 have z:a.worth 1 0 0=1 - a.worth 1 0 0:=h ⟨1,0,0⟩ (by decide) ⟨by decide,by decide⟩ ⟨by decide,by decide⟩;omega
theorem Eqv.symm {a b:Tr} (h:Eqv a b):Eqv b a:=λp h0 hv hw=>(h p h0 hv hw).symm
abbrev um:List Str:=["_law_script","_law_cells","_law_cell","_law_pair","_law_turn","_law_one","_law_other"]
section
variable {P:Program} {w:World} {K:W.Frag} {mg:Str->Option Value} {base:Heap}
theorem vA:az um ["_law_script"] (ag lX):=L2.fsc rfl (by decide+kernel)
theorem ok_law {f:Addr} {fd:FuncData} (F:Fun K "law" "law" lX f fd) (xg:Def P w K mg base 1 "_law_mixed" ["_law_script","_law_least"] (yX K)) (fL:Def P w K mg base 1 "_law_next" ["_law_cells"] sZ) (jf:Def P w K mg base 63 "_law_few" ["_law_cells","_law_room","_law_most"] zb) (dI:Def P w K mg base 61 "_law_folds" ["_law_tree"] (xG 60)) (mS:Def P w K mg base 1 "_law_twins" ["_law_cell","_law_a","_law_b"] yV) (ir:Def P w K mg base 64 "_law_told" ["_law_one","_law_other"] ve):mR P w K mg base CX0 80 f fd ["_law_script"] (spLaw K):=by
 refine F.ok vA ?_ ?_
 ·walk_at "i1";obtain ⟨a,ns,rfl,_⟩:=h;rfl
 walk_at "i3";obtain ⟨a,ns,rfl,S,q⟩:=h;have nd:=vA.nd;have d1:(1:Nat)<=sizeLine:=by decide
 have d2:(2:Nat)<=sizeLine:=by decide
 have d3:(3:Nat)<=sizeLine:=by decide
 have t9:∃ t,qW (cS CX0 P w K mg base um "law" (ag lX) f cdv A outer s H E).nox ((bu lX).drop 9) t/\∀(o1 o2 o3 o4:Option V) (a1 a2:Addr) (x y:Tr) (H1:Hp),Tu H1 a1 x->x.size<=9->x.nf<=3->Tu H1 a2 y->y.size<=11->y.nf<=4->
   t {nx:=λ_ H'=>Q .non H',rt:=Q} [some (.ref a),o1,o2,o3,o4,some (.ref a1),some (.ref a2)] H1:=by
  refine ⟨_,⟨(ah (aP (PW.pt (ig (aA bO (aE ir (hr.mono (by decide)) rfl (aa (pv 5) (aa (pv 6) af))) aI (aF _)) (gW (aA jh (aE ir (hr.mono (by decide)) rfl (aa (pv 5) (aa (pv 5) af))) aI (aF _))))) (ao (av kK)) aH)
  (ao (av (fS bO (aE ir (hr.mono (by decide)) rfl (aa (pv 5) (vR (ba (aa aI (aa (pv 5) af))) af))) aI (aF _)))))⟩,?_⟩
  intro o1 o2 o3 o4 a1 a2 x y H1 tx sx nx ty sy ny;refine ⟨_,rfl,_,rfl,a1,a2,x,y,rfl,tx,ty,by omega,by omega,λr H2 s2 hr2=>⟨rfl,_,rfl,?_⟩⟩;have e2:decide (V.str r=V.str "other")=false:=by rcases hr2 with ⟨rfl,_⟩ | ⟨rfl,_⟩ <;> decide+kernel
  rw [e2];refine bH ?_;refine ⟨_,rfl,_,rfl,a1,a1,x,x,rfl,tx.to (Kp.of s2),tx.to (Kp.of s2),by omega,by omega,λr3 H3 s3 hr3=>⟨rfl,_,rfl,?_⟩⟩
  have e3:r3="alike":=by
   rcases hr3 with ⟨z,_⟩ | ⟨_,z⟩
   ·exact z
   ·exact absurd (λp _ _ _=>rfl) z
  subst e3;refine sH rfl ?_;have s13:=s2.trans s3;refine ⟨_,rfl,_,rfl,d2,λp hp=>?_⟩;have u4:=ak hp (.tup [V.str "not",.ref a1]);have tn:Tu (upd H3 p (.tup [V.str "not",.ref a1])) p (.no x):=.no ae (tx.to (Kp.of (s13.trans u4)));have zn:=zH x;have zs:=sno x;refine ⟨a1,p,x,.no x,rfl,tx.to (Kp.of (s13.trans u4)),tn,by omega,by omega,λr5 H5 s5 hr5=>⟨rfl,?_⟩⟩
  have e5:r5="unlike":=by
   rcases hr5 with ⟨_,z⟩ | ⟨z,_⟩
   ·exact absurd z (not_eqv x)
   ·exact z
  subst e5;rw [decide_eq_true rfl];exact q _
 obtain ⟨t9,ht9,k9⟩:=t9
 have t6:∃ t,qW (cS CX0 P w K mg base um "law" (ag lX) f cdv A outer s H E).nox ((bu lX).drop 6) t/\∀(C:Addr) (ms:List Int) (i:Int) (o3 o4:Option V) (H2:Hp),H2 C=some (.lst (ms.map V.int))->(∀ m∈ms,Cel m)->
   t {nx:=λ_ H'=>Q .non H',rt:=Q} [some (.ref a),some (.ref C),some (.int i),o3,o4,none,none] H2:=by
  refine ⟨_,⟨ah (aJ (i:=5) nd rfl (Or.inl rfl) (aE jf (hr.mono (by decide)) rfl (aa (pv 1) (fW (fW af))))) (ah (aJ (i:=6) nd rfl (Or.inl rfl) (aE jf (hr.mono (by decide)) rfl (aa (pv 1) (fW (fW af))))) (nE (aP (aA bO (aL fB (aL oX (pv 2) aq) aq) aq (aF _)) (ao (aJ (i:=6) nd rfl (Or.inl rfl) (ba (aa aI (aa (pv 5) (vR (ba (aa aI af)) af)))))) aH) ht9))⟩,?_⟩;intro C ms i o3 o4 H2 eC cel;refine ⟨_,rfl,C,ms,9,3,rfl,eC,cel,by decide,by decide,by decide,λa1 x ms1 H3 sx nx c1 sb1 e1 tx=>?_⟩;refine ⟨_,rfl,C,ms1,9,3,rfl,e1,c1,by decide,by decide,by decide,λa2 y ms2 H4 sy ny c2 sb2 e2 ty=>?_⟩;have kp2:Kp H3 H4:=sb2.kp λa' o' z1 z2=>by cases z1;rw [e1] at z2;cases z2;rfl
  have tx4:=tx.to kp2;refine ⟨_,rfl,_,_,rfl,rfl,⟨by decide,by decide⟩,_,_,rfl,rfl,(by show (0:Int) < 3;decide),rfl,_,rfl,eA (λ_=>?_) (λ_=>?_)⟩
  ·refine ⟨_,rfl,d1,λp1 h1=>⟨d3,λp2 h2=>?_⟩⟩;have u1:=ak h1 (.tup [V.str "q"]);have u2:=ak h2 (.tup [V.str "lesser",.ref a1,.ref p1]);have s12:=u1.trans u2;have tx5:=tx4.to (Kp.of s12);have tl5:Tu (upd (upd H4 p1 (.tup [V.str "q"])) p2 (.tup [V.str "lesser",.ref a1,.ref p1])) p2 (.fold .lesser x .lq):=.fold ae tx5 (.lq (u2 _ _ ae));have zs:=sfold .lesser x .lq;have zn:=oZ .lesser x .lq;have z1:Tr.lq.size=1:=rfl;have z2:Tr.lq.nf=0:=rfl;exact k9 _ _ _ _ a1 p2 x _ _ tx5 (by omega) (by omega) tl5 (by omega) (by omega)
  ·exact k9 _ _ _ _ a1 a2 x y _ tx4 (by omega) (by omega) ty (by omega) (by omega)
 obtain ⟨t6,ht6,k6⟩:=t6
 have t4:∃ t,qW (cS CX0 P w K mg base um "law" (ag lX) f cdv A outer s H E).nox ((bu lX).drop 4) t/\∀(C p z y:Addr) (ms:List Int) (i:Int) (u v:Tr) (H1:Hp),H1 C=some (.lst (ms.map V.int))->(∀ m∈ms,Cel m)->H1 p=some (.tup [.ref z,.ref y])->Tu H1 z u->Tu H1 y v->u.size+v.size<=60->u.nf+v.nf<=8->Eqv u v->
   t {nx:=λ_ H'=>Q .non H',rt:=Q} [some (.ref a),some (.ref C),some (.int i),some (.ref p),none,none,none] H1:=by
  refine ⟨_,⟨ah (aJ (i:=4) nd rfl (Or.inl rfl) (aL fB (aL oX (pv 2) aq) aq)) (nE (aP (aA jh (aE ir (hr.mono (by decide)) rfl (aa (aG aB (pv 3) (pv 4) (λ_ _=>rfl)) (aa (aG aB (pv 3) (aL eW aq (pv 4)) (λ_ _=>rfl)) af))) aI (aF _)) (ao (av kK)) aH) ht6)⟩,?_⟩;intro C p z y ms i u v H1 eC cel ep tz ty sz n8 ev;have m0:=Int.emod_nonneg (i / 11) (show (2:Int)≠0 by decide);have m2:=Int.emod_lt_of_pos (i / 11) (show (0:Int) < 2 by decide);refine ⟨_,rfl,_,_,rfl,rfl,⟨by decide,by decide⟩,_,_,rfl,rfl,(by show (0:Int) < 2;decide),?_⟩;rcases (by omega:i / 11 % 2=0\/i / 11 % 2=1) with e | e
  ·refine ⟨_,rfl,_,rfl,_,_,_,_,rfl,rfl,SqT.of ep,(by rw [e];rfl),_,rfl,_,rfl,_,_,rfl,rfl,_,_,_,_,rfl,rfl,SqT.of ep,(by rw [e];rfl),z,y,u,v,rfl,tz,ty,sz,n8,λr H2 s2 hr2=>⟨rfl,_,rfl,?_⟩⟩
   have er:r="alike":=by
    rcases hr2 with ⟨z,_⟩ | ⟨_,z⟩
    ·exact z
    ·exact absurd ev z
   subst er;exact sH rfl (k6 C ms i _ _ H2 (s2 _ _ eC) cel)
  ·refine ⟨_,rfl,_,rfl,_,_,_,_,rfl,rfl,SqT.of ep,(by rw [e];rfl),_,rfl,_,rfl,_,_,rfl,rfl,_,_,_,_,rfl,rfl,SqT.of ep,(by rw [e];rfl),y,z,v,u,rfl,ty,tz,by omega,by omega,λr H2 s2 hr2=>⟨rfl,_,rfl,?_⟩⟩
   have er:r="alike":=by
    rcases hr2 with ⟨z,_⟩ | ⟨_,z⟩
    ·exact z
    ·exact absurd ev.symm z
   subst er;exact sH rfl (k6 C ms i _ _ H2 (s2 _ _ eC) cel)
 obtain ⟨t4,ht4,k4⟩:=t4;refine ⟨_,ah (aJ (i:=1) nd rfl (Or.inl rfl) (aE xg (hr.mono (by omega)) rfl (aa (pv 0) (fW af)))) (ah (aJ (i:=2) nd rfl (Or.inl rfl) (aE fL (hr.mono (by omega)) rfl (aa (pv 1) af))) (ah (aJ (i:=3) nd rfl (Or.inl rfl) (aE mS (hr.mono (by decide)) rfl (aa (pv 2) (aa (aE jf (hr.mono (by decide)) rfl (aa (pv 1) (fW (fW af)))) (aa (aE jf (hr.mono (by decide)) rfl (aa (pv 1) (fW (fW af)))) af))))) (nE (aP (aA kM (aL bR (aE dI (hr.mono (by decide)) rfl (aa (aG aB (pv 3) aq (λ_ _=>rfl)) af)) (aE dI (hr.mono (by decide)) rfl (aa (aG aB (pv 3) aq (λ_ _=>rfl)) af))) aq (aF _)) (ao (aJ (i:=3) nd rfl (Or.inl rfl) (aE mS (hr.mono (by decide)) rfl (aa (pv 2) (vR (ba (aa aI af)) (vR (ba (aa aI (vR (ba (aa aI af)) af))) af)))))) aH) ht4))),?_⟩;refine ⟨_,rfl,a,ns,60,rfl,S,by decide,by decide,λC ms H1 s1 fC eC cel=>?_⟩;refine ⟨_,rfl,C,ms,rfl,eC,cel,λi ms1 H2 ci c1 sb1 e1=>?_⟩;refine ⟨_,rfl,_,rfl,C,ms1,5,1,rfl,e1,c1,by decide,by decide,by decide,λa1 x ms2 H3 sx nx c2 sb2 e2 tx=>?_⟩;refine ⟨_,rfl,C,ms2,5,1,rfl,e2,c2,by decide,by decide,by decide,λa2 y ms3 H4 sy ny c3 sb3 e3 ty=>?_⟩;have kp3:Kp H3 H4:=sb3.kp λa' o' z1 z2=>by cases z1;rw [e2] at z2;cases z2;rfl
 refine ⟨i,a1,a2,x,y,rfl,tx.to kp3,ty,λp z z' u v H5 s5 ep tz tz' mem=>?_⟩;obtain ⟨ev,su,nu⟩:=twl_eqv mem;have pu:=u.size_pos;have pv:=v.size_pos;refine ⟨_,rfl,_,_,_,_,rfl,rfl,SqT.of ep,rfl,z,u,rfl,tz,by omega,λH6 s6=>?_⟩;have ep6:=s6 _ _ ep;refine ⟨_,rfl,_,_,_,_,rfl,rfl,SqT.of ep6,rfl,z',v,rfl,tz'.to (Kp.of s6),by omega,λH7 s7=>?_⟩;have s67:=s6.trans s7;have e7:=(s5.trans s67) _ _ e3;refine ⟨_,_,rfl,rfl,_,_,rfl,rfl,_,rfl,eA (λ_=>?_) (λc8=>?_)⟩
 ·refine ⟨_,rfl,d1,λp1 h1=>⟨d1,λp2 h2=>⟨d2,λp3 h3=>?_⟩⟩⟩;have u1:=ak h1 (.tup [V.str "p"]);have u2:=ak h2 (.tup [V.str "q"]);have u3:=ak h3 (.tup [V.str "not",.ref p2]);have E1:=(u2.trans u3) _ _ ae;have E2:=u3 _ _ ae;refine ⟨i,p1,p3,.lp,.no .lq,rfl,.lp E1,.no ae (.lq E2),λp z z' u v H8 s8 ep tz tz' mem=>?_⟩;obtain ⟨ev,su,nu⟩:=twl_eqv mem;have z1:Tr.lp.size=1:=rfl;have z2:(Tr.no .lq).size=2:=rfl;have z3:Tr.lp.nf=0:=rfl;have z4:(Tr.no .lq).nf=0:=rfl;exact k4 C p z z' ms3 i u v H8 (((u1.trans u2).trans u3).trans s8 _ _ e7) c3 ep tz tz' (by omega) (by omega) ev
 ·have c8:¬ (8:Int) < (u.nf:Int)+(v.nf:Int):=λy=>c8 (decide_eq_true y);exact k4 C p z z' ms3 i u v H7 e7 c3 (s7 _ _ ep6) (tz.to (Kp.of s67)) (tz'.to (Kp.of s67)) (by omega) (by omega) ev
end
end Mine
namespace L2
open PySem PySem.Spec PyProof.Rows
structure cW (K:W.Frag) (x qual:Str) (st:Stmt) (f:Addr):Prop where
 ex:∃ fd:FuncData,Fun K x qual st f fd
 fn:PySem.W.isFn K (.ref f)=true
theorem bc {K:W.Frag} {x qual:Str} {st:Stmt} {f:Addr} {oc kV doc pm cdv ct:Value} {od an:Option Addr} {osl:Array (Option Value)} (l:K.lookup f=some ⟨oc,od,.func (PySem.W.fnOf x qual (eZ st) (bu st) (ag st) .none kV doc pm an cdv ct),osl⟩)
  (c:PySem.W.codeIn K cdv qual=true) (k:PySem.W.keepIn K (.ref f)=true) (fn:PySem.W.isFn K (.ref f)=true):cW K x qual st f:=⟨⟨_,EE l c k⟩,fn⟩
theorem cW.meth {K:W.Frag} {x qual:Str} {st:Stmt} {f C:Addr} (e:cW K x qual st f) (cl:Cls K C) (g:PySem.W.findIn K (.ref C) x=some (some (.ref f))):aS K C x qual st:=by
 obtain ⟨fd,F⟩:=e.ex;exact ⟨cl,f,fd,⟨g,e.fn,F.kp⟩,F⟩
theorem cW.made {K:W.Frag} {mg:Str->Option Value} {x qual:Str} {st:Stmt} {f C:Addr} (e:cW K "__init__" qual st f) (cl:Cls K C) (g:PySem.W.findIn K (.ref C) "__init__"=some (some (.ref f))) (m:mg x=some (.ref C)) (y:PySem.W.makesIn K C=true) (z:PySem.W.keepIn K (.ref C)=true):MkF K mg x C qual st:=by
 obtain ⟨fd,F⟩:=e.ex;exact ⟨cl,m,f,fd,⟨y,g,e.fn,z⟩,F⟩
end L2
open PySem PySem.W PyProof.Rows
structure Mine.AllF (K:Frag) (mg:Str->Option Value) (c:Mine.CCs):Prop where
 fx:Mine.Fx K c
 madeS_ne:L2.aS K c.ne "made_of" "Saying.made_of" Mine.bX
 madeS_al:L2.aS K c.al "made_of" "Saying.made_of" Mine.bX
 madeS_le:L2.aS K c.le "made_of" "Saying.made_of" Mine.bX
 piecesS_ne:L2.aS K c.ne "pieces" "Saying.pieces" Mine.cA
 piecesS_al:L2.aS K c.al "pieces" "Saying.pieces" Mine.cA
 piecesS_le:L2.aS K c.le "pieces" "Saying.pieces" Mine.cA
 laid:∀ t,L2.aS K (c.of t) "laid_out" "Saying.laid_out" Mine.eJ
 told:∀ t,L2.aS K (c.of t) "told" "Saying.told" Mine.kJ
 out:∀ t,L2.aS K (c.of t) "out_of" "Saying.out_of" Mine.gj
 parts:∀ t,L2.aS K (c.of t) "parts" "Saying.parts" Mine.jD
 foldsS:∀ t,L2.aS K (c.of t) "folds" "Saying.folds" Mine.cO
 Kne_ne:L2.aS K c.ne "making_word" "Never.making_word" Mine.cJ
 Wne_ne:L2.aS K c.ne "weigh" "Never.weigh" Mine.fN
 Kal_al:L2.aS K c.al "making_word" "Always.making_word" Mine.cE
 Wal_al:L2.aS K c.al "weigh" "Always.weigh" Mine.eP
 Kle_le:L2.aS K c.le "making_word" "Letter.making_word" Mine.bF
 Wle_le:L2.aS K c.le "weigh" "Letter.weigh" Mine.cP
 Kno_no:L2.aS K c.no "making_word" "Not.making_word" Mine.de
 Wno_no:L2.aS K c.no "weigh" "Not.weigh" Mine.hZ
 Mno_no:L2.aS K c.no "made_of" "Not.made_of" Mine.fM
 Pno_no:L2.aS K c.no "pieces" "Not.pieces" Mine.gx
 Mfo:∀ u,L2.aS K (c.fold u) "made_of" "Fold.made_of" Mine.eO
 Pfo:∀ u,L2.aS K (c.fold u) "pieces" "Fold.pieces" Mine.fR
 Wfo:∀ u,L2.aS K (c.fold u) "weigh" "Fold.weigh" Mine.gy
 F0mo_mo:L2.aS K c.mo "making_word" "More.making_word" Mine.cU
 F1mo_mo:L2.aS K c.mo "folded" "More.folded" Mine.fO
 F0ls_ls:L2.aS K c.ls "making_word" "Less.making_word" Mine.cV
 F1ls_ls:L2.aS K c.ls "folded" "Less.folded" Mine.fQ
 F0gr_gr:L2.aS K c.gr "making_word" "Greater.making_word" Mine.bZ
 F1gr_gr:L2.aS K c.gr "folded" "Greater.folded" Mine.dF
 F0lr_lr:L2.aS K c.lr "making_word" "Lesser.making_word" Mine.cD
 F1lr_lr:L2.aS K c.lr "folded" "Lesser.folded" Mine.dQ
 F0ld_ld:L2.aS K c.ld "making_word" "Leads.making_word" Mine.cK
 F1ld_ld:L2.aS K c.ld "folded" "Leads.folded" Mine.eM
 ile:L2.MkF K mg "Letter" c.le "Letter.__init__" Mine.fP
 ino:L2.MkF K mg "Not" c.no "Not.__init__" Mine.iX
 ifo:∀ u,L2.MkF K mg (Mine.W5.cls u) (c.fold u) "Fold.__init__" Mine.ic
 o_ne:L2.Mk0 K c.ne
 r_ne:mg "Never"=some (.ref c.ne)
 o_al:L2.Mk0 K c.al
 r_al:mg "Always"=some (.ref c.al)
theorem Mine.all_mk {K:Frag} {h:Heap} {mg:Str->Option Value} {ne al le no mo ls gr lr ld f_madeS f_piecesS f_laid f_told f_out f_parts f_foldsS f_Kne f_Wne f_Kal f_Wal f_Kle f_Wle f_Kno f_Wno f_Mno f_Pno f_Mfo f_Pfo f_Wfo f_F0mo f_F1mo f_F0ls f_F1ls f_F0gr f_F1gr f_F0lr f_F1lr f_F0ld f_F1ld f_ile f_ino f_ifo:Addr} (X:K.In h) (G:h.Ns mainGlobals mg)
  (n_ne:nsIn K mainGlobals "Never"=some (some (.ref ne)))
  (n_al:nsIn K mainGlobals "Always"=some (some (.ref al)))
  (n_le:nsIn K mainGlobals "Letter"=some (some (.ref le)))
  (n_no:nsIn K mainGlobals "Not"=some (some (.ref no)))
  (n_mo:nsIn K mainGlobals "More"=some (some (.ref mo)))
  (n_ls:nsIn K mainGlobals "Less"=some (some (.ref ls)))
  (n_gr:nsIn K mainGlobals "Greater"=some (some (.ref gr)))
  (n_lr:nsIn K mainGlobals "Lesser"=some (some (.ref lr)))
  (n_ld:nsIn K mainGlobals "Leads"=some (some (.ref ld)))
  (c_ne:L2.Cls K ne)
  (c_al:L2.Cls K al)
  (c_le:L2.Cls K le)
  (c_no:L2.Cls K no)
  (c_mo:L2.Cls K mo)
  (c_ls:L2.Cls K ls)
  (c_gr:L2.Cls K gr)
  (c_lr:L2.Cls K lr)
  (c_ld:L2.Cls K ld)
  (h_ne:findIn K (.ref ne) "__class__"=some (some (.builtin "object.__class__")))
  (h_al:findIn K (.ref al) "__class__"=some (some (.builtin "object.__class__")))
  (h_le:findIn K (.ref le) "__class__"=some (some (.builtin "object.__class__")))
  (h_no:findIn K (.ref no) "__class__"=some (some (.builtin "object.__class__")))
  (h_mo:findIn K (.ref mo) "__class__"=some (some (.builtin "object.__class__")))
  (h_ls:findIn K (.ref ls) "__class__"=some (some (.builtin "object.__class__")))
  (h_gr:findIn K (.ref gr) "__class__"=some (some (.builtin "object.__class__")))
  (h_lr:findIn K (.ref lr) "__class__"=some (some (.builtin "object.__class__")))
  (h_ld:findIn K (.ref ld) "__class__"=some (some (.builtin "object.__class__")))
  (m_ne:mroIn K ne (.type "object")=some true)
  (m_al:mroIn K al (.type "object")=some true)
  (m_le:mroIn K le (.type "object")=some true)
  (m_no:mroIn K no (.type "object")=some true)
  (m_mo:mroIn K mo (.type "object")=some true)
  (m_ls:mroIn K ls (.type "object")=some true)
  (m_gr:mroIn K gr (.type "object")=some true)
  (m_lr:mroIn K lr (.type "object")=some true)
  (m_ld:mroIn K ld (.type "object")=some true)
  (s_ne:kitOne K (.ref ne) (.type "str")=some false)
  (s_al:kitOne K (.ref al) (.type "str")=some false)
  (s_le:kitOne K (.ref le) (.type "str")=some false)
  (s_no:kitOne K (.ref no) (.type "str")=some false)
  (s_mo:kitOne K (.ref mo) (.type "str")=some false)
  (s_ls:kitOne K (.ref ls) (.type "str")=some false)
  (s_gr:kitOne K (.ref gr) (.type "str")=some false)
  (s_lr:kitOne K (.ref lr) (.type "str")=some false)
  (s_ld:kitOne K (.ref ld) (.type "str")=some false)
  (hn:specialIn K (.builtin "object.__class__") "__get__"=some (some (.builtin "getset_descriptor.__get__")))
  (tk:takesIn K (.builtin "object.__class__")=some true)
  (a_name:findIn K (.ref le) "name"=some none)
  (a_part:findIn K (.ref no) "part"=some none)
  (a_one_mo:findIn K (.ref mo) "one"=some none)
  (a_one_ls:findIn K (.ref ls) "one"=some none)
  (a_one_gr:findIn K (.ref gr) "one"=some none)
  (a_one_lr:findIn K (.ref lr) "one"=some none)
  (a_one_ld:findIn K (.ref ld) "one"=some none)
  (a_other_mo:findIn K (.ref mo) "other"=some none)
  (a_other_ls:findIn K (.ref ls) "other"=some none)
  (a_other_gr:findIn K (.ref gr) "other"=some none)
  (a_other_lr:findIn K (.ref lr) "other"=some none)
  (a_other_ld:findIn K (.ref ld) "other"=some none)
  (g_madeS_ne:findIn K (.ref ne) "made_of"=some (some (.ref f_madeS)))
  (g_madeS_al:findIn K (.ref al) "made_of"=some (some (.ref f_madeS)))
  (g_madeS_le:findIn K (.ref le) "made_of"=some (some (.ref f_madeS)))
  (e_madeS:L2.cW K "made_of" "Saying.made_of" Mine.bX f_madeS)
  (g_piecesS_ne:findIn K (.ref ne) "pieces"=some (some (.ref f_piecesS)))
  (g_piecesS_al:findIn K (.ref al) "pieces"=some (some (.ref f_piecesS)))
  (g_piecesS_le:findIn K (.ref le) "pieces"=some (some (.ref f_piecesS)))
  (e_piecesS:L2.cW K "pieces" "Saying.pieces" Mine.cA f_piecesS)
  (g_laid_ne:findIn K (.ref ne) "laid_out"=some (some (.ref f_laid)))
  (g_laid_al:findIn K (.ref al) "laid_out"=some (some (.ref f_laid)))
  (g_laid_le:findIn K (.ref le) "laid_out"=some (some (.ref f_laid)))
  (g_laid_no:findIn K (.ref no) "laid_out"=some (some (.ref f_laid)))
  (g_laid_mo:findIn K (.ref mo) "laid_out"=some (some (.ref f_laid)))
  (g_laid_ls:findIn K (.ref ls) "laid_out"=some (some (.ref f_laid)))
  (g_laid_gr:findIn K (.ref gr) "laid_out"=some (some (.ref f_laid)))
  (g_laid_lr:findIn K (.ref lr) "laid_out"=some (some (.ref f_laid)))
  (g_laid_ld:findIn K (.ref ld) "laid_out"=some (some (.ref f_laid)))
  (e_laid:L2.cW K "laid_out" "Saying.laid_out" Mine.eJ f_laid)
  (g_told_ne:findIn K (.ref ne) "told"=some (some (.ref f_told)))
  (g_told_al:findIn K (.ref al) "told"=some (some (.ref f_told)))
  (g_told_le:findIn K (.ref le) "told"=some (some (.ref f_told)))
  (g_told_no:findIn K (.ref no) "told"=some (some (.ref f_told)))
  (g_told_mo:findIn K (.ref mo) "told"=some (some (.ref f_told)))
  (g_told_ls:findIn K (.ref ls) "told"=some (some (.ref f_told)))
  (g_told_gr:findIn K (.ref gr) "told"=some (some (.ref f_told)))
  (g_told_lr:findIn K (.ref lr) "told"=some (some (.ref f_told)))
  (g_told_ld:findIn K (.ref ld) "told"=some (some (.ref f_told)))
  (e_told:L2.cW K "told" "Saying.told" Mine.kJ f_told)
  (g_out_ne:findIn K (.ref ne) "out_of"=some (some (.ref f_out)))
  (g_out_al:findIn K (.ref al) "out_of"=some (some (.ref f_out)))
  (g_out_le:findIn K (.ref le) "out_of"=some (some (.ref f_out)))
  (g_out_no:findIn K (.ref no) "out_of"=some (some (.ref f_out)))
  (g_out_mo:findIn K (.ref mo) "out_of"=some (some (.ref f_out)))
  (g_out_ls:findIn K (.ref ls) "out_of"=some (some (.ref f_out)))
  (g_out_gr:findIn K (.ref gr) "out_of"=some (some (.ref f_out)))
  (g_out_lr:findIn K (.ref lr) "out_of"=some (some (.ref f_out)))
  (g_out_ld:findIn K (.ref ld) "out_of"=some (some (.ref f_out)))
  (e_out:L2.cW K "out_of" "Saying.out_of" Mine.gj f_out)
  (g_parts_ne:findIn K (.ref ne) "parts"=some (some (.ref f_parts)))
  (g_parts_al:findIn K (.ref al) "parts"=some (some (.ref f_parts)))
  (g_parts_le:findIn K (.ref le) "parts"=some (some (.ref f_parts)))
  (g_parts_no:findIn K (.ref no) "parts"=some (some (.ref f_parts)))
  (g_parts_mo:findIn K (.ref mo) "parts"=some (some (.ref f_parts)))
  (g_parts_ls:findIn K (.ref ls) "parts"=some (some (.ref f_parts)))
  (g_parts_gr:findIn K (.ref gr) "parts"=some (some (.ref f_parts)))
  (g_parts_lr:findIn K (.ref lr) "parts"=some (some (.ref f_parts)))
  (g_parts_ld:findIn K (.ref ld) "parts"=some (some (.ref f_parts)))
  (e_parts:L2.cW K "parts" "Saying.parts" Mine.jD f_parts)
  (g_foldsS_ne:findIn K (.ref ne) "folds"=some (some (.ref f_foldsS)))
  (g_foldsS_al:findIn K (.ref al) "folds"=some (some (.ref f_foldsS)))
  (g_foldsS_le:findIn K (.ref le) "folds"=some (some (.ref f_foldsS)))
  (g_foldsS_no:findIn K (.ref no) "folds"=some (some (.ref f_foldsS)))
  (g_foldsS_mo:findIn K (.ref mo) "folds"=some (some (.ref f_foldsS)))
  (g_foldsS_ls:findIn K (.ref ls) "folds"=some (some (.ref f_foldsS)))
  (g_foldsS_gr:findIn K (.ref gr) "folds"=some (some (.ref f_foldsS)))
  (g_foldsS_lr:findIn K (.ref lr) "folds"=some (some (.ref f_foldsS)))
  (g_foldsS_ld:findIn K (.ref ld) "folds"=some (some (.ref f_foldsS)))
  (e_foldsS:L2.cW K "folds" "Saying.folds" Mine.cO f_foldsS)
  (g_Kne_ne:findIn K (.ref ne) "making_word"=some (some (.ref f_Kne)))
  (e_Kne:L2.cW K "making_word" "Never.making_word" Mine.cJ f_Kne)
  (g_Wne_ne:findIn K (.ref ne) "weigh"=some (some (.ref f_Wne)))
  (e_Wne:L2.cW K "weigh" "Never.weigh" Mine.fN f_Wne)
  (g_Kal_al:findIn K (.ref al) "making_word"=some (some (.ref f_Kal)))
  (e_Kal:L2.cW K "making_word" "Always.making_word" Mine.cE f_Kal)
  (g_Wal_al:findIn K (.ref al) "weigh"=some (some (.ref f_Wal)))
  (e_Wal:L2.cW K "weigh" "Always.weigh" Mine.eP f_Wal)
  (g_Kle_le:findIn K (.ref le) "making_word"=some (some (.ref f_Kle)))
  (e_Kle:L2.cW K "making_word" "Letter.making_word" Mine.bF f_Kle)
  (g_Wle_le:findIn K (.ref le) "weigh"=some (some (.ref f_Wle)))
  (e_Wle:L2.cW K "weigh" "Letter.weigh" Mine.cP f_Wle)
  (g_Kno_no:findIn K (.ref no) "making_word"=some (some (.ref f_Kno)))
  (e_Kno:L2.cW K "making_word" "Not.making_word" Mine.de f_Kno)
  (g_Wno_no:findIn K (.ref no) "weigh"=some (some (.ref f_Wno)))
  (e_Wno:L2.cW K "weigh" "Not.weigh" Mine.hZ f_Wno)
  (g_Mno_no:findIn K (.ref no) "made_of"=some (some (.ref f_Mno)))
  (e_Mno:L2.cW K "made_of" "Not.made_of" Mine.fM f_Mno)
  (g_Pno_no:findIn K (.ref no) "pieces"=some (some (.ref f_Pno)))
  (e_Pno:L2.cW K "pieces" "Not.pieces" Mine.gx f_Pno)
  (g_Mfo_mo:findIn K (.ref mo) "made_of"=some (some (.ref f_Mfo)))
  (g_Mfo_ls:findIn K (.ref ls) "made_of"=some (some (.ref f_Mfo)))
  (g_Mfo_gr:findIn K (.ref gr) "made_of"=some (some (.ref f_Mfo)))
  (g_Mfo_lr:findIn K (.ref lr) "made_of"=some (some (.ref f_Mfo)))
  (g_Mfo_ld:findIn K (.ref ld) "made_of"=some (some (.ref f_Mfo)))
  (e_Mfo:L2.cW K "made_of" "Fold.made_of" Mine.eO f_Mfo)
  (g_Pfo_mo:findIn K (.ref mo) "pieces"=some (some (.ref f_Pfo)))
  (g_Pfo_ls:findIn K (.ref ls) "pieces"=some (some (.ref f_Pfo)))
  (g_Pfo_gr:findIn K (.ref gr) "pieces"=some (some (.ref f_Pfo)))
  (g_Pfo_lr:findIn K (.ref lr) "pieces"=some (some (.ref f_Pfo)))
  (g_Pfo_ld:findIn K (.ref ld) "pieces"=some (some (.ref f_Pfo)))
  (e_Pfo:L2.cW K "pieces" "Fold.pieces" Mine.fR f_Pfo)
  (g_Wfo_mo:findIn K (.ref mo) "weigh"=some (some (.ref f_Wfo)))
  (g_Wfo_ls:findIn K (.ref ls) "weigh"=some (some (.ref f_Wfo)))
  (g_Wfo_gr:findIn K (.ref gr) "weigh"=some (some (.ref f_Wfo)))
  (g_Wfo_lr:findIn K (.ref lr) "weigh"=some (some (.ref f_Wfo)))
  (g_Wfo_ld:findIn K (.ref ld) "weigh"=some (some (.ref f_Wfo)))
  (e_Wfo:L2.cW K "weigh" "Fold.weigh" Mine.gy f_Wfo)
  (g_F0mo_mo:findIn K (.ref mo) "making_word"=some (some (.ref f_F0mo)))
  (e_F0mo:L2.cW K "making_word" "More.making_word" Mine.cU f_F0mo)
  (g_F1mo_mo:findIn K (.ref mo) "folded"=some (some (.ref f_F1mo)))
  (e_F1mo:L2.cW K "folded" "More.folded" Mine.fO f_F1mo)
  (g_F0ls_ls:findIn K (.ref ls) "making_word"=some (some (.ref f_F0ls)))
  (e_F0ls:L2.cW K "making_word" "Less.making_word" Mine.cV f_F0ls)
  (g_F1ls_ls:findIn K (.ref ls) "folded"=some (some (.ref f_F1ls)))
  (e_F1ls:L2.cW K "folded" "Less.folded" Mine.fQ f_F1ls)
  (g_F0gr_gr:findIn K (.ref gr) "making_word"=some (some (.ref f_F0gr)))
  (e_F0gr:L2.cW K "making_word" "Greater.making_word" Mine.bZ f_F0gr)
  (g_F1gr_gr:findIn K (.ref gr) "folded"=some (some (.ref f_F1gr)))
  (e_F1gr:L2.cW K "folded" "Greater.folded" Mine.dF f_F1gr)
  (g_F0lr_lr:findIn K (.ref lr) "making_word"=some (some (.ref f_F0lr)))
  (e_F0lr:L2.cW K "making_word" "Lesser.making_word" Mine.cD f_F0lr)
  (g_F1lr_lr:findIn K (.ref lr) "folded"=some (some (.ref f_F1lr)))
  (e_F1lr:L2.cW K "folded" "Lesser.folded" Mine.dQ f_F1lr)
  (g_F0ld_ld:findIn K (.ref ld) "making_word"=some (some (.ref f_F0ld)))
  (e_F0ld:L2.cW K "making_word" "Leads.making_word" Mine.cK f_F0ld)
  (g_F1ld_ld:findIn K (.ref ld) "folded"=some (some (.ref f_F1ld)))
  (e_F1ld:L2.cW K "folded" "Leads.folded" Mine.eM f_F1ld)
  (g_ile_le:findIn K (.ref le) "__init__"=some (some (.ref f_ile)))
  (e_ile:L2.cW K "__init__" "Letter.__init__" Mine.fP f_ile)
  (g_ino_no:findIn K (.ref no) "__init__"=some (some (.ref f_ino)))
  (e_ino:L2.cW K "__init__" "Not.__init__" Mine.iX f_ino)
  (g_ifo_mo:findIn K (.ref mo) "__init__"=some (some (.ref f_ifo)))
  (g_ifo_ls:findIn K (.ref ls) "__init__"=some (some (.ref f_ifo)))
  (g_ifo_gr:findIn K (.ref gr) "__init__"=some (some (.ref f_ifo)))
  (g_ifo_lr:findIn K (.ref lr) "__init__"=some (some (.ref f_ifo)))
  (g_ifo_ld:findIn K (.ref ld) "__init__"=some (some (.ref f_ifo)))
  (e_ifo:L2.cW K "__init__" "Fold.__init__" Mine.ic f_ifo)
  (i_ne:findIn K (.ref ne) "__init__"=some (some (.builtin "object.__init__")))
  (i_al:findIn K (.ref al) "__init__"=some (some (.builtin "object.__init__")))
  (y_ne:makesIn K ne=true)
  (y_al:makesIn K al=true)
  (y_le:makesIn K le=true)
  (y_no:makesIn K no=true)
  (y_mo:makesIn K mo=true)
  (y_ls:makesIn K ls=true)
  (y_gr:makesIn K gr=true)
  (y_lr:makesIn K lr=true)
  (y_ld:makesIn K ld=true)
  (z_ne:keepIn K (.ref ne)=true)
  (z_al:keepIn K (.ref al)=true)
  (z_le:keepIn K (.ref le)=true)
  (z_no:keepIn K (.ref no)=true)
  (z_mo:keepIn K (.ref mo)=true)
  (z_ls:keepIn K (.ref ls)=true)
  (z_gr:keepIn K (.ref gr)=true)
  (z_lr:keepIn K (.ref lr)=true)
  (z_ld:keepIn K (.ref ld)=true) :
  ∃ c,Mine.AllF K mg c:=by
 refine ⟨⟨ne,al,le,no,mo,ls,gr,lr,ld⟩,?_⟩
 refine ⟨?_,?_,?_,?_,?_,?_,?_,?_,?_,?_,?_,?_,?_,?_,?_,?_,?_,?_,?_,?_,?_,?_,?_,?_,?_,?_,?_,?_,?_,?_,?_,?_,?_,?_,?_,?_,?_,?_,?_,?_,?_,?_⟩
 ·exact ⟨by intro t;cases t <;> first | exact c_ne | exact c_al | exact c_le | exact c_no | (rename_i u _ _;cases u <;> assumption),by intro t;cases t <;> first | exact h_ne | exact h_al | exact h_le | exact h_no | (rename_i u _ _;cases u <;> assumption),by intro t;cases t <;> first | exact m_ne | exact m_al | exact m_le | exact m_no | (rename_i u _ _;cases u <;> assumption),by intro t;cases t <;> first | exact s_ne | exact s_al | exact s_le | exact s_no | (rename_i u _ _;cases u <;> assumption),hn,tk,a_name,a_part,by intro u;cases u <;> assumption,by intro u;cases u <;> assumption⟩
 ·exact e_madeS.meth c_ne g_madeS_ne
 ·exact e_madeS.meth c_al g_madeS_al
 ·exact e_madeS.meth c_le g_madeS_le
 ·exact e_piecesS.meth c_ne g_piecesS_ne
 ·exact e_piecesS.meth c_al g_piecesS_al
 ·exact e_piecesS.meth c_le g_piecesS_le
 ·intro t;cases t <;> first | exact e_laid.meth c_ne g_laid_ne | exact e_laid.meth c_al g_laid_al | exact e_laid.meth c_le g_laid_le | exact e_laid.meth c_no g_laid_no | (rename_i u _ _;cases u <;> first | exact e_laid.meth c_mo g_laid_mo | exact e_laid.meth c_ls g_laid_ls | exact e_laid.meth c_gr g_laid_gr | exact e_laid.meth c_lr g_laid_lr | exact e_laid.meth c_ld g_laid_ld)
 ·intro t;cases t <;> first | exact e_told.meth c_ne g_told_ne | exact e_told.meth c_al g_told_al | exact e_told.meth c_le g_told_le | exact e_told.meth c_no g_told_no | (rename_i u _ _;cases u <;> first | exact e_told.meth c_mo g_told_mo | exact e_told.meth c_ls g_told_ls | exact e_told.meth c_gr g_told_gr | exact e_told.meth c_lr g_told_lr | exact e_told.meth c_ld g_told_ld)
 ·intro t;cases t <;> first | exact e_out.meth c_ne g_out_ne | exact e_out.meth c_al g_out_al | exact e_out.meth c_le g_out_le | exact e_out.meth c_no g_out_no | (rename_i u _ _;cases u <;> first | exact e_out.meth c_mo g_out_mo | exact e_out.meth c_ls g_out_ls | exact e_out.meth c_gr g_out_gr | exact e_out.meth c_lr g_out_lr | exact e_out.meth c_ld g_out_ld)
 ·intro t;cases t <;> first | exact e_parts.meth c_ne g_parts_ne | exact e_parts.meth c_al g_parts_al | exact e_parts.meth c_le g_parts_le | exact e_parts.meth c_no g_parts_no | (rename_i u _ _;cases u <;> first | exact e_parts.meth c_mo g_parts_mo | exact e_parts.meth c_ls g_parts_ls | exact e_parts.meth c_gr g_parts_gr | exact e_parts.meth c_lr g_parts_lr | exact e_parts.meth c_ld g_parts_ld)
 ·intro t;cases t <;> first | exact e_foldsS.meth c_ne g_foldsS_ne | exact e_foldsS.meth c_al g_foldsS_al | exact e_foldsS.meth c_le g_foldsS_le | exact e_foldsS.meth c_no g_foldsS_no | (rename_i u _ _;cases u <;> first | exact e_foldsS.meth c_mo g_foldsS_mo | exact e_foldsS.meth c_ls g_foldsS_ls | exact e_foldsS.meth c_gr g_foldsS_gr | exact e_foldsS.meth c_lr g_foldsS_lr | exact e_foldsS.meth c_ld g_foldsS_ld)
 ·exact e_Kne.meth c_ne g_Kne_ne
 ·exact e_Wne.meth c_ne g_Wne_ne
 ·exact e_Kal.meth c_al g_Kal_al
 ·exact e_Wal.meth c_al g_Wal_al
 ·exact e_Kle.meth c_le g_Kle_le
 ·exact e_Wle.meth c_le g_Wle_le
 ·exact e_Kno.meth c_no g_Kno_no
 ·exact e_Wno.meth c_no g_Wno_no
 ·exact e_Mno.meth c_no g_Mno_no
 ·exact e_Pno.meth c_no g_Pno_no
 ·intro u;cases u <;> first | exact e_Mfo.meth c_mo g_Mfo_mo | exact e_Mfo.meth c_ls g_Mfo_ls | exact e_Mfo.meth c_gr g_Mfo_gr | exact e_Mfo.meth c_lr g_Mfo_lr | exact e_Mfo.meth c_ld g_Mfo_ld
 ·intro u;cases u <;> first | exact e_Pfo.meth c_mo g_Pfo_mo | exact e_Pfo.meth c_ls g_Pfo_ls | exact e_Pfo.meth c_gr g_Pfo_gr | exact e_Pfo.meth c_lr g_Pfo_lr | exact e_Pfo.meth c_ld g_Pfo_ld
 ·intro u;cases u <;> first | exact e_Wfo.meth c_mo g_Wfo_mo | exact e_Wfo.meth c_ls g_Wfo_ls | exact e_Wfo.meth c_gr g_Wfo_gr | exact e_Wfo.meth c_lr g_Wfo_lr | exact e_Wfo.meth c_ld g_Wfo_ld
 ·exact e_F0mo.meth c_mo g_F0mo_mo
 ·exact e_F1mo.meth c_mo g_F1mo_mo
 ·exact e_F0ls.meth c_ls g_F0ls_ls
 ·exact e_F1ls.meth c_ls g_F1ls_ls
 ·exact e_F0gr.meth c_gr g_F0gr_gr
 ·exact e_F1gr.meth c_gr g_F1gr_gr
 ·exact e_F0lr.meth c_lr g_F0lr_lr
 ·exact e_F1lr.meth c_lr g_F1lr_lr
 ·exact e_F0ld.meth c_ld g_F0ld_ld
 ·exact e_F1ld.meth c_ld g_F1ld_ld
 ·exact e_ile.made c_le g_ile_le (mg_of X G n_le) y_le z_le
 ·exact e_ino.made c_no g_ino_no (mg_of X G n_no) y_no z_no
 ·intro u;cases u <;> first | exact e_ifo.made c_mo g_ifo_mo (mg_of X G n_mo) y_mo z_mo | exact e_ifo.made c_ls g_ifo_ls (mg_of X G n_ls) y_ls z_ls | exact e_ifo.made c_gr g_ifo_gr (mg_of X G n_gr) y_gr z_gr | exact e_ifo.made c_lr g_ifo_lr (mg_of X G n_lr) y_lr z_lr | exact e_ifo.made c_ld g_ifo_ld (mg_of X G n_ld) y_ld z_ld
 ·exact ⟨y_ne,i_ne,z_ne⟩
 ·exact mg_of X G n_ne
 ·exact ⟨y_al,i_al,z_al⟩
 ·exact mg_of X G n_al
section
variable {P:Program} {w:World} {K:Frag} {mg:Str->Option Value} {base:Heap} {c:Mine.CCs}
open Mine L2
theorem Mine.mks (A:AllF K mg c):oJ P w K mg base "Letter" c.le 1 ["self","name"] (jX c.le mJ)/\oJ P w K mg base "Not" c.no 1 ["self","part"] (jX c.no qK)/\∀ u:W5,oJ P w K mg base u.cls (c.fold u) 1 ["self","one","other"] (oQ (c.fold u)):=
 ⟨xZ A.ile A.fx.nName,ok_iNot A.ino A.fx.nPart,λu=>DW (A.ifo u) (A.fx.nOne u) (A.fx.nOther u)⟩
theorem Mine.ms (A:AllF K mg c) (bU:mg "min"=none) (ck:mg "max"=none):Ms P w K mg base c:=by
 obtain ⟨kl,kn,kf⟩:=mks (P:=P) (w:=w) (base:=base) A
 have word:∀ t,aT P w K mg base (c.of t) "making_word" 1 ["self"] (eB c t):=by
  intro t;cases t with
  | never=>exact AN A.Kne_ne
  | always=>exact xW A.Kal_al
  | lp=>exact ok_wLp A.Kle_le A.fx
  | lq=>exact ok_wLq A.Kle_le A.fx
  | no t=>exact ok_wNot A.Kno_no
  | fold u a b =>
   cases u
   ·exact DN A.F0mo_mo
   ·exact DO A.F0ls_ls
   ·exact vU A.F0gr_gr
   ·exact xV A.F0lr_lr
   ·exact AO A.F0ld_ld
 have folded:∀ u,aT P w K mg base (c.fold u) "folded" 1 ["self","n","first","second"] (gN u):=by
  intro u;cases u
  ·exact DZ A.F1mo_mo bU
  ·exact Ea A.F1ls_ls ck
  ·exact vX A.F1gr_gr ck
  ·exact ya A.F1lr_lr bU
  ·exact AZ A.F1ld_ld bU
 refine ⟨λt=>?_,λt=>?_,λt=>?_,λt=>?_⟩
 ·cases t with
  | never=>exact zF A.madeS_ne rfl
  | always=>exact zF A.madeS_al rfl
  | lp=>exact zF A.madeS_le rfl
  | lq=>exact zF A.madeS_le rfl
  | no t=>exact ok_mNot A.Mno_no A.fx
  | fold u a b=>exact DU (A.Mfo u) A.fx
 ·exact word t
 ·cases t with
  | never=>exact oY A.piecesS_ne rfl (word .never)
  | always=>exact oY A.piecesS_al rfl (word .always)
  | lp=>exact oY (t:=.lp) A.piecesS_le rfl (word .lp)
  | lq=>exact oY (t:=.lq) A.piecesS_le rfl (word .lq)
  | no t=>exact ok_pNot A.Pno_no A.fx
  | fold u a b=>exact DR (A.Pfo u) A.fx (word (.fold u a b))
 ·cases t with
  | never=>exact xU A.Wne_ne
  | always=>exact vT A.Wal_al
  | lp=>exact ok_wgLp A.Wle_le A.fx
  | lq=>exact ok_wgLq A.Wle_le A.fx
  | no t=>exact DM A.Wno_no
  | fold u a b=>exact AM (A.Wfo u) (folded u)
end
open PySem PySem.W PyProof.Rows
structure Mine.X47 (K:Frag) (mg:Str->Option Value) (CT CN CF:Addr):Prop where
 mT:mg "TooMany"=some (.ref CT)
 mN:mg "NoCut"=some (.ref CN)
 mF:mg "Fold"=some (.ref CF)
 xT:excIn K CT L2.bmV "ValueError.__new__"=true
 xN:excIn K CN L2.bmV "ValueError.__new__"=true
 ct:L2.xo K CT
 cn:L2.xo K CN
 st:mroIn K CT (.ref CT)=some true
 sn:mroIn K CN (.ref CN)=some true
 ne:∃ a,mg "Never"=some (.ref a)/\kitOne K (.ref a) (.ref CF)=some false
 al:∃ a,mg "Always"=some (.ref a)/\kitOne K (.ref a) (.ref CF)=some false
 le:∃ a,mg "Letter"=some (.ref a)/\kitOne K (.ref a) (.ref CF)=some false
 no:∃ a,mg "Not"=some (.ref a)/\kitOne K (.ref a) (.ref CF)=some false
 mo:∃ a,mg "More"=some (.ref a)/\kitOne K (.ref a) (.ref CF)=some true
 ls:∃ a,mg "Less"=some (.ref a)/\kitOne K (.ref a) (.ref CF)=some true
 gr:∃ a,mg "Greater"=some (.ref a)/\kitOne K (.ref a) (.ref CF)=some true
 lr:∃ a,mg "Lesser"=some (.ref a)/\kitOne K (.ref a) (.ref CF)=some true
 ld:∃ a,mg "Leads"=some (.ref a)/\kitOne K (.ref a) (.ref CF)=some true
theorem Mine.X47.kf {K:Frag} {mg:Str->Option Value} {CT CN CF:Addr} {c:Mine.CCs} (X:Mine.X47 K mg CT CN CF) (A:Mine.AllF K mg c):∀ t,kitOne K (.ref (c.of t)) (.ref CF)=some (Mine.isF t):=by
 have g:∀{x:Str} {a:Addr} {b:Bool},mg x=some (.ref a)->(∃ a,mg x=some (.ref a)/\kitOne K (.ref a) (.ref CF)=some b)->kitOne K (.ref a) (.ref CF)=some b:=λe z=>by
  obtain ⟨a',e',k⟩:=z;cases e.symm.trans e'
  exact k
 intro t;cases t with
 | never=>exact g A.r_ne X.ne
 | always=>exact g A.r_al X.al
 | lp=>exact g A.ile.mg_ X.le
 | lq=>exact g A.ile.mg_ X.le
 | no=>exact g A.ino.mg_ X.no
 | fold u=>cases u with
  | more=>exact g (A.ifo .more).mg_ X.mo
  | less=>exact g (A.ifo .less).mg_ X.ls
  | greater=>exact g (A.ifo .greater).mg_ X.gr
  | lesser=>exact g (A.ifo .lesser).mg_ X.lr
  | leads=>exact g (A.ifo .leads).mg_ X.ld
theorem Mine.cls47 {K:Frag} {h:Heap} {mg:Str->Option Value} {CT CN CF ne al le no mo ls gr lr ld:Addr} {c1 c2:ClassData} (X:K.In h) (G:h.Ns mainGlobals mg)
  (mCT:nsIn K mainGlobals "TooMany"=some (some (.ref CT)))
  (mCN:nsIn K mainGlobals "NoCut"=some (some (.ref CN)))
  (mCF:nsIn K mainGlobals "Fold"=some (some (.ref CF)))
  (xt:excIn K CT L2.bmV "ValueError.__new__"=true)
  (xn:excIn K CN L2.bmV "ValueError.__new__"=true)
  (t6:clsIn K CT=some c1)
  (t7:typeIn K (.ref CT)=some (.type "type"))
  (t8:mroIn K CT (.type "BaseException")=some true)
  (st:mroIn K CT (.ref CT)=some true)
  (n6:clsIn K CN=some c2)
  (n7:typeIn K (.ref CN)=some (.type "type"))
  (n8:mroIn K CN (.type "BaseException")=some true)
  (sn:mroIn K CN (.ref CN)=some true)
  (mne:nsIn K mainGlobals "Never"=some (some (.ref ne)))
  (kne:kitOne K (.ref ne) (.ref CF)=some false)
  (mal:nsIn K mainGlobals "Always"=some (some (.ref al)))
  (kal:kitOne K (.ref al) (.ref CF)=some false)
  (mle:nsIn K mainGlobals "Letter"=some (some (.ref le)))
  (kle:kitOne K (.ref le) (.ref CF)=some false)
  (mno:nsIn K mainGlobals "Not"=some (some (.ref no)))
  (kno:kitOne K (.ref no) (.ref CF)=some false)
  (mmo:nsIn K mainGlobals "More"=some (some (.ref mo)))
  (kmo:kitOne K (.ref mo) (.ref CF)=some true)
  (mls:nsIn K mainGlobals "Less"=some (some (.ref ls)))
  (kls:kitOne K (.ref ls) (.ref CF)=some true)
  (mgr:nsIn K mainGlobals "Greater"=some (some (.ref gr)))
  (kgr:kitOne K (.ref gr) (.ref CF)=some true)
  (mlr:nsIn K mainGlobals "Lesser"=some (some (.ref lr)))
  (klr:kitOne K (.ref lr) (.ref CF)=some true)
  (mld:nsIn K mainGlobals "Leads"=some (some (.ref ld)))
  (kld:kitOne K (.ref ld) (.ref CF)=some true) :
  ∃ CT CN CF,Mine.X47 K mg CT CN CF:=
 ⟨CT,CN,CF,mg_of X G mCT,mg_of X G mCN,mg_of X G mCF,xt,xn,⟨⟨_,t6⟩,t7,t8⟩,⟨⟨_,n6⟩,n7,n8⟩,st,sn,⟨_,mg_of X G mne,kne⟩,⟨_,mg_of X G mal,kal⟩,⟨_,mg_of X G mle,kle⟩,⟨_,mg_of X G mno,kno⟩,⟨_,mg_of X G mmo,kmo⟩,⟨_,mg_of X G mls,kls⟩,⟨_,mg_of X G mgr,kgr⟩,⟨_,mg_of X G mlr,klr⟩,⟨_,mg_of X G mld,kld⟩⟩
abbrev Mine.Pg:=PySem.Challenge.rw_leansay_k55_whole_alike_by_laws.prog
namespace PySem.W.Fast
def tw10006670767847684058:=0
def tw10046663340524190858:=0
def tw10068368516771813996:=0
def tw10125555674014795201:=0
def tw10206487863008040781:=0
def tw10221581193683638601:=0
def tw10233452643577252941:=0
def tw10273570667209527667:=0
def tw10280724205831891124:=0
def tw10281035657189118430:=0
def tw10348894512084301902:=0
def tw1035143866185967783:=0
def tw10367847875463406718:=0
def tw10382212897436334691:=0
def tw10416256221627788761:=0
def tw10421231702878638584:=0
def tw10464574741267243215:=0
def tw1047453589583306701:=0
def tw10514623700466401286:=0
def tw10535913200785741736:=0
def tw10546285329829901433:=0
def tw10551638488704412361:=0
def tw10603223166082150810:=0
def tw10611390796617088124:=0
def tw10621550789521100434:=0
def tw1064532914882091595:=0
def tw106848411365578878:=0
def tw1068637874636929289:=0
def tw10709542423267774545:=0
def tw10724260163878764805:=0
def tw10730245106944383986:=0
def tw10740491122436147648:=0
def tw1074354097517894677:=0
def tw10744087112875790705:=0
def tw10746384205490454108:=0
def tw10751529627761567550:=0
def tw1077455126172627245:=0
def tw10779144051097614518:=0
def tw10800388522544130482:=0
def tw10804363510758183631:=0
def tw10804958475446012389:=0
def tw10815299651704796739:=0
def tw10828770003272528996:=0
def tw10871766835609619423:=0
def tw10931424458745304953:=0
def tw10948156646026901689:=0
def tw11002450935037621605:=0
def tw11009329081223980102:=0
def tw11010300949355052517:=0
def tw11046230884858958600:=0
def tw11064580778706465996:=0
def tw11067369670422353102:=0
def tw11068161324378003299:=0
def tw1112511884766730067:=0
def tw11141129266912160063:=0
def tw11141990177307931486:=0
def tw11161508937337014066:=0
def tw11192848202389865983:=0
def tw1121419503964493095:=0
def tw11222523690284577891:=0
def tw112644605908161720:=0
def tw11316155054435115897:=0
def tw1137606868919992793:=0
def tw11398677038836692441:=0
def tw11398908957582275327:=0
def tw11430107002382292477:=0
def tw11458134927704215855:=0
def tw11494233415837110449:=0
def tw11516036165653608570:=0
def tw1160770648968053195:=0
def tw11617715433000363528:=0
def tw11681429923363543792:=0
def tw1171690301759728427:=0
def tw11741682650623642174:=0
def tw11742057548346111292:=0
def tw1178967488715100278:=0
def tw11819792849826385081:=0
def tw11861581460119006366:=0
def tw11875269617783680516:=0
def tw11885028523596467625:=0
def tw11897674717640666870:=0
def tw11975517535792580967:=0
def tw11979920472433331019:=0
def tw12009915594607729310:=0
def tw12032157904013047816:=0
def tw1206662594390597725:=0
def tw12104641557062755534:=0
def tw12105731042765749778:=0
def tw12147755125489945293:=0
def tw12165271067179023711:=0
def tw12204061015293427256:=0
def tw12205000650617555661:=0
def tw12246987367449553198:=0
def tw12295530280954481081:=0
def tw12297521712142531722:=0
def tw12297851153951608283:=0
def tw12302466253302502639:=0
def tw12302656362415643875:=0
def tw12323125171007129265:=0
def tw12332333540789712059:=0
def tw12359483763585802687:=0
def tw12378109724475840809:=0
def tw124111067875931579:=0
def tw12438616556326708848:=0
def tw12447069932232080375:=0
def tw1245325178281214098:=0
def tw12463805129802349220:=0
def tw12483111549620569933:=0
def tw12530962307562709936:=0
def tw12674701614374197332:=0
def tw12740350063503760594:=0
def tw12751981690594607964:=0
def tw12755023121833023959:=0
def tw12777460544281076620:=0
def tw12790755815804963288:=0
def tw12797483372857563101:=0
def tw12823473579786648456:=0
def tw12838764056275734970:=0
def tw12859228709821303616:=0
def tw12982441983192888128:=0
def tw13010317982762531682:=0
def tw13030436319545889221:=0
def tw13045423813366921751:=0
def tw13068475242248592650:=0
def tw13086614532058673604:=0
def tw13086935184897952061:=0
def tw1312309756941838143:=0
def tw13205342520315664180:=0
def tw13214175432016258985:=0
def tw13264043095278798614:=0
def tw13323618177169483160:=0
def tw13328808852380117018:=0
def tw13390941247171718763:=0
def tw13399337055235008928:=0
def tw13402406266677944894:=0
def tw13406254048030776033:=0
def tw13444412132547240392:=0
def tw13451095258044158763:=0
def tw13505914387280145871:=0
def tw13507097275367793374:=0
def tw13512708494413275789:=0
def tw13524745265579103861:=0
def tw13606924718253992198:=0
def tw13607052411929754936:=0
def tw13607827249704743724:=0
def tw13622139208553080863:=0
def tw13651407798764141480:=0
def tw13665238616581199449:=0
def tw13676238564074958869:=0
def tw1370690298753834876:=0
def tw1371771672312163291:=0
def tw13782241866749743923:=0
def tw13796727538753195837:=0
def tw13797880595779164582:=0
def tw138197853295721920:=0
def tw13839296679338505950:=0
def tw13854181005769844441:=0
def tw13911899363555696202:=0
def tw13917705369413238105:=0
def tw13918874564463218484:=0
def tw13963482305072876921:=0
def tw13964049952002694418:=0
def tw13976310188195731733:=0
def tw139864732335852950:=0
def tw14034907398525659841:=0
def tw14043113257870954245:=0
def tw14069767732642635268:=0
def tw14075929387229686967:=0
def tw14120014513029014858:=0
def tw14138183273815100925:=0
def tw14153836375006492636:=0
def tw14160360448059710228:=0
def tw14180520565864921537:=0
def tw14195644298395750907:=0
def tw14206585715822282423:=0
def tw14215452072703375840:=0
def tw14227471175073450608:=0
def tw14244295133424169831:=0
def tw14248639813750085287:=0
def tw14286340014396496964:=0
def tw14354504348830631686:=0
def tw14377481059507733260:=0
def tw14396409034274254042:=0
def tw14402189420091905247:=0
def tw144094868838827645:=0
def tw14416397498657534008:=0
def tw14419517901807803706:=0
def tw14422940842200037194:=0
def tw14440789428719098544:=0
def tw14444341330137341381:=0
def tw14448332503103047735:=0
def tw14463595131164421745:=0
def tw14475968998877822767:=0
def tw14489306484103772340:=0
def tw14491700678917936108:=0
def tw14531174865361016298:=0
def tw14544729819132441301:=0
def tw14548113010212709497:=0
def tw14586447209661249657:=0
def tw14621549424284267737:=0
def tw14621981314572451722:=0
def tw14628863877985924059:=0
def tw14634196875384325685:=0
def tw14642497237020614953:=0
def tw14662646375781673608:=0
def tw14686189210573561644:=0
def tw14740026196226255440:=0
def tw14751962687081947041:=0
def tw14759618187406729953:=0
def tw14765758468777249094:=0
def tw14771852050711472963:=0
def tw14783998674716163717:=0
def tw14801831793455296180:=0
def tw14834731210940663105:=0
def tw14847910304469244502:=0
def tw14851092552192538139:=0
def tw14858892753545771988:=0
def tw1486937707707376739:=0
def tw14934497416922914917:=0
def tw1493946742963342755:=0
def tw14944607510830711197:=0
def tw14969387865757600847:=0
def tw14971779470439320052:=0
def tw1499448456919365292:=0
def tw15005385887972642264:=0
def tw15049508532608084935:=0
def tw15084795056523852730:=0
def tw15095802010680378617:=0
def tw15118876652877588985:=0
def tw1516192921737211228:=0
def tw1516272365051414898:=0
def tw15179535184041598678:=0
def tw15204107319425370683:=0
def tw15208296139446110791:=0
def tw15216272510639119514:=0
def tw15224336275678254605:=0
def tw15234847957152525913:=0
def tw15253428714804546996:=0
def tw15301180312229713008:=0
def tw15317900695248205141:=0
def tw15323064289864285747:=0
def tw15358390552913361546:=0
def tw15382051266078749859:=0
def tw15387696948005016975:=0
def tw15402242536786312596:=0
def tw15437438888817660061:=0
def tw15473134103949739049:=0
def tw15486334684438595586:=0
def tw15503279592004307472:=0
def tw15535732075125695438:=0
def tw15536751052946605057:=0
def tw15582722233325293082:=0
def tw15589450408024973538:=0
def tw15599416050642724816:=0
def tw15615493972862301771:=0
def tw1567016153024367673:=0
def tw15716607937257656988:=0
def tw15724360702819258154:=0
def tw15724917807177328618:=0
def tw15731689732754348163:=0
def tw15743067186899191924:=0
def tw15789768878115172964:=0
def tw15801907286841185016:=0
def tw15806004609500526246:=0
def tw15828052605554427229:=0
def tw15833091979658435542:=0
def tw15836125735771675691:=0
def tw1584855042244558776:=0
def tw15859774150080765433:=0
def tw15867016003169079940:=0
def tw15867420028310465933:=0
def tw15875586454047276904:=0
def tw1588538918733910129:=0
def tw1592144741099473442:=0
def tw15928072414340716013:=0
def tw15952554740822991219:=0
def tw15982786107020996303:=0
def tw16022076722693180727:=0
def tw16076663410148987338:=0
def tw16098564919129956190:=0
def tw16105165186753704967:=0
def tw1610673486586254608:=0
def tw16109078984014863146:=0
def tw16109625714367238315:=0
def tw16124271422043078006:=0
def tw16145745759728423030:=0
def tw16182957532885732254:=0
def tw16188189514903250696:=0
def tw16211024309125110291:=0
def tw16240557676070787806:=0
def tw16247594973699503740:=0
def tw16248661913659540418:=0
def tw16266630639624089444:=0
def tw16291768740536802986:=0
def tw16318118310302826963:=0
def tw16322621734253433021:=0
def tw16333906611990118404:=0
def tw16337868150138479871:=0
def tw16351359396758517277:=0
def tw16356870391602676858:=0
def tw16380499796524610704:=0
def tw16381660306837266326:=0
def tw16410165874371095611:=0
def tw16414853844999753124:=0
def tw16458518287801365547:=0
def tw16485290414295509616:=0
def tw1649922237373437872:=0
def tw16512687857580998705:=0
def tw16539754536125231233:=0
def tw16572724526064677073:=0
def tw16579820732466794502:=0
def tw16583119833831087683:=0
def tw16634062308831499023:=0
def tw16652294615269622648:=0
def tw16660432041350318021:=0
def tw16698249939587618641:=0
def tw16724720745108518678:=0
def tw16746993324788741323:=0
def tw16748761971771533326:=0
def tw1675763770967434930:=0
def tw16763892753582342724:=0
def tw16773780619577463424:=0
def tw16787358111062151149:=0
def tw16801382419509659745:=0
def tw16811992444636338992:=0
def tw16820261738575059461:=0
def tw16835690616359890602:=0
def tw16843975640999234755:=0
def tw16847929755245025371:=0
def tw16883011119857065725:=0
def tw16898447737553256322:=0
def tw16929424268789367359:=0
def tw16931617310164559419:=0
def tw16933593279982848077:=0
def tw16953536314350528163:=0
def tw16981578597554145232:=0
def tw16985736253816740825:=0
def tw1698740615346449253:=0
def tw17020547502662612328:=0
def tw17026574813966007196:=0
def tw17028107047988390601:=0
def tw17042495963960227348:=0
def tw17092787705018589701:=0
def tw17105990546614361636:=0
def tw17113639003093890228:=0
def tw1712281728096323073:=0
def tw17138256324104398042:=0
def tw17141906560096681803:=0
def tw17149408569624858991:=0
def tw17171535753635313853:=0
def tw17195268007000100684:=0
def tw17226169291236499105:=0
def tw17244703354148069041:=0
def tw17263515848989125700:=0
def tw17272930072756467743:=0
def tw17282988308159142023:=0
def tw17298324383738605798:=0
def tw17325437179434304182:=0
def tw17333397707037862692:=0
def tw17336200307198462134:=0
def tw17367610333900856755:=0
def tw17370909323413374299:=0
def tw17427859756945030784:=0
def tw17428198024613975143:=0
def tw17439292719846880091:=0
def tw17447436184402849063:=0
def tw17449711717022013679:=0
def tw17459096466367079157:=0
def tw17477113516054795474:=0
def tw17490683082759160485:=0
def tw17530593412659999505:=0
def tw17554922776627861272:=0
def tw17556280435114438436:=0
def tw17572831710808161447:=0
def tw17588346151112030609:=0
def tw17640712842549301368:=0
def tw17677675844948397559:=0
def tw1770855587309859372:=0
def tw17712595679520378449:=0
def tw1774240640881665614:=0
def tw17800363545053084187:=0
def tw17840724208166845735:=0
def tw17846651128279479989:=0
def tw17847920336944282058:=0
def tw17849080792858537305:=0
def tw17894221806772494352:=0
def tw17972975992052098433:=0
def tw17985436420109720938:=0
def tw18004132946519996873:=0
def tw18032876485396783997:=0
def tw18053740953625401673:=0
def tw18081481702442399995:=0
def tw18118227581673091914:=0
def tw18258627664696148091:=0
def tw18262079834919765794:=0
def tw18306997025566740262:=0
def tw18307997257946607360:=0
def tw18360177058769355980:=0
def tw18373158541262460536:=0
def tw18401637510427974266:=0
def tw18417927585877927528:=0
def tw1870970691796639827:=0
def tw1873263301616819407:=0
def tw1988460004942700003:=0
def tw2023101862733718400:=0
def tw2048748305359537022:=0
def tw2057585159666677200:=0
def tw2074708879732867862:=0
def tw2089058401946028879:=0
def tw2117695137342414126:=0
def tw2122830099442564990:=0
def tw2131212677385122184:=0
def tw2134793792793251398:=0
def tw2147830542405133186:=0
def tw216106126241900642:=0
def tw2183202144260787159:=0
def tw2232628594103010444:=0
def tw2251964298892255953:=0
def tw2269164666138017237:=0
def tw2274688566708690100:=0
def tw2287370761810339903:=0
def tw2290275005553021110:=0
def tw2321422002521116891:=0
def tw2325335370798953467:=0
def tw2359119469385212117:=0
def tw2369993387520534741:=0
def tw2376777373633040358:=0
def tw2378890313817130849:=0
def tw2453886658164840027:=0
def tw2466572936409957787:=0
def tw2640695936951372480:=0
def tw2691192337882428285:=0
def tw2696781315845537535:=0
def tw2711305568589334422:=0
def tw2712555687534657832:=0
def tw2743531105395981822:=0
def tw2780720252517557856:=0
def tw2783981657279033382:=0
def tw2827599354743952713:=0
def tw2865966864774032666:=0
def tw2866480476994886432:=0
def tw2930886722819489112:=0
def tw2951492962599100448:=0
def tw2952360615439046038:=0
def tw2968414826320355006:=0
def tw2990595606718599608:=0
def tw3001499830985124250:=0
def tw304152394424307476:=0
def tw3105583946130361720:=0
def tw3149629220133239935:=0
def tw3155429278551571140:=0
def tw319522406825348875:=0
def tw3225363272902168657:=0
def tw3255277095315475071:=0
def tw3265821051614995597:=0
def tw3292001829611158460:=0
def tw3310470614533812046:=0
def tw3320168392267965354:=0
def tw3336939158839431585:=0
def tw3383078226941986733:=0
def tw3392314175018789604:=0
def tw3420622200702516304:=0
def tw3443306193624876150:=0
def tw3446837638070374467:=0
def tw3461505407954533510:=0
def tw3473557328372520290:=0
def tw3479286119727584487:=0
def tw3494220754761819333:=0
def tw3494424275534410486:=0
def tw3562090247934784097:=0
def tw3570442652245523788:=0
def tw3574476231250095148:=0
def tw3680464325322752775:=0
def tw370691698156128090:=0
def tw3791462256467586511:=0
def tw3797497917966797588:=0
def tw384195931468905475:=0
def tw394601973027918073:=0
def tw3957889753851385115:=0
def tw4008981695552703846:=0
def tw4016894911713340398:=0
def tw4032573096899185992:=0
def tw4042511607858458809:=0
def tw405288974689814311:=0
def tw4057048149834270909:=0
def tw4081311630557116190:=0
def tw4093678192702941958:=0
def tw4097633148780877519:=0
def tw4099104278201214852:=0
def tw4109478022898740633:=0
def tw4112714958980555647:=0
def tw414569021496139313:=0
def tw4156409893635648278:=0
def tw420521941917623926:=0
def tw4221436361920001215:=0
def tw4222421720887196084:=0
def tw4235898756392876346:=0
def tw4250376516972514525:=0
def tw4284049620481613838:=0
def tw4294043559292529383:=0
def tw4312868782145118881:=0
def tw4326426205565025692:=0
def tw4334776403733498701:=0
def tw4355287733412275288:=0
def tw4368320999882651651:=0
def tw4374002956841735742:=0
def tw4376779943843387938:=0
def tw4386721076616738991:=0
def tw443798293326853472:=0
def tw4450467717705445717:=0
def tw4454434047451569680:=0
def tw4468331116570001419:=0
def tw4480077355899321183:=0
def tw4486412578414115188:=0
def tw44882282806021881:=0
def tw4498461960369022010:=0
def tw4503280558275379810:=0
def tw4536927976468553656:=0
def tw4551934452794852090:=0
def tw4593808873858301192:=0
def tw461149090552338819:=0
def tw4634564796147066182:=0
def tw4635441012451888966:=0
def tw4674687772580879653:=0
def tw4741907293337729901:=0
def tw4754602359940243747:=0
def tw477022862344142888:=0
def tw4789530653944049520:=0
def tw4790703790643198180:=0
def tw4807010652113052092:=0
def tw4812793084353818089:=0
def tw4854782746497762557:=0
def tw4860029938777990524:=0
def tw4864351285412673503:=0
def tw4893696068156147735:=0
def tw4909798550162712219:=0
def tw4918156008205307241:=0
def tw5004647859269393685:=0
def tw5025185908268679024:=0
def tw5032049840167706272:=0
def tw5073913613591431702:=0
def tw5131013547306543910:=0
def tw5143053738170586480:=0
def tw5175054008511404410:=0
def tw519495637028241327:=0
def tw5207823296383073253:=0
def tw5220260240166153406:=0
def tw5228610611280613932:=0
def tw5243571038094729309:=0
def tw5245683011761426425:=0
def tw5248013098901359383:=0
def tw5293577848447863920:=0
def tw5305701056544130727:=0
def tw5307424504879809752:=0
def tw5310710585171920669:=0
def tw5318915929287761091:=0
def tw5328289265525522217:=0
def tw5340101164666197845:=0
def tw537686895714318713:=0
def tw5400124143788337330:=0
def tw5408520334410577324:=0
def tw5442627551183609094:=0
def tw5445435475259385808:=0
def tw5464113510696352759:=0
def tw547557268691704295:=0
def tw5475666305593464951:=0
def tw552775280720074980:=0
def tw553487567410873593:=0
def tw5541999348271330743:=0
def tw5549889648198933959:=0
def tw5579085791421264686:=0
def tw5611052834821747813:=0
def tw5616399652148891188:=0
def tw562108256481851109:=0
def tw563364906778140897:=0
def tw5655483745428793039:=0
def tw5667725415858935738:=0
def tw5758609692432956147:=0
def tw5783879254039011047:=0
def tw5789601162797719451:=0
def tw580142670361574035:=0
def tw5870203622774071899:=0
def tw5871703111614863876:=0
def tw587216484350375872:=0
def tw5894205506398262879:=0
def tw5894742994726994103:=0
def tw5934640097695691409:=0
def tw5946860609941024751:=0
def tw5974749472588303046:=0
def tw5989458051864342356:=0
def tw6004627273637291547:=0
def tw6011988948682442700:=0
def tw6027684427989252964:=0
def tw6030451078910816188:=0
def tw6079502271031446280:=0
def tw6090651711308921721:=0
def tw6105737900900769660:=0
def tw6139944667693332881:=0
def tw6173604451852341349:=0
def tw6177321348218580058:=0
def tw6183432084165251183:=0
def tw6189342790897494884:=0
def tw6193057488339564083:=0
def tw6308830634292105531:=0
def tw6336105657636075581:=0
def tw6359464271672619032:=0
def tw6364880655818631065:=0
def tw6389637902055597844:=0
def tw6479141457759289729:=0
def tw652213446289254273:=0
def tw6555222641144595816:=0
def tw6562166209210287434:=0
def tw6601495530396311203:=0
def tw6618143112940168818:=0
def tw6644374403899970227:=0
def tw6676279158061431749:=0
def tw6680525951304584746:=0
def tw6714367448753776805:=0
def tw6721980956383557441:=0
def tw6735707106164628980:=0
def tw6772320169824126527:=0
def tw6786268920417088576:=0
def tw6851415578392463860:=0
def tw6860944652144318634:=0
def tw6879243947687250977:=0
def tw6912900494489407119:=0
def tw6923367383251450377:=0
def tw6960082862344603090:=0
def tw7013762904664829935:=0
def tw7024849970898285922:=0
def tw7032410001545637217:=0
def tw7033906692450507009:=0
def tw7055587160125051410:=0
def tw7060473960859893097:=0
def tw7069983303736201713:=0
def tw7077172555893668331:=0
def tw7082354514374288015:=0
def tw7084164592333504281:=0
def tw7103126334498029484:=0
def tw710773857987255197:=0
def tw7158698470755963024:=0
def tw7173339302898360882:=0
def tw7175265481936797188:=0
def tw7183925105802206052:=0
def tw7230247404603492041:=0
def tw7250461072801233361:=0
def tw7256397169081873608:=0
def tw7282574070148973214:=0
def tw7289961727785802671:=0
def tw7309933826734457197:=0
def tw7337006582691073280:=0
def tw7357568226673439435:=0
def tw7392428690649990725:=0
def tw7437237799574032433:=0
def tw7443935512408368008:=0
def tw7448754061906511136:=0
def tw7453395620004119215:=0
def tw7462400000591704313:=0
def tw746878588997658963:=0
def tw7525989055790732559:=0
def tw7531108144664570028:=0
def tw7621106586543960338:=0
def tw766179537259702931:=0
def tw7667399922695062258:=0
def tw768386299386176579:=0
def tw7711677220156593812:=0
def tw7733823993026797047:=0
def tw7735359194344853924:=0
def tw774568654580434609:=0
def tw7750529356886951936:=0
def tw7782561007216036457:=0
def tw7782833281190119826:=0
def tw7794651141820454590:=0
def tw7822964446533835543:=0
def tw7837118332601159312:=0
def tw7886130904279016127:=0
def tw7917611511559129294:=0
def tw7918174954073256953:=0
def tw7990602209363748011:=0
def tw7998245887506914171:=0
def tw8026386785658929673:=0
def tw8049679222475065297:=0
def tw8064830695911497223:=0
def tw8069257841750832571:=0
def tw8076400235761239021:=0
def tw8120453173693059836:=0
def tw8148660029658137864:=0
def tw8154788493082626436:=0
def tw8183192798557498877:=0
def tw8196265747501837497:=0
def tw8208217565953803134:=0
def tw8208576670810925680:=0
def tw8213677954941481205:=0
def tw8294594850640131124:=0
def tw83353114812896996:=0
def tw8368109751274187101:=0
def tw8374519589454938895:=0
def tw8399863388931333913:=0
def tw840413354733701777:=0
def tw8462137419069458964:=0
def tw8483188996127576307:=0
def tw8483223759352902359:=0
def tw8513819525685029737:=0
def tw8521115791910770883:=0
def tw8536035743521984831:=0
def tw8560342912870127463:=0
def tw8568256166097165478:=0
def tw8576525872423333158:=0
def tw8577717285940451877:=0
def tw8605156072636954040:=0
def tw8647010527421789228:=0
def tw867867797675152466:=0
def tw8794267314821436248:=0
def tw8814163156869038228:=0
def tw8900130088310126002:=0
def tw8912988852807501442:=0
def tw8916617383541154684:=0
def tw8968489461815684676:=0
def tw8979659537935926322:=0
def tw899513833292409054:=0
def tw9049280782401530194:=0
def tw9049516660930581183:=0
def tw908175264108020434:=0
def tw9131779304246516555:=0
def tw9133378956574814807:=0
def tw9144254171502405737:=0
def tw9161172238129251325:=0
def tw9168352840009364778:=0
def tw9169174807156222398:=0
def tw9176007575626780278:=0
def tw9184494140276808518:=0
def tw9203496888819120318:=0
def tw9263441062471378454:=0
def tw9276632845010696033:=0
def tw9291420006028195015:=0
def tw9337155492951659678:=0
def tw9365106308006612595:=0
def tw9411022054691356793:=0
def tw9449129886944269057:=0
def tw9476124518200589039:=0
def tw9500762442052848273:=0
def tw9515300234354895481:=0
def tw95202558106587623:=0
def tw9540235988351542482:=0
def tw9631210078416007356:=0
def tw9635011702422721486:=0
def tw9674769603615710287:=0
def tw968046751073760003:=0
def tw971106245421421572:=0
def tw9711301210800747879:=0
def tw9728051951552980578:=0
def tw9729579183756461660:=0
def tw9830947676199916736:=0
def tw9885618939843246754:=0
def tw9898126196515408844:=0
def tw9904276297980776430:=0
def tw9906926811059568240:=0
def tw9912057058968698044:=0
def tw9920680609061994246:=0
end PySem.W.Fast
open PySem PySem.W PyProof.Rows
set_option hygiene false
local macro_rules | `(tactic| walk_at "td") => `(tactic| (dsimp only [L2.KOf];refine' L2.aU KX G ?a ?l ?c ?k;(case a=>k_is);(case l=>k_is);(case c=>k_is);(case k=>k_is)))
local macro_rules | `(tactic| walk_at "fe") => `(tactic| (refine' L2.bc ?l ?c ?k ?fn;(case l=>k_is);(case c=>k_is);(case k=>k_is);(case fn=>k_is)))
set_option hygiene true
set_option maxRecDepth 100000 in
set_option maxHeartbeats 0 in
theorem PySem.Challenge.cw_leansay_k55_whole_alike_by_laws_holds : PySem.Challenge.rw_leansay_k55_whole_alike_by_laws.Holds := by
 w_on;o_law;k_head;(case hw=>w_witness2)
 k_fill
 refine L2.Ak (l:=PySem.Challenge.rw_leansay_k55_whole_alike_by_laws) (n:=63) (k:=80) (x:="_law_script") (CX:=L2.CX0) (sp:=Mine.spLaw) rfl (by decide) rfl ⟨rfl,by decide,by decide⟩ (λw h Y=>PySem.W.kIn_of Y) ?F ?S ?C
 case F =>
  intro w mg fa h KX G hmg
  have oI:L2.aD (L2.KOf KX) mg "common_factor" Mine.gi:=by walk_at "td"
  have wW:L2.aD (L2.KOf KX) mg "square" Mine.lW:=by walk_at "td"
  have BL:L2.aD (L2.KOf KX) mg "told_by" Mine.nh:=by walk_at "td"
  have mO:L2.aD (L2.KOf KX) mg "told_in_corners" Mine.cC:=by walk_at "td"
  have nQ:L2.aD (L2.KOf KX) mg "corner_between" Mine.bP:=by walk_at "td"
  have T_cut:L2.aD (L2.KOf KX) mg "cut" Mine.jA:=by walk_at "td"
  have yC:L2.aD (L2.KOf KX) mg "is_whole" Mine.kS:=by walk_at "td"
  have yD:L2.aD (L2.KOf KX) mg "is_point" Mine.dS:=by walk_at "td"
  have oH:L2.aD (L2.KOf KX) mg "must_be_point" Mine.gh:=by walk_at "td"
  have T_worth:L2.aD (L2.KOf KX) mg "worth" Mine.tH:=by walk_at "td"
  have BM:L2.aD (L2.KOf KX) mg "rows_of" Mine.fA:=by walk_at "td"
  have T_both:L2.aD (L2.KOf KX) mg "both" Mine.qh:=by walk_at "td"
  have BJ:L2.aD (L2.KOf KX) mg "without" Mine.iJ:=by walk_at "td"
  have wX:L2.aD (L2.KOf KX) mg "leaf_rule" Mine.jz:=by walk_at "td"
  have rn:L2.aD (L2.KOf KX) mg "fold_choice" Mine.ix:=by walk_at "td"
  have xa:L2.aD (L2.KOf KX) mg "choice_of" Mine.jC:=by walk_at "td"
  have wZ:L2.aD (L2.KOf KX) mg "chosen_on" Mine.jB:=by walk_at "td"
  have oG:L2.aD (L2.KOf KX) mg "rules_of_rows" Mine.gf:=by walk_at "td"
  have yE:L2.aD (L2.KOf KX) mg "hulls_of" Mine.kT:=by walk_at "td"
  have rm:L2.aD (L2.KOf KX) mg "must_be_few" Mine.iw:=by walk_at "td"
  have BK:L2.aD (L2.KOf KX) mg "tree_on" Mine.ng:=by walk_at "td"
  have qV:L2.aD (L2.KOf KX) mg "rows_of_both" Mine.gQ:=by walk_at "td"
  have lE:L2.aD (L2.KOf KX) mg "cutting_for_both" Mine.dU:=by walk_at "td"
  have T_alike:L2.aD (L2.KOf KX) mg "alike" Mine.tK:=by walk_at "td"
  have BS:L2.aD (L2.KOf KX) mg "_law_mixed" Mine.AD:=by walk_at "td"
  have Fh:L2.aD (L2.KOf KX) mg "_law_next" Mine.CS:=by walk_at "td"
  have yz:L2.aD (L2.KOf KX) mg "_law_saying" Mine.xJ:=by walk_at "td"
  have yA:L2.aD (L2.KOf KX) mg "_law_object" Mine.xK:=by walk_at "td"
  have BV:L2.aD (L2.KOf KX) mg "_law_folds" Mine.iL:=by walk_at "td"
  have Fi:L2.aD (L2.KOf KX) mg "_law_fold" Mine.CU:=by walk_at "td"
  have BN:L2.aD (L2.KOf KX) mg "_law_worth" Mine.AB:=by walk_at "td"
  have BO:L2.aD (L2.KOf KX) mg "_law_whole" Mine.nj:=by walk_at "td"
  have wY:L2.aD (L2.KOf KX) mg "_law_rows_to" Mine.fU:=by walk_at "td"
  have BQ:L2.aD (L2.KOf KX) mg "_law_tells" Mine.nq:=by walk_at "td"
  have yB:L2.aD (L2.KOf KX) mg "_law_lowest" Mine.gS:=by walk_at "td"
  have T_l_cut:L2.aD (L2.KOf KX) mg "_law_cut" Mine.cT:=by walk_at "td"
  have T_l_sum:L2.aD (L2.KOf KX) mg "_law_sum" Mine.lY:=by walk_at "td"
  have Fg:L2.aD (L2.KOf KX) mg "_law_rule" Mine.gR:=by walk_at "td"
  have BR:L2.aD (L2.KOf KX) mg "_law_rules" Mine.nr:=by walk_at "td"
  have BU:L2.aD (L2.KOf KX) mg "_law_hulls" Mine.iK:=by walk_at "td"
  have uK:L2.aD (L2.KOf KX) mg "_law_is_point" Mine.eI:=by walk_at "td"
  have T_l_few:L2.aD (L2.KOf KX) mg "_law_few" Mine.tJ:=by walk_at "td"
  have BP:L2.aD (L2.KOf KX) mg "_law_twins" Mine.cN:=by walk_at "td"
  have Ff:L2.aD (L2.KOf KX) mg "_law_same" Mine.qg:=by walk_at "td"
  have Fe:L2.aD (L2.KOf KX) mg "_law_told" Mine.qf:=by walk_at "td"
  have T_law:L2.aD (L2.KOf KX) mg "law" Mine.lX:=by walk_at "td"
  have bg:mg "len"=none:=by
   refine' PySem.W.mg_none_of KX G ?z;(case z=>k_is)
  have hV:mg "abs"=none:=by
   refine' PySem.W.mg_none_of KX G ?z;(case z=>k_is)
  have aM:mg "isinstance"=none:=by
   refine' PySem.W.mg_none_of KX G ?z;(case z=>k_is)
  have nP:mg "bool"=none:=by
   refine' PySem.W.mg_none_of KX G ?z;(case z=>k_is)
  have fe:mg "int"=none:=by
   refine' PySem.W.mg_none_of KX G ?z;(case z=>k_is)
  have aZ:mg "tuple"=none:=by
   refine' PySem.W.mg_none_of KX G ?z;(case z=>k_is)
  have uJ:mg "range"=none:=by
   refine' PySem.W.mg_none_of KX G ?z;(case z=>k_is)
  have Z_list:mg "list"=none:=by
   refine' PySem.W.mg_none_of KX G ?z;(case z=>k_is)
  have bU:mg "min"=none:=by
   refine' PySem.W.mg_none_of KX G ?z;(case z=>k_is)
  have ck:mg "max"=none:=by
   refine' PySem.W.mg_none_of KX G ?z;(case z=>k_is)
  have mM:mg "all"=none:=by
   refine' PySem.W.mg_none_of KX G ?z;(case z=>k_is)
  have Fd:mg "sum"=none:=by
   refine' PySem.W.mg_none_of KX G ?z;(case z=>k_is)
  have cG:mg "enumerate"=none:=by
   refine' PySem.W.mg_none_of KX G ?z;(case z=>k_is)
  have hU:mg "zip"=none:=by
   refine' PySem.W.mg_none_of KX G ?z;(case z=>k_is)
  have kb:kitOne (L2.KOf KX) (.type "int") (.type "bool")=some false:=by
   dsimp only [L2.KOf]
   first | k_is | kit_is
  have AA:∃ c,Mine.AllF (L2.KOf KX) mg c:=by
   dsimp only [L2.KOf];refine' Mine.all_mk KX G ?zaa ?zab ?zac ?zad ?zae ?zaf ?zag ?zah ?zai ?zaj ?zak ?zal ?zam ?zan ?zao ?zap ?zaq ?zar ?zas ?zat ?zau ?zav ?zaw ?zax ?zay ?zaz ?zba ?zbb ?zbc ?zbd ?zbe ?zbf ?zbg ?zbh ?zbi ?zbj ?zbk ?zbl ?zbm ?zbn ?zbo ?zbp ?zbq ?zbr ?zbs ?hn ?tk ?zbt ?zbu ?zbv ?zbw ?zbx ?zby ?zbz ?zca ?zcb ?zcc ?zcd ?zce ?zcf ?zcg ?zch ?zci ?zcj ?zck ?zcl ?zcm ?zcn ?zco ?zcp ?zcq ?zcr ?zcs ?zct ?zcu ?zcv ?zcw ?zcx ?zcy ?zcz ?zda ?zdb ?zdc ?zdd ?zde ?zdf ?zdg ?zdh ?zdi ?zdj ?zdk ?zdl ?zdm ?zdn ?zdo ?zdp ?zdq ?zdr ?zds ?zdt ?zdu ?zdv ?zdw ?zdx ?zdy ?zdz ?zea ?zeb ?zec ?zed ?zee ?zef ?zeg ?zeh ?zei ?zej ?zek ?zel ?zem ?zen ?zeo ?zep ?zeq ?zer ?zes ?zet ?zeu ?zev ?zew ?zex ?zey ?zez ?zfa ?zfb ?zfc ?zfd ?zfe ?zff ?zfg ?zfh ?zfi ?zfj ?zfk ?zfl ?zfm ?zfn ?zfo ?zfp ?zfq ?zfr ?zfs ?zft ?zfu ?zfv ?zfw ?zfx ?zfy ?zfz ?zga ?zgb ?zgc ?zgd ?zge ?zgf ?zgg ?zgh ?zgi ?zgj ?zgk ?zgl ?zgm ?zgn ?zgo ?zgp ?zgq ?zgr ?zgs ?zgt ?zgu ?zgv ?zgw ?zgx ?zgy ?zgz ?zha ?zhb ?zhc ?zhd ?zhe ?zhf ?zhg ?zhh ?zhi ?zhj ?zhk ?zhl ?zhm ?zhn ?zho ?zhp ?zhq ?zhr ?zhs ?zht ?zhu
   (case zaa|zab|zac|zad|zae|zaf|zag|zah|zai=>k_is)
   (case zaj|zak|zal|zam|zan|zao|zap|zaq|zar=>refine' ⟨?q1,?q2,?q3,?q4⟩;(case q1|q2|q3|q4=>k_is))
   (case zas|zat|zau|zav|zaw|zax|zay|zaz|zba|zbb|zbc|zbd|zbe|zbf|zbg|zbh|zbi|zbj=>k_is)
   (case zbk|zbl|zbm|zbn|zbo|zbp|zbq|zbr|zbs=>first | k_is | kit_is)
   (case hn|tk|zbt|zbu|zbv|zbw|zbx|zby|zbz|zca|zcb|zcc|zcd|zce|zcf|zcg|zch=>k_is)
   (case zci=>walk_at "fe")
   (case zcj|zck|zcl=>k_is)
   (case zcm=>walk_at "fe")
   (case zcn|zco|zcp|zcq|zcr|zcs|zct|zcu|zcv=>k_is)
   (case zcw=>walk_at "fe")
   (case zcx|zcy|zcz|zda|zdb|zdc|zdd|zde|zdf=>k_is)
   (case zdg=>walk_at "fe")
   (case zdh|zdi|zdj|zdk|zdl|zdm|zdn|zdo|zdp=>k_is)
   (case zdq=>walk_at "fe")
   (case zdr|zds|zdt|zdu|zdv|zdw|zdx|zdy|zdz=>k_is)
   (case zea=>walk_at "fe")
   (case zeb|zec|zed|zee|zef|zeg|zeh|zei|zej=>k_is)
   (case zek=>walk_at "fe")
   (case zel=>k_is)
   (case zem=>walk_at "fe")
   (case zen=>k_is)
   (case zeo=>walk_at "fe")
   (case zep=>k_is)
   (case zeq=>walk_at "fe")
   (case zer=>k_is)
   (case zes=>walk_at "fe")
   (case zet=>k_is)
   (case zeu=>walk_at "fe")
   (case zev=>k_is)
   (case zew=>walk_at "fe")
   (case zex=>k_is)
   (case zey=>walk_at "fe")
   (case zez=>k_is)
   (case zfa=>walk_at "fe")
   (case zfb=>k_is)
   (case zfc=>walk_at "fe")
   (case zfd=>k_is)
   (case zfe=>walk_at "fe")
   (case zff|zfg|zfh|zfi|zfj=>k_is)
   (case zfk=>walk_at "fe")
   (case zfl|zfm|zfn|zfo|zfp=>k_is)
   (case zfq=>walk_at "fe")
   (case zfr|zfs|zft|zfu|zfv=>k_is)
   (case zfw=>walk_at "fe")
   (case zfx=>k_is)
   (case zfy=>walk_at "fe")
   (case zfz=>k_is)
   (case zga=>walk_at "fe")
   (case zgb=>k_is)
   (case zgc=>walk_at "fe")
   (case zgd=>k_is)
   (case zge=>walk_at "fe")
   (case zgf=>k_is)
   (case zgg=>walk_at "fe")
   (case zgh=>k_is)
   (case zgi=>walk_at "fe")
   (case zgj=>k_is)
   (case zgk=>walk_at "fe")
   (case zgl=>k_is)
   (case zgm=>walk_at "fe")
   (case zgn=>k_is)
   (case zgo=>walk_at "fe")
   (case zgp=>k_is)
   (case zgq=>walk_at "fe")
   (case zgr=>k_is)
   (case zgs=>walk_at "fe")
   (case zgt=>k_is)
   (case zgu=>walk_at "fe")
   (case zgv|zgw|zgx|zgy|zgz=>k_is)
   (case zha=>walk_at "fe")
   (case zhb|zhc|zhd|zhe|zhf|zhg|zhh|zhi|zhj|zhk|zhl|zhm|zhn|zho|zhp|zhq|zhr|zhs|zht|zhu=>k_is)
  obtain ⟨c,AF⟩:=AA
  have CC:∃ CT CN CF,Mine.X47 (L2.KOf KX) mg CT CN CF:=by
   dsimp only [L2.KOf];refine' Mine.cls47 KX G ?zhv ?zhw ?zhx ?xt ?xn ?t6 ?t7 ?t8 ?st ?n6 ?n7 ?n8 ?sn ?zhy ?zhz ?zia ?zib ?zic ?zid ?zie ?zif ?zig ?zih ?zii ?zij ?zik ?zil ?zim ?zin ?zio ?zip
   (case zhv|zhw|zhx=>k_is)
   (case xt|xn=>k_exc)
   (case t6|t7|t8|st|n6|n7|n8|sn|zhy=>k_is)
   (case zhz=>first | k_is | kit_is)
   (case zia=>k_is)
   (case zib=>first | k_is | kit_is)
   (case zic=>k_is)
   (case zid=>first | k_is | kit_is)
   (case zie=>k_is)
   (case zif=>first | k_is | kit_is)
   (case zig=>k_is)
   (case zih=>first | k_is | kit_is)
   (case zii=>k_is)
   (case zij=>first | k_is | kit_is)
   (case zik=>k_is)
   (case zil=>first | k_is | kit_is)
   (case zim=>k_is)
   (case zin=>first | k_is | kit_is)
   (case zio=>k_is)
   (case zip=>first | k_is | kit_is)
  obtain ⟨CT,CN,CF,XF⟩:=CC
  have gE:L2.fK (L2.KOf KX) mg "NEVER" [0,0,0]:=by
   dsimp only [L2.KOf];refine' L2.jU (ns:=[0,0,0]) KX G ?e ?l ?z ?v;(case e=>k_is);(case l=>k_is);(case z=>decide);(case v=>exact (.cons ⟨_,rfl⟩ (.cons ⟨_,rfl⟩ (.cons ⟨_,rfl⟩ .nil))))
  have ff:L2.fK (L2.KOf KX) mg "ALWAYS" [0,0,1]:=by
   dsimp only [L2.KOf];refine' L2.jU (ns:=[0,0,1]) KX G ?e ?l ?z ?v;(case e=>k_is);(case l=>k_is);(case z=>decide);(case v=>exact (.cons ⟨_,rfl⟩ (.cons ⟨_,rfl⟩ (.cons ⟨_,rfl⟩ .nil))))
  have lH:L2.fK (L2.KOf KX) mg "LETTER_P" [1,0,0]:=by
   dsimp only [L2.KOf];refine' L2.jU (ns:=[1,0,0]) KX G ?e ?l ?z ?v;(case e=>k_is);(case l=>k_is);(case z=>decide);(case v=>exact (.cons ⟨_,rfl⟩ (.cons ⟨_,rfl⟩ (.cons ⟨_,rfl⟩ .nil))))
  have lG:L2.fK (L2.KOf KX) mg "LETTER_Q" [0,1,0]:=by
   dsimp only [L2.KOf];refine' L2.jU (ns:=[0,1,0]) KX G ?e ?l ?z ?v;(case e=>k_is);(case l=>k_is);(case z=>decide);(case v=>exact (.cons ⟨_,rfl⟩ (.cons ⟨_,rfl⟩ (.cons ⟨_,rfl⟩ .nil))))
  have P_LEAF:Mine.yy (L2.KOf KX) mg "LEAF" "leaf":=by
   dsimp only [L2.KOf];refine' Mine.Ap KX G ?e ?l ?z ?v;(case e=>k_is);(case l=>k_is);(case z=>decide);(case v=>exact (.cons ⟨_,rfl⟩ .nil))
  have I_MOST:∃ t,mg "MOST_FOLDS"=some (.int 8 t):=by
   refine' L2.Aq KX G ?ie ?iq;(case ie=>k_is);(case iq=>exact ⟨_,rfl⟩)
  obtain ⟨tm,M_MOST⟩:=I_MOST;obtain ⟨f,fd,F,m⟩:=T_law.ex;have e:=hmg.symm.trans m;cases e
  obtain ⟨oc,od,kV,doc,pm,an,cdv,ct,osl,hfd,lk,hcd⟩:=id F.ex;subst hfd;refine ⟨PySem.W.fnOf "law" "law" (L2.eZ Mine.sLaw) (L2.bu Mine.sLaw) (L2.ag Mine.sLaw) .none kV doc pm an cdv ct,λs u=>.of_eq rfl,λbase kb' nb=>?_⟩;have M:=Mine.ms (P:=Mine.Pg) (w:=w) (base:=base) AF bU ck;obtain ⟨kl,kn,kf⟩:=Mine.mks (P:=Mine.Pg) (w:=w) (base:=base) AF;have GL:∀ t,L2.aT Mine.Pg w (L2.KOf KX) mg base (c.of t) "laid_out" 2 ["self"] (Mine.pJ c t):=λt=>Mine.ok_laid (AF.laid t) M;have GF:∀ t,L2.aT Mine.Pg w (L2.KOf KX) mg base (c.of t) "folds" 3 ["self"] (Mine.pK c t):=λt=>Mine.AX (AF.foldsS t) bg aM XF.mF AF.fx (XF.kf AF) GL;have GO:∀ t,L2.aT Mine.Pg w (L2.KOf KX) mg base (c.of t) "out_of" 3 ["self","n","x","y"] (Mine.CD c t):=λt=>Mine.ok_out (AF.out t) M GL;have dRowsOf:=Mine.AU BM bg aZ M GL;have dFactor:=Mine.AY (P:=Mine.Pg) (w:=w) (base:=base) oI hV;have dTold:=Mine.ok_told (P:=Mine.Pg) (w:=w) (base:=base) BL;have dTells:=Mine.xX (P:=Mine.Pg) (w:=w) (base:=base) BQ;have dTic:=Mine.ok_tic mO dTold;have dCut:=Mine.ok_cut T_cut XF.mN XF.xN bU ck cG bg dTic (Mine.ok_cb nQ hU hV aZ dFactor);have dLcut:=Mine.AW T_l_cut bU ck cG bg hU hV dTells (Mine.ok_lwL yB aZ);have dWithout:=Mine.xS (P:=Mine.Pg) (w:=w) (base:=base) BJ hU aZ;have dChoice:=Mine.Bb xa bg gE ff dWithout (Mine.ok_leaf wX gE ff lH lG) (Mine.ok_fold rn gE ff (Mine.ok_both (P:=Mine.Pg) (w:=w) (base:=base) T_both hU aZ) dWithout);have dRules:=Mine.DQ oG cG dChoice (Mine.Ba wZ ck bU dTic);have dHulls:=Mine.DX yE (Mine.ok_sq (P:=Mine.Pg) (w:=w) (base:=base) wW) dCut;have dFewM:=Mine.ok_few (P:=Mine.Pg) (w:=w) (base:=base) rm M_MOST;have dSqr:=Mine.ok_sq (P:=Mine.Pg) (w:=w) (base:=base) wW;have dTree:=Mine.AQ BK P_LEAF dRules dCut 9;have dWorth:=Mine.xR T_worth (Mine.vV oH (Mine.ud yD aM aZ bg mM (Mine.xY (P:=Mine.Pg) (w:=w) (base:=base) yC aM fe nP kb))) GO;have dCfb:=Mine.ok_cfb lE GF dFewM dSqr (Mine.ok_rb qV kf dRowsOf) dTree;have dAlike:=Mine.Eb T_alike dCfb dHulls dWorth;have dWhole:=Mine.DL (P:=Mine.Pg) (w:=w) (base:=base) BO aM fe nP kb;have dLrules:=Mine.vW BR (Mine.DV Fg bg bU ck (Mine.ok_lsum (P:=Mine.Pg) (w:=w) (base:=base) T_l_sum hU aZ) dTells);have dLhulls:=Mine.AV BU aM aZ bg mM dWhole dLcut 9;have dNext:=Mine.ok_next (P:=Mine.Pg) (w:=w) (base:=base) Fh bg;have dNf:=Mine.ok_nf50 (P:=Mine.Pg) (w:=w) (base:=base) BV Fd fe bg 60;have dFew:=Mine.ok_lfew T_l_few bg dNext (Mine.AS yz fe dNext 60) dNf;have dRt:=Mine.ok_rt50 (P:=Mine.Pg) (w:=w) (base:=base) wY aZ 60;have dTold55:=Mine.AR Fe aM aZ bg (Mine.DS yA AF.o_ne AF.r_ne AF.o_al AF.r_al kl kn kf 60) dAlike (Mine.ok_same Ff dRt dLhulls dLrules) (Mine.ok_ispt uK aM aZ bg mM bU ck dWhole) (Mine.DK BN fe (Mine.DY Fi bU ck) 60);exact Mine.ok_law F (Mine.DT BS bg ck bU uJ hV fe) dNext dFew dNf (Mine.DP BP bg) dTold55
 case S=>exact λK H a ns hl hb hO hS=>⟨a,ns,rfl,Mine.scr_of hO hS hl hb,λ_=>rfl⟩
 case C=>exact λ_ _ _ _ z=>z
