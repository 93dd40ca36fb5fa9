import PyProof.Rows.All
import Wide.All
import OpenK.AllK
import Wide.FinOn
import Lean
import PyProof.EqAt
import PyProof.EqKinds
import PyProof.TupleCall
import KE.KRevIter
import PyProof.ListNew
import PyProof.NeKinds
import PyProof.StrBlockL
import KE.LcSums
import PyProof.Rows.EqDataRows
import PyProof.Draws
import PyProof.EnumMake
import PyProof.ZipIter
import PyProof.WalksMore
import PyProof.P3In
import PyProof.IsRules
import KE.KLcPair
import PyProof.Rows.Range3
import PyProof.Rows.MinMaxN
import KE.KTab
import PyProof.Rows.SumAny
import PyProof.ExcClass2
import PyProof.ExcInit
import PyProof.StationsW
import PyProof.InstStoreFacts
import PySem.Challenge.RW_leansay_k56_too_many_folds
set_option Elab.async false
set_option linter.all false
noncomputable section
set_option hygiene false
local macro_rules | `(tactic| walk_at "i1") => `(tactic| intro vs H Q E h)
local macro_rules | `(tactic| walk_at "i2") => `(tactic| intro f cdv A outer s H vs Q E hr h)
local macro_rules | `(tactic| walk_at "i3") => `(tactic| intro cdv A outer s H vs Q E hr h)
set_option hygiene true
set_option maxRecDepth 100000
namespace L2
open PySem PySem.Spec PyProof.Rows
abbrev Key:=Sum Int Str
def sI:Key->Value->Bool
 | .inl k,v=>Value.isInt k v
 | .inr x,v=>Value.isStrOf x v
def keyH (w:World):Key->Int
 | .inl k=>hashInt k
 | .inr x=>hashStr w x
theorem cG:∀{k:Key} {v:Value},sI k v=true->(∃ i t,k=Sum.inl i/\v=Value.int i t)\/(∃ x t,k=Sum.inr x/\v=Value.str x t)
 | .inl i,v,h=>by
  obtain ⟨t,e⟩:=Value.isInt_shape (k:=i) (v:=v) h;exact .inl ⟨i,t,rfl,e⟩
 | .inr x,v,h=>by
  obtain ⟨t,e⟩:=Value.isStrOf_shape (x:=x) (v:=v) h;exact .inr ⟨x,t,rfl,e⟩
theorem Bq (i:Int) (t:Tok):sI (.inl i) (.int i t)=true:=by simp [sI,Value.isInt]
theorem Bp (x:Str) (t:Tok):sI (.inr x) (.str x t)=true:=by simp [sI,Value.isStrOf]
theorem key_ll (a b:Int):decide ((Sum.inl a:Key)=Sum.inl b)=(a == b):=by
 by_cases e:a=b
 ·subst e;simp
 ·have h:¬ (Sum.inl a:Key)=Sum.inl b:=λq=>e (Sum.inl.inj q);rw [decide_eq_false h];exact (beq_eq_false_iff_ne.mpr e).symm
theorem key_rr (a b:Str):decide ((Sum.inr a:Key)=Sum.inr b)=decide (a=b):=by
 by_cases e:a=b
 ·subst e;simp
 ·have h:¬ (Sum.inr a:Key)=Sum.inr b:=λq=>e (Sum.inr.inj q);rw [decide_eq_false h,decide_eq_false e]
theorem key_lr (a:Int) (b:Str):decide ((Sum.inl a:Key)=Sum.inr b)=false:=decide_eq_false (λq=>nomatch q)
theorem key_rl (a:Str) (b:Int):decide ((Sum.inr a:Key)=Sum.inl b)=false:=decide_eq_false (λq=>nomatch q)
noncomputable def dF (prog:Program) (w:World):PySem.KeyKind prog w Key where
 is:=sI
 hash:=keyH w
 inj:=λv a b ha hb=>by
  rcases cG ha with ⟨i,t,rfl,rfl⟩ | ⟨x,t,rfl,rfl⟩
  ·rcases cG hb with ⟨j,u,rfl,e⟩ | ⟨y,u,rfl,e⟩
   ·injection e with e1 _;rw [e1]
   ·exact nomatch e
  ·rcases cG hb with ⟨j,u,rfl,e⟩ | ⟨y,u,rfl,e⟩
   ·exact nomatch e
   ·injection e with e1 _;rw [e1]
 byValue:=λk v h=>by
  rcases cG h with ⟨i,t,rfl,rfl⟩ | ⟨x,t,rfl,rfl⟩ <;> rfl
 pyHash:=λhv h=>by
  rcases cG hv with ⟨i,t,rfl,rfl⟩ | ⟨x,t,rfl,rfl⟩
  ·exact wpAny_pyHash_int h
  ·exact wpAny_pyHash_str h
 eqBool:=λhu hv h=>by
  rcases cG hu with ⟨i,t,rfl,rfl⟩ | ⟨x,t,rfl,rfl⟩
  ·rcases cG hv with ⟨j,u,rfl,rfl⟩ | ⟨y,u,rfl,rfl⟩
   ·rw [key_ll] at h;exact wpAny_eqBool_int h
   ·rw [key_lr] at h;exact SeqAt.EqAt.int_str i t y u _ _ _ _ h
  ·rcases cG hv with ⟨j,u,rfl,rfl⟩ | ⟨y,u,rfl,rfl⟩
   ·rw [key_rl] at h;exact SeqAt.EqAt.str_int x t j u _ _ _ _ h
   ·rw [key_rr] at h;exact wpAny_eqBool_str h
 «strs»:=λk x t v h=>by
  rcases cG h with ⟨i,u,rfl,e⟩ | ⟨y,u,rfl,e⟩
  ·exact nomatch e
  ·injection e with e1 _
   subst e1;cases v <;> rfl
theorem wy (prog:Program) (w:World) (i:Int) (t:Tok):(dF prog w).is (.inl i) (.int i t)=true:=Bq i t
theorem wx (prog:Program) (w:World) (x:Str) (t:Tok):(dF prog w).is (.inr x) (.str x t)=true:=Bp x t
inductive V where
 | non | bl (b:Bool) | int (i:Int) | str (x:Str) | byt (b:Array UInt8) | flt (b:UInt64) | ref (a:Addr) | ty (n:String)
 deriving DecidableEq
def RelV:V->Value->Prop
 | .non,u=>u=Value.none
 | .bl b,u=>u=Value.bool b
 | .int i,u=>∃ t,u=Value.int i t
 | .str x,u=>∃ t,u=Value.str x t
 | .byt b,u=>∃ t,u=Value.bytes b t
 | .flt b,u=>∃ t,u=Value.float b t
 | .ref a,u=>u=Value.ref a
 | .ty n,u=>u=Value.type n
abbrev Vals:List V->List Value->Prop:=Paired RelV
theorem Vals.length {xs:List V} {us:List Value} (r:Vals xs us):xs.length=us.length:=Paired.length r
theorem Vals.get:∀{xs:List V} {us:List Value} {i:Nat} {x:V},Vals xs us->xs[i]?=some x->∃ u,us[i]?=some u/\RelV x u
 | _,_,_,_,.nil,e=>by simp at e
 | _,_,0,_,.cons r _,e=>by simp at e;subst e;exact ⟨_,rfl,r⟩
 | _,_,i+1,x,.cons _ t,e=>by
  obtain ⟨u,h1,h2⟩:=Vals.get (i:=i) (x:=x) t (by simpa using e);exact ⟨u,by simpa using h1,h2⟩
theorem Vals.set {x:V} {u:Value} (r:RelV x u):∀{xs:List V} {us:List Value} (i:Nat),Vals xs us->Vals (xs.set i x) (us.set i u)
 | _,_,_,.nil=>.nil
 | _,_,0,.cons _ t=>.cons r t
 | _,_,i+1,.cons q t=>.cons q (Vals.set r i t)
theorem Vals.append:∀{xs ys:List V} {us ws:List Value},Vals xs us->Vals ys ws->Vals (xs++ys) (us++ws)
 | _,_,_,_,.nil,s=>s
 | _,_,_,_,.cons r t,s=>.cons r (Vals.append t s)
theorem Vals.take:∀{xs:List V} {us:List Value} (n:Nat),Vals xs us->Vals (xs.take n) (us.take n)
 | _,_,0,_=>.nil
 | _,_,_+1,.nil=>.nil
 | _,_,n+1,.cons r t=>.cons r (Vals.take n t)
theorem Vals.drop:∀{xs:List V} {us:List Value} (n:Nat),Vals xs us->Vals (xs.drop n) (us.drop n)
 | _,_,0,r=>r
 | _,_,_+1,.nil=>.nil
 | _,_,n+1,.cons _ t=>Vals.drop n t
def kM:Option V->Option Value->Prop
 | some v,some u=>RelV v u
 | none,none=>True
 | _,_=>False
def KV {κ:Type}:List (κ×V)->List (κ×Value)->Prop:=Paired λ(p:κ×V) (q:κ×Value)=>p.1=q.1/\RelV p.2 q.2
def kV:Key->V
 | .inl i=>.int i
 | .inr x=>.str x
inductive HO where
 | lst (xs:List V)
 | tup (xs:List V)
 | dK (kvs:List (Key×V)) | dT (kvs:List (List Key×V))
 | set (S:Int->Bool) (n:Nat)
 | ins (C dx:Addr) (fs:List (Str×V))
 | own (x:Addr)
 | xd (fs:List (Str×V))
 | met (f x:Addr)
 | rng (lo hi:Int)
 | frz (o:Obj) (u:HO)
 | tbl (ps:Array Value)
 | ext (φ:Heap->Prop)
abbrev Hp:=Addr->Option HO
def upd (H:Hp) (a:Addr) (o:HO):Hp:=λb=>if b=a then some o else H b
theorem af {H:Hp} {a:Addr} {o:HO}:upd H a o a=some o:=by unfold upd;rw [if_pos rfl]
theorem aB {H:Hp} {a b:Addr} {o:HO} (h:b≠a):upd H a o b=H b:=by unfold upd;rw [if_neg h]
theorem pe {H:Hp} {a:Addr} {o u:HO}:upd (upd H a o) a u=upd H a u:=by
 funext b;unfold upd;split <;> rfl
theorem sA {H:Hp} {a b:Addr} {o u:HO} (h:H a=some o) (h':H b=some u) (d:o≠u):a≠b:=by
 intro e;subst e;rw [h] at h';exact d (Option.some.inj h')
theorem aA {H:Hp} {a b:Addr} {o:HO} (h:H a=some o) (h':H b=none):a≠b:=by
 intro e;subst e;rw [h] at h';cases h'
section
variable (P:Program) (w:World)
noncomputable def cq (H:Hp) (h:Heap) (a:Addr):HO->Prop
 | .lst xs=>xs.length<=sizeLine/\∃(its:List Value) (n:Nat),Vals xs its/\h.get? a=some {cls:=.type "list",data:=.seq its.toArray n}
 | .tup xs=>xs.length<=sizeLine/\∃ its:List Value,Vals xs its/\IsTup h a its.toArray
 | .dK kvs=>kvs.length<=sizeLine/\(a == sysModules)=false/\∃ vs,KV kvs vs/\h.DictOf (dF P w) a vs
 | .dT kvs=>kvs.length<=sizeLine/\(a == sysModules)=false/\∃ xs:List (List Key×Addr×Value),
   Paired (λ(p:List Key×V) (q:List Key×Addr×Value)=>p.1=q.1/\H q.2.1=some (.tup (p.1.map kV))/\RelV p.2 q.2.2) kvs xs/\
   ∃ o es ep,h.get? a=some o/\o.ExactDict/\o.data=.dict es ep/\es.toList=xs.map (entryOfKey (tupleKind (dF P w)))/\(xs.map (·.1)).Nodup
 | .set S n=>h.SetOf (intKind P w) a S n
 | .ins C dx fs=>H dx=some (.own a)/\fs.length<=1000/\dx≠a/\h.get? a=some (PySem.W.instObj C dx)/\
   ∃ mA,h.Ns1 dx mA/\(∀ f,kM (fs.lookup f) (mA f))/\PySem.Within mA (fs.map (·.1))
 | .own _=>∃ o,h.get? a=some o
 | .xd fs=>∃ mA,h.Ns1 a mA/\∀ f,kM (fs.lookup f) (mA f)
 | .rng lo hi=>∃ t u v,h.get? a=some {cls:=.type "range",data:=.fields #[.int lo t,.int hi u,.int 1 v] }
 | .frz o u=>h.get? a=some o/\cq H h a u
 | .tbl ps=>h.get? a=some {cls:=.none,data:=.fields ps}
 | .met f x=>h.get? a=some (PySem.W.methodObj (.ref f) (.ref x))
 | .ext φ=>φ h/\(∃ o,h.get? a=some o)/\∀ h1 h2:Heap,φ h1->(∀ o,h1.get? a=some o->h2.get? a=some o)->φ h2
def HOk (H:Hp) (h:Heap):Prop:=∀ a o,H a=some o->cq P w H h a o
end
section
variable {P:Program} {w:World} {H H':Hp} {h h':Heap} {a:Addr} {o:HO}
theorem cq.lt (x:cq P w H h a o):a < h.objs.size:=by
 cases o with
 | lst xs=>obtain ⟨_,_,_,_,e⟩:=x;exact Heap.lt_size e
 | tup xs=>obtain ⟨_,_,_,p⟩:=x;exact p.lt
 | dK kvs=>obtain ⟨_,_,_,_,o,_,_,e,_⟩:=x;exact Heap.lt_size e
 | dT kvs=>obtain ⟨_,_,_,_,o,_,_,e,_⟩:=x;exact Heap.lt_size e
 | set S n=>obtain ⟨o,_,_,_,e,_⟩:=x;exact Heap.lt_size e
 | ins C dx fs=>obtain ⟨_,_,_,e,_⟩:=x;exact Heap.lt_size e
 | own y=>obtain ⟨_,e⟩:=x;exact Heap.lt_size e
 | xd fs=>obtain ⟨_,⟨_,_,_,e,_⟩,_⟩:=x;exact Heap.lt_size e
 | rng lo hi=>obtain ⟨_,_,_,e⟩:=x;exact Heap.lt_size e
 | frz ob u=>obtain ⟨e,_⟩:=x;exact Heap.lt_size e
 | tbl ps=>exact Heap.lt_size (show h.get? a=some _ from x)
 | met f y=>exact Heap.lt_size (show h.get? a=some _ from x)
 | ext φ=>obtain ⟨_,⟨_,e⟩,_⟩:=x;exact Heap.lt_size e
theorem Paired.mapP {α β:Type} {F G:α->β->Prop}:∀{l₁:List α} {l₂:List β},Paired F l₁ l₂->(∀ a b,F a b->G a b)->Paired G l₁ l₂
 | _,_,.nil,_=>.nil
 | _,_,.cons r t,f=>.cons (f _ _ r) (Paired.mapP t f)
theorem cq.stay (x:cq P w H h a o) (k:∀ b u,(b=a\/H b=some (.own a))->h.get? b=some u->h'.get? b=some u)
  (ho:∀ b,H b=some (.own a)->H' b=some (.own a)) (ht:∀ b xs,H b=some (.tup xs)->H' b=some (.tup xs)):cq P w H' h' a o:=by
 induction o with
 | lst xs=>obtain ⟨z,its,n,r,e⟩:=x;exact ⟨z,its,n,r,k _ _ (.inl rfl) e⟩
 | tup xs=>obtain ⟨z,its,r,ob,e,c⟩:=x;exact ⟨z,its,r,ob,k _ _ (.inl rfl) e,c⟩
 | dK kvs=>obtain ⟨z,y,vs,r,ob,es,ep,e,c⟩:=x;exact ⟨z,y,vs,r,ob,es,ep,k _ _ (.inl rfl) e,c⟩
 | dT kvs =>
  obtain ⟨z,y,xs,r,ob,es,ep,e,c⟩:=x;exact ⟨z,y,xs,Paired.mapP r λp q z=>⟨z.1,ht _ _ z.2.1,z.2.2⟩,ob,es,ep,k _ _ (.inl rfl) e,c⟩
 | set S n=>obtain ⟨ob,es,ep,t,e,c⟩:=x;exact ⟨ob,es,ep,t,k _ _ (.inl rfl) e,c⟩
 | ins C dx fs =>
  obtain ⟨d,z,ne,e,mA,⟨od,es,ep,e2,c⟩,r⟩:=x;exact ⟨ho _ d,z,ne,k _ _ (.inl rfl) e,mA,⟨od,es,ep,k _ _ (.inr d) e2,c⟩,r⟩
 | own y=>obtain ⟨ob,e⟩:=x;exact ⟨ob,k _ _ (.inl rfl) e⟩
 | xd fs=>obtain ⟨mA,⟨od,es,ep,e,c⟩,r⟩:=x;exact ⟨mA,⟨od,es,ep,k _ _ (.inl rfl) e,c⟩,r⟩
 | rng lo hi=>obtain ⟨t,u,v,e⟩:=x;exact ⟨t,u,v,k _ _ (.inl rfl) e⟩
 | frz ob u ih=>obtain ⟨e,q⟩:=x;exact ⟨k _ _ (.inl rfl) e,ih q⟩
 | tbl ps =>
  have e:h.get? a=some {cls:=.none,data:=.fields ps}:=x;show h'.get? a=some {cls:=.none,data:=.fields ps};exact k a _ (.inl rfl) e
 | met f y =>
  have e:h.get? a=some (PySem.W.methodObj (.ref f) (.ref y)):=x;show h'.get? a=some (PySem.W.methodObj (.ref f) (.ref y));exact k a _ (.inl rfl) e
 | ext φ=>obtain ⟨p,⟨o,e⟩,st⟩:=x;exact ⟨st _ _ p λo q=>k _ _ (.inl rfl) q,⟨o,k _ _ (.inl rfl) e⟩,st⟩
theorem HOk.lt (x:HOk P w H h) (e:H a=some o):a < h.objs.size:=(x a o e).lt
theorem HOk.fresh (x:HOk P w H h) (e:h.objs.size<=a):H a=none:=by
 cases q:H a with
 | none=>rfl
 | some u=>exact absurd (Nat.lt_of_lt_of_le (x.lt q) e) (Nat.lt_irrefl _)
theorem HOk.kept (x:HOk P w H h) (k:∀ b u,h.get? b=some u->h'.get? b=some u):HOk P w H h':=λa o e =>
 (x a o e).stay (λb u _ q=>k b u q) (λ_ q=>q) λ_ _ q=>q
theorem HOk.laid (x:HOk P w H h) (k:∀ b u,h.get? b=some u->h'.get? b=some u) (hp:h.objs.size<=a) (new:cq P w (upd H a o) h' a o):HOk P w (upd H a o) h':=λb u e=>by
 have hn:=x.fresh hp
 by_cases hb:b=a
 ·subst hb;rw [af] at e;cases e;exact new
 ·rw [aB hb] at e;exact (x b u e).stay (λc v _ q=>k c v q) (λc q=>by rw [aB (aA q hn)];exact q) λc xs q=>by rw [aB (aA q hn)];exact q
end
def Rd (H:Hp) (a:Addr) (u:HO):Prop:=H a=some u\/∃ o,H a=some (.frz o u)
theorem Rd.ok {P:Program} {w:World} {H:Hp} {h:Heap} {a:Addr} {u:HO} (r:Rd H a u) (x:HOk P w H h):cq P w H h a u:=by
 rcases r with r | ⟨o,r⟩
 ·exact x a u r
 ·obtain ⟨_,q⟩:=x a _ r;exact q
def Mut:Option HO->Prop
 | some (.lst _)=>True
 | some (.dK _)=>True
 | some (.dT _)=>True
 | some (.set _ _)=>True
 | some (.ins _ _ _)=>True
 | some (.ext _)=>True
 | _=>False
section
variable {P:Program} {w:World} {H:Hp} {h h':Heap} {x e:Addr} {o':HO}
theorem HOk.write (ok:HOk P w H h) (mu:Mut (H x)) (he:e=x\/H e=some (.own x)) (k:∀ b u,b≠e->h.get? b=some u->h'.get? b=some u) (heo:∃ u,h'.get? e=some u)
  (new:cq P w (upd H x o') h' x o'):HOk P w (upd H x o') h':=λb u q=>by
 have nown:∀ c y,H c=some (.own y)->c≠x:=λc y r z=>by subst z;rw [r] at mu;exact mu
 have ntup:∀ c xs,H c=some (.tup xs)->c≠x:=λc xs r z=>by subst z;rw [r] at mu;exact mu
 by_cases hb:b=x
 ·subst hb;rw [af] at q;cases q;exact new
 ·rw [aB hb] at q
  by_cases hbe:b=e
  ·have q':H b=some (.own x):=by
    rcases he with z | z
    ·exact absurd (hbe.trans z) hb
    ·rw [hbe];exact z
   rw [q] at q';cases q'
   obtain ⟨v,hv⟩:=heo;exact ⟨v,by rw [hbe];exact hv⟩
  ·refine (ok b u q).stay (λc v hc r=>k c v ?_ r) (λc r=>by rw [aB (nown c b r)];exact r) λc xs r=>by rw [aB (ntup c xs r)];exact r
   rcases hc with rfl | hc
   ·exact hbe
   ·rintro rfl
    rcases he with z | z
    ·exact nown c b hc z
    ·rw [hc] at z;cases z;exact hb rfl
end
structure Un (fs ex:List Addr) (H H':Hp) (h h':Heap):Prop where
 keep:∀ b o,h.get? b=some o->H b=none->b ∉ fs->b ∉ ex->h'.get? b=some o
 slot:∀ b o,h.get? b=some o->H b=none->b∈fs->b ∉ ex->∃ sl,h'.get? b=some {o with slots:=sl}
 free:∀ b o,h.get? b=some o->H b=none->b ∉ ex->H' b=none
 there:∀ b o,h.get? b=some o->b ∉ ex->∃ o',h'.get? b=some o'
 tups:∀ b xs,H b=some (.tup xs)->H' b=some (.tup xs)
 frzs:∀ b o u,H b=some (.frz o u)->H' b=some (.frz o u)
 tbls:∀ b ps,H b=some (.tbl ps)->∃ more,H' b=some (.tbl (ps++more))
section
variable {fs fs' ex ex':List Addr} {H H1 H2:Hp} {h h1 h2 h':Heap} {a x e:Addr} {o:HO}
theorem Un.any (u:Un fs ex H H1 h h1) {b:Addr} {ob:Obj} (q:h.get? b=some ob) (n:H b=none) (hx:b ∉ ex):∃ sl,h1.get? b=some {ob with slots:=sl}:=by
 by_cases hb:b∈fs
 ·exact u.slot b ob q n hb hx
 ·exact ⟨ob.slots,u.keep b ob q n hb hx⟩
theorem Un.kept (k:∀ b u,h.get? b=some u->h'.get? b=some u):Un fs ex H H h h':=
 ⟨λb ob q _ _ _=>k b ob q,λb ob q _ _ _=>⟨ob.slots,k b ob q⟩,λ_ _ _ n _=>n,λb ob q _=>⟨ob,k b ob q⟩,λ_ _ q=>q,λ_ _ _ q=>q,λ_ ps q=>⟨#[],by rw [q];simp⟩⟩
theorem Un.refl:Un fs ex H H h h:=Un.kept λ_ _ q=>q
theorem Un.laid (k:∀ b u,h.get? b=some u->h'.get? b=some u) (hp:h.objs.size<=a) (hn:H a=none):Un fs ex H (upd H a o) h h' where
 keep:=λb u q _ _ _=>k b u q
 slot:=λb u q _ _ _=>⟨u.slots,k b u q⟩
 free:=λb u q n _=>by rw [aB (Nat.ne_of_lt (Nat.lt_of_lt_of_le (Heap.lt_size q) hp))];exact n
 there:=λb u q _=>⟨u,k b u q⟩
 tups:=λb xs q=>by rw [aB (aA q hn)];exact q
 frzs:=λb u xs q=>by rw [aB (aA q hn)];exact q
 tbls:=λb ps q=>⟨#[],by rw [aB (aA q hn),q];simp⟩
theorem Un.write (mu:Mut (H x)) (he:e=x\/H e=some (.own x)) (k:∀ b u,b≠e->h.get? b=some u->h'.get? b=some u) (heo:∃ u,h'.get? e=some u):Un fs ex H (upd H x o) h h':=by
 have hx:∀ b,H b=none->b≠x:=λb n z=>by subst z;rw [n] at mu;exact mu
 have hb:∀ b,H b=none->b≠e:=λb n z=>by
  subst z;rcases he with r | r
  ·exact hx b n r
  ·rw [n] at r;cases r
 have hm:∀ b u,H b=some u->¬Mut (some u)->b≠x:=λb u q nm z=>by subst z;rw [q] at mu;exact nm mu
 refine ⟨λb u q n _ _=>k b u (hb b n) q,λb u q n _ _=>⟨u.slots,k b u (hb b n) q⟩,λb u q n _=>by rw [aB (hx b n)];exact n,λb u q _=>?_,
  λb xs q=>by rw [aB (hm b _ q λz=>z)];exact q,λb u xs q=>by rw [aB (hm b _ q λz=>z)];exact q,λb ps q=>⟨#[],by rw [aB (hm b _ q λz=>z),q];simp⟩⟩
 by_cases hbe:b=e
 ·subst hbe;exact heo
 ·exact ⟨u,k b u hbe q⟩
end
def trk (h:Heap) (H:Hp):List Addr:=(List.range h.objs.size).filter λa=>(H a).isSome
def uq (h:Heap) (H:Hp):Heap:=PySem.W.hideAll h (trk h H)
theorem Bt (h:Heap) (H:Hp):(uq h H).objs.size=h.objs.size:=PySem.W.hideAll_size _ _
theorem Em {h:Heap} {H:Hp} {b:Addr} {o:Obj} (e:h.get? b=some o) (n:H b=none):(uq h H).get? b=some o:=
 PySem.W.hideAll_get _ e λhm=>by
  have q:(H b).isSome=true:=(List.mem_filter.mp hm).2;rw [n] at q;simp at q
theorem of_hidT {h:Heap} {H:Hp} {b:Addr} {o:Obj} (e:(uq h H).get? b=some o):h.get? b=some o/\H b=none:=by
 have e':h.get? b=some o:=PySem.W.of_hideAll (trk h H) e;refine ⟨e',?_⟩;cases q:H b with
 | none=>rfl
 | some x =>
  have hm:b∈trk h H:=List.mem_filter.mpr ⟨List.mem_range.mpr (Heap.lt_size e'),by simp [q]⟩;have z:(uq h H).get? b=none:=PySem.W.hideAll_none (trk h H) hm;rw [z] at e;cases e
structure Mod (K:W.Frag) (mg:Str->Option Value) (base:Heap):Prop where
 kin:K.In base
 glob:base.Ns mainGlobals mg
 blt:∃ mb,base.Ns builtinsNs mb/\∀ x:Str,x≠"__name__"->mb x=bootBuiltins x
 nolimit:base.NoLimit
structure Cx where
 prog:Program
 w:World
 K:W.Frag
 mg:Str->Option Value
 base:Heap
 A:Around
 N:List Str
 s₀:Shared
 H₀:Hp
 env:Env
 outer:List Env
 stack:List Env
 ex:List Addr
 fn:Str->Bool
 calm:Bool
 pn:List (Addr×Obj)
 xe:Value->Shared->Prop
def frs (l:List Env):List Addr:=l.filterMap (·.frame)
abbrev Cx.fs (X:Cx):List Addr:=frs X.outer
def Vis (sc:Scope) (x:Str):Prop:=sc.names.lookup x=some .local\/sc.names.lookup x=some .cell\/sc.names.lookup x=some .free
def Loc (sc:Scope) (x:Str):Prop:=sc.names.lookup x=some .local\/sc.names.lookup x=some .cell
def Look (env:Env) (h:Heap) (m:Str->Option Value) (x:Str) (u:Value):Prop:=
 (env.kindOf x=some .local/\m x=some u)\/((env.kindOf x=some .cell\/env.kindOf x=some .free)/\∃ c,env.cells.lookup x=some c/\h.IsCell c (some u))
structure Cx.Ok (X:Cx):Prop where
 mod:Mod X.K X.mg X.base
 kind:X.env.scope.kind=.function
 glob:X.env.globals=mainGlobals
 blt:X.env.builtins=builtinsNs
 above:X.s₀.heap.objs.size<=X.env.locals
 inj:∀ x y c,X.env.cells.lookup x=some c->X.env.cells.lookup y=some c->x=y
 has:∀ x,(X.env.kindOf x=some .cell\/X.env.kindOf x=some .free)->∃ c,X.env.cells.lookup x=some c
 cab:∀ x c,X.fn x=true->X.env.cells.lookup x=some c->X.s₀.heap.objs.size<=c
 hd:X.calm=true->X.A.handled=none
 frames:X.A.frames=some X.stack
 stk:X.stack=X.outer\/(X.stack=X.env::X.outer/\X.env.frame=some X.env.locals)
 exf:∀ b∈X.ex,b≠X.env.locals/\∀ x c,X.env.cells.lookup x=some c->c≠b
 bs:∀ b o,X.base.get? b=some o->X.s₀.heap.get? b=some o/\X.H₀ b=none
 bsz:X.base.objs.size<=X.s₀.heap.objs.size
 noex:∀ b o,X.base.get? b=some o->b ∉ X.ex
 exfs:∀ b∈X.ex,b ∉ X.fs
 funs:X.s₀.heap.FunFrames X.base X.outer
 frf:∀ b∈X.fs,X.H₀ b=none
structure Inv (X:Cx) (pins:List (Addr×Obj)) (σ:List (Option V)) (H:Hp) (s:Shared):Prop where
 ok:X.Ok
 os:s.os=X.s₀.os
 bare:AllBare s.gens
 base:Un X.fs X.ex X.H₀ H X.s₀.heap s.heap
 loc:∃ m,s.heap.Ns X.env.locals m/\∀(i:Nat) (x:Str) (v:V),X.N[i]?=some x->σ[i]?=some (some v)->Vis X.env.scope x->∃ u,RelV v u/\Look X.env s.heap m x u
 cell:∀ x c,X.env.cells.lookup x=some c->∃ v,s.heap.IsCell c v
 free:H X.env.locals=none
 freeC:∀ x c,X.env.cells.lookup x=some c->H c=none
 pin:∀ p∈X.pn++pins,s.heap.get? p.1=some p.2/\H p.1=none/\p.1≠X.env.locals/\p.1 ∉ X.fs/\∀ v,p.2.data≠.cell v
 hok:HOk X.prog X.w H s.heap
 len:σ.length=X.N.length
section
variable {X:Cx} {pins:List (Addr×Obj)} {σ:List (Option V)} {H H':Hp} {s:Shared} {h':Heap}
theorem Cx.Ok.nofr (ok:X.Ok) {b:Addr} {o:Obj} (e:X.base.get? b=some o):b ∉ X.fs:=λhb=>by
 have:=(ok.funs.mem hb).1;rw [e] at this;cases this
theorem Inv.bs (I:Inv X pins σ H s):∀ b o,X.base.get? b=some o->s.heap.get? b=some o/\H b=none:=λb o e =>
 ⟨I.base.keep b o (I.ok.bs b o e).1 (I.ok.bs b o e).2 (I.ok.nofr e) (I.ok.noex b o e),I.base.free b o (I.ok.bs b o e).1 (I.ok.bs b o e).2 (I.ok.noex b o e)⟩
theorem Inv.bk (I:Inv X pins σ H s):∀ b o,X.base.get? b=some o->s.heap.get? b=some o:=λb o e=>(I.bs b o e).1
theorem Inv.mod (I:Inv X pins σ H s):Mod X.K X.mg X.base:=I.ok.mod
theorem Inv.kIn (I:Inv X pins σ H s):X.K.In s.heap:=I.ok.mod.kin.keeps I.bk
theorem Inv.lt (I:Inv X pins σ H s):X.env.locals < s.heap.objs.size:=let ⟨_,hn,_⟩:=I.loc;hn.lt
theorem Inv.sz (I:Inv X pins σ H s):X.s₀.heap.objs.size<=s.heap.objs.size:=Nat.le_trans I.ok.above (Nat.le_of_lt I.lt)
theorem Inv.nofs (I:Inv X pins σ H s) {a:Addr} (h:s.heap.objs.size<=a):a ∉ X.fs:=λhb=>by
 obtain ⟨_,o,ho,_⟩:=I.ok.funs.mem hb;exact absurd (Nat.lt_of_lt_of_le (Heap.lt_size ho) (Nat.le_trans I.sz h)) (Nat.lt_irrefl _)
theorem Inv.cne (I:Inv X pins σ H s):∀ x c,X.env.cells.lookup x=some c->c≠X.env.locals:=λx c e z=>by
 obtain ⟨v,o,ho,hd⟩:=I.cell x c e;obtain ⟨m,⟨o',es,ep,ho',hd',_⟩,_⟩:=I.loc;rw [z,ho'] at ho;cases ho;rw [hd'] at hd;cases hd
theorem Inv.funs (I:Inv X pins σ H s):s.heap.FunFrames X.base X.outer:=by
 have all:∀(l:List Env),(∀ b∈frs l,b∈X.fs)->X.s₀.heap.FunFrames X.base l->s.heap.FunFrames X.base l:=by
  intro l
  induction l with
  | nil=>intro _ _;trivial
  | cons env r ih =>
   intro hs hl;obtain ⟨hk,⟨L,o,hf,hn,ho,hd⟩,hr⟩:=hl;have hL:L∈X.fs:=hs L (by unfold frs;rw [List.filterMap_cons,hf];exact List.mem_cons_self);obtain ⟨sl,e⟩:=I.base.slot L o ho (I.ok.frf L hL) hL λz=>I.ok.exfs L z hL;exact ⟨hk,⟨L,_,hf,hn,e,hd⟩,ih (λb hb=>hs b (by unfold frs;rw [List.filterMap_cons,hf];exact List.mem_cons_of_mem _ hb)) hr⟩
 exact all X.outer (λ_ hb=>hb) I.ok.funs
theorem Inv.stack (I:Inv X pins σ H s):s.heap.FunFrames X.base X.stack:=by
 rcases I.ok.stk with e | ⟨e,hf⟩
 ·rw [e];exact I.funs
 ·rw [e];obtain ⟨m,hn,_⟩:=I.loc;refine .cons (by rw [I.ok.kind];decide) hf hn ?_ I.funs;exact Heap.get?_none_of_le (Nat.le_trans I.ok.bsz I.ok.above)
theorem Inv.stkSub (I:Inv X pins σ H s):∀ b∈frs X.stack,b∈X.env.locals::X.fs:=λb hb=>by
 rcases I.ok.stk with e | ⟨e,hf⟩
 ·rw [e] at hb;exact List.mem_cons_of_mem _ hb
 ·rw [e] at hb;unfold frs at hb;rw [List.filterMap_cons,hf] at hb;exact hb
theorem Inv.stkFree (I:Inv X pins σ H s):∀ b∈frs X.stack,H b=none:=λb hb=>by
 rcases List.mem_cons.mp (I.stkSub b hb) with e | hb
 ·rw [e];exact I.free
 ·obtain ⟨_,o,ho,_⟩:=I.ok.funs.mem hb;exact I.base.free b o ho (I.ok.frf b hb) λz=>I.ok.exfs b z hb
theorem Inv.step {g':Array GenState} {t':Nat} {d':Drawn} {ch:List Addr} (I:Inv X pins σ H s)
  (hch:∀ b∈ch,(b∈X.ex\/X.s₀.heap.objs.size<=b)/\b≠X.env.locals/\(∀ x c,X.env.cells.lookup x=some c->c≠b)/\∀ p∈X.pn++pins,p.1≠b)
  (keep:∀ b o,b≠X.env.locals->b ∉ X.fs->b ∉ ch->s.heap.get? b=some o->H b=none->h'.get? b=some o)
  (slot:∀ b o,b≠X.env.locals->b∈X.fs->b ∉ ch->s.heap.get? b=some o->H b=none->∃ sl,h'.get? b=some {o with slots:=sl}) (free:∀ b o,b ∉ ch->s.heap.get? b=some o->H b=none->H' b=none)
  (there:∀ b o,b ∉ ch->s.heap.get? b=some o->∃ o',h'.get? b=some o')
  (tups:∀ b xs,H b=some (.tup xs)->H' b=some (.tup xs)) (frzs:∀ b o u,H b=some (.frz o u)->H' b=some (.frz o u)) (tbls:∀ b ps,H b=some (.tbl ps)->∃ more,H' b=some (.tbl (ps++more)))
  (ns:∀ m,s.heap.Ns X.env.locals m->h'.Ns X.env.locals m) (hok:HOk X.prog X.w H' h') (hg:AllBare g') :
  Inv X pins σ H' {s with heap:=h',gens:=g',drawn:=d',toks:=t' }:=by
 have neL:∀ b o,X.s₀.heap.get? b=some o->b≠X.env.locals:=λb o e=>Nat.ne_of_lt (Nat.lt_of_lt_of_le (Heap.lt_size e) I.ok.above)
 have neC:∀ b o,X.s₀.heap.get? b=some o->b ∉ X.ex->b ∉ ch:=λb o e hx hb=>by
  rcases (hch b hb).1 with z | z
  ·exact hx z
  ·exact absurd (Nat.lt_of_lt_of_le (Heap.lt_size e) z) (Nat.lt_irrefl _)
 have cellK:∀ x c,X.env.cells.lookup x=some c->∀ v,s.heap.IsCell c v->h'.IsCell c v:=λx c e v ⟨o,ho,hd⟩=>by
  have nch:c ∉ ch:=λz=>(hch c z).2.2.1 x c e rfl
  by_cases hc:c∈X.fs
  ·obtain ⟨sl,q⟩:=slot c o (I.cne x c e) hc nch ho (I.freeC x c e);exact ⟨_,q,hd⟩
  ·exact ⟨o,keep c o (I.cne x c e) hc nch ho (I.freeC x c e),hd⟩
 refine ⟨I.ok,I.os,hg,⟨λb o e n hb hx=>?_,λb o e n hb hx=>?_,λb o e n hx=>?_,λb o e hx=>?_,λb xs e=>tups b xs (I.base.tups b xs e),λb o xs e=>frzs b o xs (I.base.frzs b o xs e),λb ps e=>?_⟩,?_,λx c e=>?_,?_,λx c e=>?_,λp hp=>?_,hok,I.len⟩
 ·exact keep b o (neL b o e) hb (neC b o e hx) (I.base.keep b o e n hb hx) (I.base.free b o e n hx)
 ·obtain ⟨sl,e1⟩:=I.base.slot b o e n hb hx;obtain ⟨sl',e2⟩:=slot b _ (neL b o e) hb (neC b o e hx) e1 (I.base.free b o e n hx);exact ⟨sl',e2⟩
 ·obtain ⟨o',e1⟩:=I.base.there b o e hx;exact free b o' (neC b o e hx) e1 (I.base.free b o e n hx)
 ·obtain ⟨o',e1⟩:=I.base.there b o e hx;exact there b o' (neC b o e hx) e1
 ·obtain ⟨m1,e1⟩:=I.base.tbls b ps e;obtain ⟨m2,e2⟩:=tbls b _ e1;exact ⟨m1++m2,by rw [e2,Array.append_assoc]⟩
 ·obtain ⟨m,hn,hl⟩:=I.loc;refine ⟨m,ns m hn,λi x v e1 e2 e3=>?_⟩;obtain ⟨u,r,l⟩:=hl i x v e1 e2 e3;refine ⟨u,r,?_⟩;rcases l with l | ⟨k,c,e,z⟩
  ·exact .inl l
  ·exact .inr ⟨k,c,e,cellK x c e _ z⟩
 ·obtain ⟨v,z⟩:=I.cell x c e;exact ⟨v,cellK x c e v z⟩
 ·obtain ⟨m,⟨o,_,_,ho,_⟩,_⟩:=I.loc;exact free _ o (λz=>(hch _ z).2.1 rfl) ho I.free
 ·obtain ⟨v,o,ho,hd⟩:=I.cell x c e;exact free c o (λz=>(hch c z).2.2.1 x c e rfl) ho (I.freeC x c e)
 ·obtain ⟨e,n,ne,nf,d⟩:=I.pin p hp;have nch:p.1 ∉ ch:=λz=>(hch p.1 z).2.2.2 p hp rfl;exact ⟨keep p.1 p.2 ne nf nch e n,free p.1 p.2 nch e n,ne,nf,d⟩
theorem Inv.un {t':Nat} (I:Inv X pins σ H s) (u:Un X.fs [] H H' s.heap h') (hok:HOk X.prog X.w H' h'):Inv X pins σ H' {s with heap:=h',toks:=t' }:=by
 obtain ⟨m,⟨o,es,ep,ho,r⟩,_⟩:=id I.loc;obtain ⟨sl,hL⟩:=u.any ho I.free (by simp)
 exact I.step (g':=s.gens) (d':=s.drawn) (ch:=[]) (λ_ z=>nomatch z) (λb o _ hb _ e n=>u.keep b o e n hb (by simp)) (λb o _ hb _ e n=>u.slot b o e n hb (by simp)) (λb o _ e n=>u.free b o e n (by simp)) (λb o _ e=>u.there b o e (by simp)) u.tups u.frzs u.tbls (λm' hm=>by
  obtain ⟨o',es',ep',ho',r'⟩:=hm;rw [ho] at ho';cases ho'
  exact ⟨_,es',ep',hL,r'⟩) hok I.bare
theorem Inv.call {g':Array GenState} {t':Nat} {d':Drawn} {ch:List Addr} (I:Inv X pins σ H s) (u:Un (frs X.stack) ch H H' s.heap h') (hok:HOk X.prog X.w H' h') (hg:AllBare g')
  (hch:∀ b∈ch,(b∈X.ex\/X.s₀.heap.objs.size<=b)/\b≠X.env.locals/\(∀ x c,X.env.cells.lookup x=some c->c≠b)/\∀ p∈X.pn++pins,p.1≠b) :
  Inv X pins σ H' {s with heap:=h',gens:=g',drawn:=d',toks:=t' }:=by
 obtain ⟨m,⟨o,es,ep,ho,r⟩,_⟩:=id I.loc;obtain ⟨sl,hL⟩:=u.any ho I.free λz=>(hch _ z).2.1 rfl
 exact I.step (ch:=ch) hch (λb o hL hb hc e n=>u.keep b o e n (λz=>(List.mem_cons.mp (I.stkSub b z)).elim hL hb) hc) (λb o _ _ hc e n=>u.any e n hc) (λb o hc e n=>u.free b o e n hc) (λb o hc e=>u.there b o e hc) u.tups u.frzs u.tbls (λm' hm=>by
  obtain ⟨o',es',ep',ho',r'⟩:=hm;rw [ho] at ho';cases ho'
  exact ⟨_,es',ep',hL,r'⟩) hok hg
theorem Inv.turned {t':Nat} {it:Addr} (I:Inv X pins σ H s) (k:∀ b o,b≠it->s.heap.get? b=some o->h'.get? b=some o) (hn:H it=none) (hL:it≠X.env.locals)
  (h1:it∈X.ex\/X.s₀.heap.objs.size<=it) (h2:∀ x c,X.env.cells.lookup x=some c->c≠it) (h3:∀ p∈X.pn++pins,p.1≠it):Inv X pins σ H {s with heap:=h',toks:=t' }:=by
 have nit:∀ b u,H b=some u->b≠it:=λb u e z=>by rw [z,hn] at e;cases e
 refine I.step (g':=s.gens) (d':=s.drawn) (ch:=[it]) (λb hb=>?_) (λb o _ _ hc e _=>k b o (λz=>hc (by simp [z])) e) (λb o _ _ hc e _=>⟨o.slots,k b o (λz=>hc (by simp [z])) e⟩) (λ_ _ _ _ n=>n)
  (λb o hc e=>⟨o,k b o (λz=>hc (by simp [z])) e⟩) (λ_ _ e=>e) (λ_ _ _ e=>e) (λb ps e=>⟨#[],by rw [e];simp⟩) (λm hm=>?_) (λb u e=>?_) I.bare
 ·have e:b=it:=by simpa using hb
  subst e;exact ⟨h1,hL,h2,h3⟩
 ·obtain ⟨o,es,ep,ho,r⟩:=hm;exact ⟨o,es,ep,k _ o (Ne.symm hL) ho,r⟩
 ·refine (I.hok b u e).stay (λc v hc q=>k c v ?_ q) (λ_ q=>q) λ_ _ q=>q;rcases hc with z | z
  ·rw [z];exact nit b u e
  ·exact nit c _ z
theorem Inv.tok (I:Inv X pins σ H s) (t:Nat):Inv X pins σ H {s with toks:=t}:=I.un (h':=s.heap) (t':=t) Un.refl I.hok
theorem Inv.kept {t':Nat} (I:Inv X pins σ H s) (k:∀ b u,s.heap.get? b=some u->h'.get? b=some u):Inv X pins σ H {s with heap:=h',toks:=t' }:=I.un (Un.kept k) (I.hok.kept k)
theorem Inv.laid {a:Addr} {o:HO} {t':Nat} (I:Inv X pins σ H s) (k:∀ b u,s.heap.get? b=some u->h'.get? b=some u) (hp:s.heap.objs.size<=a) (new:cq X.prog X.w (upd H a o) h' a o) :
  Inv X pins σ (upd H a o) {s with heap:=h',toks:=t' }:=I.un (Un.laid k hp (I.hok.fresh hp)) (I.hok.laid k hp new)
theorem Inv.write {x e:Addr} {o:HO} {t':Nat} (I:Inv X pins σ H s) (mu:Mut (H x)) (he:e=x\/H e=some (.own x)) (k:∀ b u,b≠e->s.heap.get? b=some u->h'.get? b=some u) (heo:∃ u,h'.get? e=some u)
  (new:cq X.prog X.w (upd H x o) h' x o):Inv X pins σ (upd H x o) {s with heap:=h',toks:=t' }:=I.un (Un.write mu he k heo) (I.hok.write mu he k heo new)
theorem Inv.pins_of {pins':List (Addr×Obj)} (I:Inv X pins σ H s) (h:∀ p∈pins',s.heap.get? p.1=some p.2/\H p.1=none/\p.1≠X.env.locals/\p.1 ∉ X.fs/\∀ v,p.2.data≠.cell v):Inv X pins' σ H s:=
 ⟨I.ok,I.os,I.bare,I.base,I.loc,I.cell,I.free,I.freeC,λp hp=>(List.mem_append.mp hp).elim (λz=>I.pin p (List.mem_append_left _ z)) (h p),I.hok,I.len⟩
theorem qr {N:List Str} (hN:N.Nodup) {i j:Nat} {x:Str} (a:N[i]?=some x) (b:N[j]?=some x):i=j:=by
 obtain ⟨h1,e1⟩:=List.getElem?_eq_some_iff.mp a;obtain ⟨h2,e2⟩:=List.getElem?_eq_some_iff.mp b;exact (List.getElem_inj hN).mp (e1.trans e2.symm)
theorem Az {M:Model} {A:Around} {E:Value->Shared->Prop} {i:Nat} {x:Str} {v:V} {u:Value} {Q:Unit->Shared->Prop} (I:Inv X pins σ H s) (hN:X.N.Nodup) (hi:X.N[i]?=some x) (hx:Loc X.env.scope x) (r:RelV v u)
  (h:∀ s',Inv X pins (σ.set i (some v)) H s'->(∃ a,Heap.SameBut a s.heap s'.heap/\(a=X.env.locals\/X.env.cells.lookup x=some a))->Q () s') (hf:X.fn x=true\/X.env.scope.names.lookup x=some .local:=by first | exact .inl rfl | exact .inr rfl | assumption):wpAny M A (storeName X.env x u) Q E s:=by
 obtain ⟨m,hn,hl⟩:=id I.loc;have hcls:(X.env.scope.kind == .class || (X.env.scope.kind == .module && X.env.locals != X.env.globals))=false:=by rw [I.ok.kind];rfl
 have hiσ:i < σ.length:=by rw [I.len];exact (List.getElem?_eq_some_iff.mp hi).1
 have cne:=I.cne
 have tracked:∀{a:Addr} {h':Heap},(∃ o,s.heap.get? a=some o/\H a=none)->Heap.SameBut a s.heap h'->HOk X.prog X.w H h':=λ{a h'} ha hs b ob e=>by
  obtain ⟨_,_,hfree⟩:=ha;refine (I.hok b ob e).stay (λc w' hc q=>(hs.2 c ?_).trans q) (λ_ q=>q) λ_ _ q=>q;rintro rfl
  rcases hc with rfl | hc
  ·rw [hfree] at e;cases e
  ·rw [hfree] at hc;cases hc
 rcases hx with hk | hk
 ·refine wpAny_storeName_local hk hn (λh' hn' hs=>?_) hcls;obtain ⟨oL,_,_,hoL,_⟩:=id hn;refine h _ ⟨I.ok,I.os,I.bare,⟨λb o e n hb hx=>?_,λb o e n hb hx=>?_,I.base.free,λb o e hx=>?_,I.base.tups,I.base.frzs,I.base.tbls⟩,⟨_,hn',λj y v' e1 e2 e3=>?_⟩,λy c e=>?_,I.free,I.freeC,λp hp=>?_,tracked ⟨oL,hoL,I.free⟩ hs,by simpa using I.len⟩ ⟨_,hs,.inl rfl⟩
  ·exact (hs.2 b (Nat.ne_of_lt (Nat.lt_of_lt_of_le (Heap.lt_size e) I.ok.above))).trans (I.base.keep b o e n hb hx)
  ·obtain ⟨sl,e1⟩:=I.base.slot b o e n hb hx;exact ⟨sl,(hs.2 b (Nat.ne_of_lt (Nat.lt_of_lt_of_le (Heap.lt_size e) I.ok.above))).trans e1⟩
  ·obtain ⟨o',e1⟩:=I.base.there b o e hx;exact ⟨o',(hs.2 b (Nat.ne_of_lt (Nat.lt_of_lt_of_le (Heap.lt_size e) I.ok.above))).trans e1⟩
  ·by_cases hj:j=i
   ·subst hj;rw [hi] at e1;cases e1
    rw [List.getElem?_set_self hiσ] at e2;cases e2
    exact ⟨u,r,.inl ⟨hk,by simp⟩⟩
   ·rw [List.getElem?_set_ne (Ne.symm hj)] at e2;obtain ⟨u',r',q⟩:=hl j y v' e1 e2 e3;refine ⟨u',r',?_⟩;rcases q with ⟨k,e⟩ | ⟨k,c,e,z⟩
    ·refine .inl ⟨k,?_⟩;have:y≠x:=λe=>hj (qr hN e1 (e ▸ hi));simp [this,e]
    ·exact .inr ⟨k,c,e,z.sameBut hs (cne y c e)⟩
  ·obtain ⟨w',z⟩:=I.cell y c e;exact ⟨w',z.sameBut hs (cne y c e)⟩
  ·obtain ⟨e,n,ne,nf,d⟩:=I.pin p hp;exact ⟨(hs.2 p.1 ne).trans e,n,ne,nf,d⟩
 ·have hfn:X.fn x=true:=by
   rcases hf with z | z
   ·exact z
   ·rw [z] at hk;cases hk
  obtain ⟨c,hc⟩:=I.ok.has x (.inl hk);obtain ⟨w',z⟩:=I.cell x c hc;refine wpAny_storeName_cell I.ok.kind hk hc z (λh' hc' hs=>?_);obtain ⟨oc,hoc,hocd⟩:=id z;refine h {s with heap:=h' } ⟨I.ok,I.os,I.bare,⟨λb o e n hb hx=>?_,λb o e n hb hx=>?_,I.base.free,λb o e hx=>?_,I.base.tups,I.base.frzs,I.base.tbls⟩,⟨m,hn.sameBut hs (Ne.symm (cne x c hc)),λj y v' e1 e2 e3=>?_⟩,λy c' e=>?_,I.free,I.freeC,λp hp=>?_,tracked ⟨oc,hoc,I.freeC x c hc⟩ hs,by simpa using I.len⟩ ⟨c,hs,.inr hc⟩
  ·exact (hs.2 b (Nat.ne_of_lt (Nat.lt_of_lt_of_le (Heap.lt_size e) (I.ok.cab x c hfn hc)))).trans (I.base.keep b o e n hb hx)
  ·obtain ⟨sl,e1⟩:=I.base.slot b o e n hb hx;exact ⟨sl,(hs.2 b (Nat.ne_of_lt (Nat.lt_of_lt_of_le (Heap.lt_size e) (I.ok.cab x c hfn hc)))).trans e1⟩
  ·obtain ⟨o',e1⟩:=I.base.there b o e hx;exact ⟨o',(hs.2 b (Nat.ne_of_lt (Nat.lt_of_lt_of_le (Heap.lt_size e) (I.ok.cab x c hfn hc)))).trans e1⟩
  ·by_cases hj:j=i
   ·subst hj;rw [hi] at e1;cases e1
    rw [List.getElem?_set_self hiσ] at e2;cases e2
    exact ⟨u,r,.inr ⟨.inl hk,c,hc,hc'⟩⟩
   ·rw [List.getElem?_set_ne (Ne.symm hj)] at e2;obtain ⟨u',r',q⟩:=hl j y v' e1 e2 e3;refine ⟨u',r',?_⟩;rcases q with q | ⟨k,c',e,z'⟩
    ·exact .inl q
    ·refine .inr ⟨k,c',e,z'.sameBut hs ?_⟩;rintro rfl
     exact hj (qr hN e1 (I.ok.inj _ _ _ e hc ▸ hi))
  ·by_cases hcc:c'=c
   ·subst hcc;exact ⟨_,hc'⟩
   ·obtain ⟨w2,z2⟩:=I.cell y c' e;exact ⟨w2,z2.sameBut hs hcc⟩
  ·obtain ⟨e,n,ne,nf,d⟩:=I.pin p hp;refine ⟨(hs.2 p.1 ?_).trans e,n,ne,nf,d⟩;intro q;rw [q,hoc] at e;have q':oc=p.2:=Option.some.inj e;exact d w' (by rw [<- q'];exact hocd)
theorem jK {M:Model} {A:Around} {E:Value->Shared->Prop} {i:Nat} {x:Str} {v:V} {u:Value} {Q:Unit->Shared->Prop} (I:Inv X pins σ H s) (hN:X.N.Nodup) (hi:X.N[i]?=some x) (hx:Loc X.env.scope x) (r:RelV v u)
  (h:∀ s',Inv X pins (σ.set i (some v)) H s'->Q () s') (hf:X.fn x=true\/X.env.scope.names.lookup x=some .local:=by first | exact .inl rfl | exact .inr rfl | assumption):wpAny M A (storeName X.env x u) Q E s:=
 Az I hN hi hx r (λs' I' _=>h s' I') hf
theorem Inv.call' {s':Shared} {ch:List Addr} (I:Inv X pins σ H s) (ho:s'.os=s.os) (u:Un (frs X.stack) ch H H' s.heap s'.heap) (hok:HOk X.prog X.w H' s'.heap) (hg:AllBare s'.gens)
  (hch:∀ b∈ch,(b∈X.ex\/X.s₀.heap.objs.size<=b)/\b≠X.env.locals/\(∀ x c,X.env.cells.lookup x=some c->c≠b)/\∀ p∈X.pn++pins,p.1≠b):Inv X pins σ H' s':=by
 obtain ⟨h',g',d',t',o'⟩:=s';have e:o'=s.os:=ho;subst e;exact I.call (g':=g') (t':=t') (d':=d') u hok hg hch
end
abbrev XK:=Value->Option Addr->Hp->Prop
abbrev St:=List (Option V)
abbrev VK:=V->Hp->Prop
abbrev TE:=St->Hp->VK->Prop
abbrev TT:=St->Hp->(Bool->Hp->Prop)->Prop
abbrev TA:=St->Hp->(List V->Hp->Prop)->Prop
structure Ends where
 nx:St->Hp->Prop
 rt:VK
 bk:St->Hp->Prop:=λ_ _=>False
 ct:St->Hp->Prop:=λ_ _=>False
abbrev TS:=Ends->St->Hp->Prop
def EP (X:Cx) (pins:List (Addr×Obj)) (σ:St) (Q:VK) (u:Value) (s':Shared):Prop:=∃ v H',Inv X pins σ H' s'/\RelV v u/\Q v H'
def TP (X:Cx) (pins:List (Addr×Obj)) (σ:St) (Q:Bool->Hp->Prop) (b:Bool) (s':Shared):Prop:=∃ H',Inv X pins σ H' s'/\Q b H'
def AP (X:Cx) (pins:List (Addr×Obj)) (σ:St) (Q:List V->Hp->Prop) (us:List Value) (s':Shared):Prop:=∃ vs H',Inv X pins σ H' s'/\Vals vs us/\Q vs H'
def SP (X:Cx) (pins:List (Addr×Obj)) (D:Ends) (f:Flow) (s':Shared):Prop:=
 match f with
 | .next=>∃ σ' H',Inv X pins σ' H' s'/\D.nx σ' H'
 | .brk=>∃ σ' H',Inv X pins σ' H' s'/\D.bk σ' H'
 | .cont=>∃ σ' H',Inv X pins σ' H' s'/\D.ct σ' H'
 | .ret u=>∃ v σ' H',Inv X pins σ' H' s'/\RelV v u/\D.rt v H'
def PE (X:Cx) (e:Expr) (t:TE):Prop:=
 ∀(pins:List (Addr×Obj)) (s:Shared) (σ:St) (H:Hp) (Q:VK),Inv X pins σ H s->t σ H Q->wpAny (model X.prog X.w) X.A (eval e X.env) (EP X pins σ Q) X.xe s
def PT (X:Cx) (e:Expr) (t:TT):Prop:=
 ∀(pins:List (Addr×Obj)) (s:Shared) (σ:St) (H:Hp) (Q:Bool->Hp->Prop),Inv X pins σ H s->t σ H Q->wpAny (model X.prog X.w) X.A (isTrue e X.env (eval e X.env)) (TP X pins σ Q) X.xe s
def PW (X:Cx) (e:Expr) (t:TT):Prop:=
 ∀(whole:Sem Value) (pins:List (Addr×Obj)) (s:Shared) (σ:St) (H:Hp) (Q:Bool->Hp->Prop),Inv X pins σ H s->t σ H Q->wpAny (model X.prog X.w) X.A (isTrue e X.env whole) (TP X pins σ Q) X.xe s
theorem PW.pt {X:Cx} {e:Expr} {t:TT} (h:PW X e t):PT X e t:=h _
def PA (X:Cx) (es:List Expr) (t:TA):Prop:=
 ∀(pos:Pos) (pins:List (Addr×Obj)) (s:Shared) (σ:St) (H:Hp) (Q:List V->Hp->Prop),Inv X pins σ H s->t σ H Q->wpAny (model X.prog X.w) X.A (spliced (backTo pos (starEach es X.env))) (AP X pins σ Q) X.xe s
def PS (X:Cx) (st:Stmt) (t:TS):Prop:=
 ∀(pins:List (Addr×Obj)) (s:Shared) (σ:St) (H:Hp) (D:Ends),Inv X pins σ H s->t D σ H->wpAny (model X.prog X.w) X.A (exec st X.env) (SP X pins D) X.xe s
def PSs (X:Cx) (st:List Stmt) (t:TS):Prop:=
 ∀(pins:List (Addr×Obj)) (s:Shared) (σ:St) (H:Hp) (D:Ends),Inv X pins σ H s->t D σ H->wpAny (model X.prog X.w) X.A (execs st X.env) (SP X pins D) X.xe s
theorem thn {α:Type} {t:Sem α} {Q Q':α->Shared->Prop} {M:Model} {A:Around} {E:Value->Shared->Prop} {s:Shared} (h:wpAny M A t Q E s) (hQ:∀ a s,Q a s->Q' a s):wpAny M A t Q' E s:=wpAny_mono h hQ λ_ _ x=>x
section
variable {X:Cx}
theorem bin {a b:Expr} {ta tb:TE} (ha:PE X a ta) (hb:PE X b tb) {pins:List (Addr×Obj)} {s:Shared} {σ:St} {H:Hp} {R:V->V->Hp->Prop} (I:Inv X pins σ H s) (h:ta σ H λx H1=>tb σ H1 λy H2=>R x y H2)
  {α:Type} {Q:α->Shared->Prop} {f:Value->Value->Sem α}
  (hf:∀ v u s2 x y H2,Inv X pins σ H2 s2->RelV x v->RelV y u->R x y H2->wpAny (model X.prog X.w) X.A (f v u) Q X.xe s2) :
  wpAny (model X.prog X.w) X.A (eval a X.env) (λv s₁=>wpAny (model X.prog X.w) X.A (eval b X.env) (λu s₂=>wpAny (model X.prog X.w) X.A (f v u) Q X.xe s₂) X.xe s₁) X.xe s:=by
 refine thn (ha pins s σ H _ I h) λv s1 zz=>?_;obtain ⟨x,H1,I1,r1,q1⟩:=zz;refine thn (hb pins s1 σ H1 _ I1 q1) λu s2 zz=>?_;obtain ⟨y,H2,I2,r2,q2⟩:=zz;exact hf v u s2 x y H2 I2 r1 r2 q2
inductive XtVar (i:Nat) (σ:St) (H:Hp) (Q:VK):Prop where
 | mk (v:V) (z_0:σ[i]?=some (some v)) (z_1:Q v H):XtVar i σ H Q
def tVar (i:Nat):TE:=λσ H Q=>XtVar i σ H Q
inductive XBl (x:V) (P:Bool->Prop):Prop where
 | mk (c:Bool) (e:x=.bl c) (q:P c):XBl x P
def tC (v:V):TE:=λ_ H Q=>Q v H
theorem Dt {i:Nat} {x:Str} {pos:Pos} (hN:X.N[i]?=some x) (hv:Vis X.env.scope x) (hd:(x == ("__debug__":Str))=false:=by decide) (hcd:(x == ("__classdict__":Str))=false:=by decide):PE X (.Name x pos) (tVar i):=by
 intro pins s σ H Q I h;obtain ⟨v,e,h⟩:=h;obtain ⟨m,hn,hl⟩:=I.loc;obtain ⟨u,r,l⟩:=hl i x v hN e hv;have fin:EP X pins σ Q u s:=⟨v,H,I,r,h⟩;rcases l with ⟨hk,hm⟩ | ⟨hk,c,hc,hcell⟩
 ·exact wpAny_Name (wpAny_loadName_local I.ok.kind hk hn hm fin) hd
 ·rcases hk with hk | hk
  ·exact wpAny_Name (wpAny_loadName_cell I.ok.kind hk hc hcell fin) hd
  ·exact wpAny_Name (wpAny_loadName_free I.ok.kind hk hc hcell fin hcd) hd
theorem ao {i j pos}:PE X (.Constant (.int i) j pos) (tC (.int i)):=λ_ _ _ H _ I h=>wpAny_Constant_int ⟨.int i,H,I.tok _,⟨_,rfl⟩,h⟩
theorem kR {b j pos}:PE X (.Constant (.bool b) j pos) (tC (.bl b)):=λ_ _ _ H _ I h=>Constant_bool ⟨.bl b,H,I,rfl,h⟩
theorem cI {j pos}:PE X (.Constant .none j pos) (tC .non):=λ_ _ _ H _ I h=>Constant_none ⟨.non,H,I,rfl,h⟩
theorem aR {x j pos}:PE X (.Constant (.str x) j pos) (tC (.str x)):=λ_ _ _ H _ I h=>Calls.Constant_str ⟨.str x,H,I.tok _,⟨_,rfl⟩,h⟩
def Gl (X:Cx) (x:Str):Prop:=X.env.kindOf x=some .globalImplicit
theorem gx {E:Value->Shared->Prop} {pins:List (Addr×Obj)} {s:Shared} {σ:St} {H:Hp} {x:Str} {u:Value} {pos:Pos} {Q:Value->Shared->Prop} (I:Inv X pins σ H s) (hg:Gl X x) (hm:X.mg x=some u) (h:Q u s)
  (hd:(x == ("__debug__":Str))=false:=by decide):wpAny (model X.prog X.w) X.A (eval (.Name x pos) X.env) Q E s:=
 Calls.Name_function_global I.ok.kind hg (Calls.loadGlobal_global (by rw [I.ok.glob];exact I.mod.glob.keeps I.bk) hm h) hd
theorem jX {E:Value->Shared->Prop} {pins:List (Addr×Obj)} {s:Shared} {σ:St} {H:Hp} {x:Str} {u:Value} {pos:Pos} {Q:Value->Shared->Prop} (I:Inv X pins σ H s) (hg:Gl X x) (hm:X.mg x=none) (hv:bootBuiltins x=some u) (h:Q u s)
  (hn:x≠"__name__":=by decide) (hd:(x == ("__debug__":Str))=false:=by decide):wpAny (model X.prog X.w) X.A (eval (.Name x pos) X.env) Q E s:=by
 obtain ⟨mb,h1,h2⟩:=I.mod.blt;exact Calls.Name_function_global I.ok.kind hg (Calls.loadGlobal_builtin (by rw [I.ok.glob];exact I.mod.glob.keeps I.bk) hm (by rw [I.ok.blt];exact h1.keeps I.bk) ((h2 x hn).trans hv) h) hd
theorem bV {x:Str} {v:V} {u:Value} {pos:Pos} (hg:Gl X x) (hm:X.mg x=some u) (r:RelV v u) (hd:(x == ("__debug__":Str))=false:=by decide):PE X (.Name x pos) (tC v):=
 λ_ _ _ H _ I h=>gx I hg hm ⟨v,H,I,r,h⟩ hd
theorem pE {x:Str} {v:V} {u:Value} {pos:Pos} (hg:Gl X x) (hm:X.mg x=none) (hv:bootBuiltins x=some u) (r:RelV v u) (hn:x≠"__name__":=by decide) (hd:(x == ("__debug__":Str))=false:=by decide):PE X (.Name x pos) (tC v):=
 λ_ _ _ H _ I h=>jX I hg hm hv ⟨v,H,I,r,h⟩ hn hd
variable {a b:Expr} {ta tb:TE} {pos:Pos}
def PC (X:Cx) (op:CmpOp) (a b:Expr) (t:TE):Prop:=
 ∀(
  pins:List (Addr×Obj)) (s:Shared) (σ:St) (H:Hp) (Q:VK),Inv X pins σ H s->t σ H Q->
  wpAny (model X.prog X.w) X.A (eval a X.env) (λv s₁=>wpAny (model X.prog X.w) X.A (eval b X.env) (λu s₂=>wpAny (model X.prog X.w) X.A (compareOp op v u) (EP X pins σ Q) X.xe s₂) X.xe s₁) X.xe s
def tB (t:TE):TT:=λσ H Q=>t σ H λx H1=>XBl x λc=>Q c H1
theorem pt_cmp {op:CmpOp} {t:TE} (h:PC X op a b t) (h1:behindInMarks op b=false:=by first | exact nobehind _ (by decide) (by decide) | rfl):PT X (.Compare a [op] [b] pos) (tB t):=by
 intro pins s σ H Q I hw;refine wpAny_isTrue_Compare1 (thn (h pins s σ H _ I hw) λv s1 h1=>thn h1 λu s2 h2=>thn h2 λc s3 zz=>?_) h1;obtain ⟨x,H1,I1,r1,q1⟩:=zz;obtain ⟨d,rfl,q⟩:=q1;cases r1
 exact wpAny_truthy_bool ⟨H1,I1,q⟩
theorem iH {e:Expr} {t:TE} (h:PE X e t) (he:∀ whole,isTrue e X.env whole=(do let v <- whole;standAt e.pos;holding [v] (truthy v)):=by intro _;rfl):PT X e (tB t):=by
 intro pins s σ H Q I hw;refine isTrue_plain (thn (h pins s σ H _ I hw) λv s1 zz=>?_) (he _);obtain ⟨x,H1,I1,r1,q1⟩:=zz;obtain ⟨d,rfl,q⟩:=q1;cases r1
 exact wpAny_truthy_bool ⟨H1,I1,q⟩
variable {tA tB':TT} {rest:List Expr}
def tAnd (t u:TT):TT:=λσ H Q=>t σ H λc H1=>if c=true then u σ H1 Q else Q false H1
def tOr (t u:TT):TT:=λσ H Q=>t σ H λc H1=>if c=true then Q true H1 else u σ H1 Q
def tNot (t:TT):TT:=λσ H Q=>t σ H λc H1=>Q (!c) H1
theorem zF (ha:PT X a tA):PW X (.BoolOp .And [a] pos) tA:=by
 intro wh pins s σ H Q I h;refine isTrue_and (thn (ha pins s σ H Q I h) λc s1 e=>?_);cases c with
 | true=>exact isTrue_and_nil e
 | false=>exact e
theorem tM (ha:PT X a tA):PW X (.BoolOp .Or [a] pos) tA:=by
 intro wh pins s σ H Q I h;refine isTrue_or (thn (ha pins s σ H Q I h) λc s1 e=>?_);cases c with
 | false=>exact isTrue_or_nil e
 | true=>exact e
theorem xO (ha:PT X a tA) (hb:PW X (.BoolOp .And (b::rest) pos) tB'):PW X (.BoolOp .And (a::b::rest) pos) (tAnd tA tB'):=by
 intro wh pins s σ H Q I h;refine isTrue_and (thn (ha pins s σ H _ I h) λc s1 zz=>?_);obtain ⟨H1,I1,q1⟩:=zz;cases c with
 | true=>exact hb wh pins s1 σ H1 Q I1 q1
 | false=>exact ⟨H1,I1,q1⟩
theorem zE (ha:PT X a tA) (hb:PW X (.BoolOp .Or (b::rest) pos) tB'):PW X (.BoolOp .Or (a::b::rest) pos) (tOr tA tB'):=by
 intro wh pins s σ H Q I h;refine isTrue_or (thn (ha pins s σ H _ I h) λc s1 zz=>?_);obtain ⟨H1,I1,q1⟩:=zz;cases c with
 | true=>exact ⟨H1,I1,q1⟩
 | false=>exact hb wh pins s1 σ H1 Q I1 q1
theorem tN (ha:PT X a tA):PT X (.UnaryOp .Not a pos) (tNot tA):=by
 intro pins s σ H Q I h;exact isTrue_not (ha pins s σ H (λc H1=>Q (!c) H1) I h)
def tAndV (ta tb:TE):TE:=λσ H Q=>ta σ H λx H1=>XBl x λc=>if c=true then tb σ H1 Q else Q (.bl false) H1
def tNotV (ta:TE):TE:=λσ H Q=>ta σ H λx H1=>XBl x λc=>Q (.bl (!c)) H1
theorem xP {op} {t:TE} (h:PE X a t):PE X (.BoolOp op [a] pos) t:=λpins s σ H Q I hw=>BoolOp_one (h pins s σ H Q I hw)
theorem tW (ha:PE X a ta) (hb:PE X (.BoolOp .And (b::rest) pos) tb):PE X (.BoolOp .And (a::b::rest) pos) (tAndV ta tb):=by
 intro pins s σ H Q I h;refine BoolOp_and (thn (ha pins s σ H _ I h) λv s1 zz=>?_);obtain ⟨x,H1,I1,r1,q1⟩:=zz;obtain ⟨c,rfl,q1⟩:=q1;cases r1
 refine wpAny_truthy_bool ?_;cases c with
 | true=>exact hb pins s1 σ H1 Q I1 q1
 | false=>exact ⟨.bl false,H1,I1,rfl,q1⟩
theorem pe_not (ha:PE X a ta):PE X (.UnaryOp .Not a pos) (tNotV ta):=by
 intro pins s σ H Q I h;refine UnaryOp_ (thn (ha pins s σ H _ I h) λv s1 zz=>?_);obtain ⟨x,H1,I1,r1,q1⟩:=zz;obtain ⟨c,rfl,q1⟩:=q1;cases r1
 exact not_of (wpAny_truthy_bool ⟨.bl (!c),H1,I1,rfl,q1⟩)
def tIf (t:TT) (ta tb:TE):TE:=λσ H Q=>t σ H λc H1=>if c=true then ta σ H1 Q else tb σ H1 Q
theorem jV {c:Expr} (hc:PT X c tA) (ha:PE X a ta) (hb:PE X b tb):PE X (.IfExp c a b pos) (tIf tA ta tb):=by
 intro pins s σ H Q I h;refine wpAny_IfExp (thn (hc pins s σ H _ I h) λd s1 zz=>?_);obtain ⟨H1,I1,q1⟩:=zz;cases d with
 | true=>exact ha pins s1 σ H1 Q I1 q1
 | false=>exact hb pins s1 σ H1 Q I1 q1
end
def SqL (K:W.Frag) (H:Hp) (a:Addr) (xs:List V):Prop:=
 Rd H a (.lst xs)\/
  ∃(o:Obj) (its:Array Value) (n:Nat),K.lookup a=some o/\o.cls=.type "list"/\o.dict=none/\o.data=.seq its n/\its.size<=sizeLine/\Vals xs its.toList
def SqT (K:W.Frag) (H:Hp) (a:Addr) (xs:List V):Prop:=
 Rd H a (.tup xs)\/
  ∃(o:Obj) (its:Array Value) (n:Nat),K.lookup a=some o/\o.cls=.type "tuple"/\o.data=.seq its n/\its.size<=sizeLine/\Vals xs its.toList
def absV:Value->Option V
 | .none=>some .non
 | .bool b=>some (.bl b)
 | .int i _=>some (.int i)
 | .str x _=>some (.str x)
 | .bytes b _=>some (.byt b)
 | .float b _=>some (.flt b)
 | .ref a=>some (.ref a)
 | .type n=>some (.ty n)
 | _=>none
theorem RelV.abs {x:V} {u:Value} (r:RelV x u):absV u=some x:=by
 cases x with
 | non=>cases r;rfl
 | bl _=>cases r;rfl
 | int _=>obtain ⟨t,rfl⟩:=r;rfl
 | str _=>obtain ⟨t,rfl⟩:=r;rfl
 | byt _=>obtain ⟨t,rfl⟩:=r;rfl
 | flt _=>obtain ⟨t,rfl⟩:=r;rfl
 | ref _=>cases r;rfl
 | ty _=>cases r;rfl
theorem RelV.inj {x y:V} {u:Value} (r:RelV x u) (q:RelV y u):x=y:=Option.some.inj (r.abs.symm.trans q.abs)
theorem Vals.inj:∀{xs ys:List V} {us:List Value},Vals xs us->Vals ys us->xs=ys
 | _,_,_,.nil,.nil=>rfl
 | _,_,_,.cons r t,.cons r' t'=>by rw [r.inj r',Vals.inj t t']
section
variable {X:Cx} {pins:List (Addr×Obj)} {σ:St} {H:Hp} {s:Shared} {a:Addr} {xs ys:List V}
theorem SqL.of {K:W.Frag} (h:H a=some (.lst xs)):SqL K H a xs:=.inl (.inl h)
theorem SqT.of {K:W.Frag} (h:H a=some (.tup xs)):SqT K H a xs:=.inl (.inl h)
theorem Inv.list (I:Inv X pins σ H s) (h:SqL X.K H a xs):∃ its:List Value,Vals xs its/\PlainL s.heap a its.toArray/\xs.length<=sizeLine:=by
 rcases h with h | ⟨o,its,n,hk,hc,hd,hs,hz,r⟩
 ·obtain ⟨z,its,n,r,e⟩:=h.ok I.hok;exact ⟨its,r,⟨_,n,e,rfl,rfl,rfl⟩,z⟩
 ·refine ⟨its.toList,r,⟨o,n,I.kIn a o hk,hc,hd,by simpa using hs⟩,?_⟩;have e:=r.length;simp only [Array.length_toList] at e;omega
theorem Inv.tuple (I:Inv X pins σ H s) (h:SqT X.K H a xs):∃ its:List Value,Vals xs its/\IsTup s.heap a its.toArray/\xs.length<=sizeLine:=by
 rcases h with h | ⟨o,its,n,hk,hc,hs,hz,r⟩
 ·obtain ⟨z,its,r,p⟩:=h.ok I.hok;exact ⟨its,r,p,z⟩
 ·refine ⟨its.toList,r,⟨o,I.kIn a o hk,hc,n,by simpa using hs⟩,?_⟩;have e:=r.length;simp only [Array.length_toList] at e;omega
theorem Inv.list_inj (I:Inv X pins σ H s) (h:SqL X.K H a xs) (h':SqL X.K H a ys):xs=ys:=by
 obtain ⟨its,r,⟨o,n,e,_,_,d⟩,_⟩:=I.list h;obtain ⟨its',r',⟨o',n',e',_,_,d'⟩,_⟩:=I.list h';rw [e] at e';cases e'
 rw [d] at d';injection d' with d1 _
 have:its=its':=by simpa using congrArg Array.toList d1
 subst this;exact r.inj r'
theorem Inv.tuple_inj (I:Inv X pins σ H s) (h:SqT X.K H a xs) (h':SqT X.K H a ys):xs=ys:=by
 obtain ⟨its,r,⟨o,e,_,n,d⟩,_⟩:=I.tuple h;obtain ⟨its',r',⟨o',e',_,n',d'⟩,_⟩:=I.tuple h';rw [e] at e';cases e'
 rw [d] at d';injection d' with d1 _
 have:its=its':=by simpa using congrArg Array.toList d1
 subst this;exact r.inj r'
end
abbrev Cx.wish (X:Cx) (E:Value->Shared->Prop):Cx:={X with xe:=E}
abbrev Cx.nox (X:Cx):Cx:=X.wish λ_ _=>False
theorem Cx.Ok.wish {X:Cx} (ok:X.Ok) (E:Value->Shared->Prop):(X.wish E).Ok:=
 ⟨ok.mod,ok.kind,ok.glob,ok.blt,ok.above,ok.inj,ok.has,ok.cab,ok.hd,ok.frames,ok.stk,ok.exf,ok.bs,ok.bsz,ok.noex,ok.exfs,ok.funs,ok.frf⟩
theorem Cx.Ok.unwish {X:Cx} {E:Value->Shared->Prop} (ok:(X.wish E).Ok):X.Ok:=
 ⟨ok.mod,ok.kind,ok.glob,ok.blt,ok.above,ok.inj,ok.has,ok.cab,ok.hd,ok.frames,ok.stk,ok.exf,ok.bs,ok.bsz,ok.noex,ok.exfs,ok.funs,ok.frf⟩
section
variable {X:Cx} {pins:List (Addr×Obj)} {σ:St} {H:Hp} {s:Shared} {E:Value->Shared->Prop}
theorem Inv.wish (I:Inv X pins σ H s) (E:Value->Shared->Prop):Inv (X.wish E) pins σ H s:=⟨I.ok.wish E,I.os,I.bare,I.base,I.loc,I.cell,I.free,I.freeC,I.pin,I.hok,I.len⟩
theorem Inv.unwish (I:Inv (X.wish E) pins σ H s):Inv X pins σ H s:=⟨I.ok.unwish,I.os,I.bare,I.base,I.loc,I.cell,I.free,I.freeC,I.pin,I.hok,I.len⟩
theorem SP.unwish {D:Ends} {f:Flow} {s':Shared} (h:SP (X.wish E) pins D f s'):SP X pins D f s':=by
 cases f with
 | next=>obtain ⟨σ',H',I,q⟩:=h;exact ⟨σ',H',I.unwish,q⟩
 | brk=>obtain ⟨σ',H',I,q⟩:=h;exact ⟨σ',H',I.unwish,q⟩
 | cont=>obtain ⟨σ',H',I,q⟩:=h;exact ⟨σ',H',I.unwish,q⟩
 | ret u=>obtain ⟨v,σ',H',I,r,q⟩:=h;exact ⟨v,σ',H',I.unwish,r,q⟩
theorem PSs.nox {st:List Stmt} {t:TS} (h:PSs X.nox st t):PSs X st t:=λpins s σ H D I hw =>
 wpAny_mono (h pins s σ H D (I.wish _) hw) (λ_ _ q=>q.unwish) λ_ _ z=>False.elim z
end
section
variable {X:Cx} {st:Stmt} {rest:List Stmt} {t u:TS} {e:Expr} {te:TE} {pos:Pos}
def yV:TS:=λD σ H=>D.nx σ H
def Ax (t u:TS):TS:=λD σ H=>t {D with nx:=u D} σ H
theorem av:PSs X [] yV:=λ_ _ σ H _ I h=>wpAny_execs_nil ⟨σ,H,I,h⟩
theorem ae (h1:PS X st t) (h2:PSs X rest u):PSs X (st::rest) (Ax t u):=by
 intro pins s σ H D I h;refine wpAny_execs_cons (thn (h1 pins s σ H {D with nx:=u D} I h) λf s1 q=>?_)
 cases f with
 | next =>
  obtain ⟨σ',H',I',q⟩:=q;exact h2 pins s1 σ' H' D I' q
 | ret v=>exact q
 | brk=>exact q
 | cont=>exact q
theorem aq (h1:PS X st t):PSs X [st] t:=by
 intro pins s σ H D I h;refine wpAny_execs_cons (thn (h1 pins s σ H D I h) λf s1 q=>?_);cases f with
 | next=>exact wpAny_execs_nil q
 | ret v=>exact q
 | brk=>exact q
 | cont=>exact q
theorem Inv.quiet {pins:List (Addr×Obj)} {σ:St} {H:Hp} {s:Shared} (I:Inv X pins σ H s):interactive X.env=false:=by simp [interactive,I.ok.kind]
def tDrop (te:TE):TS:=λD σ H=>te σ H λ_ H1=>D.nx σ H1
theorem aZ (he:PE X e te) (hs:swapsWith e none pos.line X.env=pure false:=by rfl):PS X (.Expr e pos) (tDrop te):=by
 intro pins s σ H D I h;refine wpAny_Expr_any (thn (he pins s σ H _ I h) λv s1 zz=>?_) I.quiet hs;obtain ⟨x,H1,I1,r1,q1⟩:=zz;exact ⟨σ,H1,I1,q1⟩
def Ay (te:TE):TS:=λD σ H=>te σ H D.rt
theorem aD (he:PE X e te):PS X (.Return (some e) pos) (Ay te):=by
 intro pins s σ H D I h;refine wpAny_Return_some (thn (he pins s σ H _ I h) λv s1 zz=>?_);obtain ⟨x,H1,I1,r1,q1⟩:=zz;exact ⟨x,σ,H1,I1,r1,q1⟩
def tIfS (c:TT) (t u:TS):TS:=λD σ H=>c σ H λb H1=>if b=true then t D σ H1 else u D σ H1
theorem aJ {c:Expr} {a b:List Stmt} {tc:TT} (hc:PT X c tc) (ha:PSs X a t) (hb:PSs X b u):PS X (.If c a b pos) (tIfS tc t u):=by
 intro pins s σ H D I h;refine wpAny_If (thn (hc pins s σ H _ I h) λd s1 zz=>?_);obtain ⟨H1,I1,q1⟩:=zz;cases d with
 | true=>exact ha pins s1 σ H1 D I1 q1
 | false=>exact hb pins s1 σ H1 D I1 q1
def tNever:TS:=λ_ _ _=>False
theorem vP:PS X st tNever:=λ_ _ _ _ _ _ h=>h.elim
end
abbrev TG:=V->St->Hp->(St->Hp->Prop)->Prop
abbrev TGs:=List V->St->Hp->(St->Hp->Prop)->Prop
def PG (X:Cx) (target:Expr) (t:TG):Prop:=
 ∀(
  pins:List (Addr×Obj)) (s:Shared) (σ:St) (H:Hp) (v:V) (u:Value) (Q:St->Hp->Prop),Inv X pins σ H s->RelV v u->t v σ H Q->
  wpAny (model X.prog X.w) X.A (assign target X.env u) (λ_ s'=>∃ σ' H',Inv X pins σ' H' s'/\Q σ' H') X.xe s
def PGs (X:Cx) (ts:List Expr) (t:TGs):Prop:=
 ∀(
  pins:List (Addr×Obj)) (s:Shared) (σ:St) (H:Hp) (vs:List V) (us:List Value) (Q:St->Hp->Prop),Inv X pins σ H s->Vals vs us->t vs σ H Q->
  wpAny (model X.prog X.w) X.A (assignInOrder ((assignEach ts X.env).map (·.2)) us) (λ_ s'=>∃ σ' H',Inv X pins σ' H' s'/\Q σ' H') X.xe s
abbrev TIp:=V->V->Hp->VK->Prop
def PIp (X:Cx) (op:Operator) (t:TIp):Prop:=
 ∀(
  pins:List (Addr×Obj)) (s:Shared) (σ:St) (H:Hp) (x y:V) (v u:Value) (Q:VK),Inv X pins σ H s->RelV x v->RelV y u->t x y H Q->
  wpAny (model X.prog X.w) X.A (inplaceOp op v u) (EP X pins σ Q) X.xe s
section
variable {X:Cx} {pos:Pos}
def ip (i:Nat):TG:=λv σ H Q=>Q (σ.set i (some v)) H
theorem aV {i:Nat} {x:Str} (hN:X.N.Nodup) (hi:X.N[i]?=some x) (hx:Loc X.env.scope x) (hf:X.fn x=true\/X.env.scope.names.lookup x=some .local:=by first | exact .inl rfl | exact .inr rfl | assumption):PG X (.Name x pos) (ip i):=by
 intro pins s σ H v u Q I r h;exact wpAny_assign_Name (jK I hN hi hx r (λs' I'=>⟨_,H,I',h⟩) hf)
def gNil:TGs:=λvs σ H Q=>vs=[]/\Q σ H
def qK (t:TG) (u:TGs):TGs:=λvs σ H Q=>∃ v r,vs=v::r/\t v σ H λσ' H'=>u r σ' H' Q
theorem fD:PGs X [] gNil:=by
 intro pins s σ H vs us Q I r h;obtain ⟨e,h⟩:=h;subst e;cases r
 exact assignInOrder_nil ⟨σ,H,I,h⟩
theorem bE {e:Expr} {es:List Expr} {t:TG} {u:TGs} (h1:PG X e t) (h2:PGs X es u)
  (hs:(assignEach (e::es) X.env).map (·.2)=assign e X.env::(assignEach es X.env).map (·.2):=by rfl):PGs X (e::es) (qK t u):=by
 intro pins s σ H vs us Q I r h;obtain ⟨v,vr,e1,h⟩:=h;subst e1;cases r with
 | cons r rr =>
  rw [hs];refine assignInOrder_cons (thn (h1 pins s σ H _ _ _ I r h) λ_ s1 zz=>?_);obtain ⟨σ1,H1,I1,q1⟩:=zz;exact h2 pins s1 σ1 H1 _ _ Q I1 rr q1
def Ew (K:W.Frag) (n:Nat) (t:TGs):TG:=λv σ H Q=>∃ a xs,v=.ref a/\SqT K H a xs/\xs.length=n/\t xs σ H Q
theorem qm {es:List Expr} {k:Nat} {t:TGs} {n:Nat} (hc:X.calm=true) (h:PGs X es t)
  (hn:(assignEach es X.env).length=n:=by rfl) (hst:(assignEach es X.env).findIdx? (·.1)=none:=by rfl):PG X (.Tuple es k pos) (Ew X.K n t):=by
 intro pins s σ H v u Q I r hw;obtain ⟨a,xs,e1,hq,hl,hw⟩:=hw;subst e1;cases r
 obtain ⟨its,rv,ht,hz⟩:=I.tuple hq;refine assign_Tuple_tuple (I.ok.hd hc) ht (by simp [hn,<- hl,rv.length]) hst λh' hx=>?_;have I1:Inv X pins σ H {s with heap:=h' }:=I.kept (t':=s.toks) λb o e=>hx b o (Nat.ne_of_lt (Heap.lt_size e)) e
 exact h pins _ σ H xs _ Q I1 (by simpa using rv) hw
def tAsg (te:TE) (g:TG):TS:=λD σ H=>te σ H λx H1=>g x σ H1 D.nx
theorem aG {i:Nat} {x:Str} {e:Expr} {te:TE} {pos':Pos} (hN:X.N.Nodup) (hi:X.N[i]?=some x) (hx:Loc X.env.scope x) (he:PE X e te) (hs:swapsWith e (some (.Name x pos')) pos.line X.env=pure false:=by rfl) (hf:X.fn x=true\/X.env.scope.names.lookup x=some .local:=by first | exact .inl rfl | exact .inr rfl | assumption) :
  PS X (.Assign [.Name x pos'] e pos) (tAsg te (ip i)):=by
 intro pins s σ H D I h;refine wpAny_Assign_Name (thn (he pins s σ H _ I h) λv s1 zz=>?_) hs;obtain ⟨y,H1,I1,r1,q1⟩:=zz;exact jK I1 hN hi hx r1 (λs2 I2=>⟨_,H1,I2,q1⟩) hf
def tAug (i:Nat) (te:TE) (ti:TIp):TS:=λD σ H=>∃ x,σ[i]?=some (some x)/\te σ H λy H1=>ti x y H1 λz H2=>D.nx (σ.set i (some z)) H2
theorem ps_aug {i:Nat} {x:Str} {e:Expr} {te:TE} {op:Operator} {ti:TIp} {pos':Pos} (hN:X.N.Nodup) (hi:X.N[i]?=some x) (hx:Loc X.env.scope x) (he:PE X e te) (ho:PIp X op ti) (hf:X.fn x=true\/X.env.scope.names.lookup x=some .local:=by first | exact .inl rfl | exact .inr rfl | assumption) :
  PS X (.AugAssign (.Name x pos') op e pos) (tAug i te ti):=by
 intro pins s σ H D I h;obtain ⟨v,e1,h⟩:=h;obtain ⟨m,hn,hl⟩:=I.loc;have vis:Vis X.env.scope x:=by rcases hx with k | k;exact .inl k;exact .inr (.inl k)
 obtain ⟨u,r,l⟩:=hl i x v hi e1 vis;refine wpAny_AugAssign_Name ?_
 have go:wpAny (model X.prog X.w) X.A (eval e X.env) (λw s₂=>wpAny (model X.prog X.w) X.A (inplaceOp op u w) (λr s₃=>wpAny (model X.prog X.w) X.A (storeName X.env x r) (λ_=>SP X pins D .next) X.xe s₃) X.xe s₂) X.xe s:=by
  refine thn (he pins s σ H _ I h) λw s1 zz=>?_;obtain ⟨y,H1,I1,r1,q1⟩:=zz;refine thn (ho pins s1 σ H1 v y u w _ I1 r r1 q1) λz s2 zz=>?_;obtain ⟨zv,H2,I2,r2,q2⟩:=zz;exact jK I2 hN hi hx r2 (λs3 I3=>⟨_,H2,I3,q2⟩) hf
 rcases l with ⟨hk,hm⟩ | ⟨hk,c,hc,hcell⟩
 ·exact wpAny_loadName_local I.ok.kind hk hn hm go
 ·rcases hk with hk | hk
  ·exact wpAny_loadName_cell I.ok.kind hk hc hcell go
  ·rcases hx with k | k
   ·have:X.env.scope.names.lookup x=some .free:=hk;rw [k] at this;cases this
   ·have:X.env.scope.names.lookup x=some .free:=hk;rw [k] at this;cases this
def ipI (f:Int->Int->Int):TIp:=λx y H Q=>∃ i j,x=.int i/\y=.int j/\Q (.int (f i j)) H
theorem ip_add:PIp X .Add (ipI λi j=>i+j):=by
 intro pins s σ H x y v u Q I r1 r2 h;obtain ⟨i,j,e1,e2,q⟩:=h;subst e1;subst e2;obtain ⟨t,rfl⟩:=r1;obtain ⟨t',rfl⟩:=r2;exact iadd_int ⟨.int _,H,I.tok _,⟨_,rfl⟩,q⟩
end
section
variable {X:Cx} {pos:Pos}
def tWhile (c:TT) (tb:TS):TS:=λD σ H=>∃ W:Nat->St->Hp->Prop,(∃ m,W m σ H)/\∀ m σ H,W m σ H->
 c σ H λb H1=>if b=true then ∃ N:St->Hp->Prop,(∀ σ' H',N σ' H'->∃ m',m' < m/\W m' σ' H')/\tb {D with nx:=N,ct:=N,bk:=D.nx} σ H1 else D.nx σ H1
theorem mr {c:Expr} {body:List Stmt} {tc:TT} {tb:TS} (hp:PassesOwn (model X.prog X.w) X.A X.env X.xe) (hc:PT X c tc) (hb:PSs X body tb):PS X (.While c body [] pos) (tWhile tc tb):=by
 intro pins s σ H D I h;obtain ⟨W,⟨m0,w0⟩,turn⟩:=h;refine wpAny_While (codeAny_whileLoop (λn s'=>∃ σ' H',Inv X pins σ' H' s'/\W n σ' H') ?_ m0 ⟨σ,H,I,w0⟩);rintro n s1 ⟨σ1,H1,I1,w1⟩
 refine wpAny_passesOwn hp (thn (hc pins s1 σ1 H1 _ I1 (turn n σ1 H1 w1)) λb s2 zz=>?_);obtain ⟨H2,I2,q2⟩:=zz;cases b with
 | true =>
  obtain ⟨N,hN,q2⟩:=q2;rw [if_pos rfl];refine wpAny_passesOwn hp (thn (hb pins s2 σ1 H2 _ I2 q2) λf s3 q3=>?_);cases f with
  | next =>
   obtain ⟨σ3,H3,I3,n3⟩:=q3;obtain ⟨m',hm,w3⟩:=hN σ3 H3 n3;exact ⟨m',hm,σ3,H3,I3,w3⟩
  | cont =>
   obtain ⟨σ3,H3,I3,n3⟩:=q3;obtain ⟨m',hm,w3⟩:=hN σ3 H3 n3;exact ⟨m',hm,σ3,H3,I3,w3⟩
  | brk=>exact q3
  | ret v=>exact q3
 | false =>
  rw [if_neg Bool.false_ne_true];exact wpAny_execs_nil ⟨σ1,H2,I2,q2⟩
end
structure It where
 go:Nat->Hp->Prop
 yld:Nat->Hp->V->Hp->Prop
 stop:Nat->Hp->Prop
def jg (X:Cx) (pins:List (Addr×Obj)) (H:Hp) (b:Addr):Prop:=
 H b=none/\b≠X.env.locals/\b ∉ X.fs/\(b∈X.ex\/X.s₀.heap.objs.size<=b)/\(∀ x c,X.env.cells.lookup x=some c->c≠b)/\∀ p∈X.pn++pins,p.1≠b
theorem Inv.fpOk {X:Cx} {pins:List (Addr×Obj)} {σ:St} {H H':Hp} {s:Shared} {b:Addr} (I:Inv X pins σ H s) (hb:s.heap.objs.size<=b) (hn:H' b=none):jg X pins H' b:=by
 refine ⟨hn,Nat.ne_of_gt (Nat.lt_of_lt_of_le I.lt hb),I.nofs hb,.inr (Nat.le_trans I.sz hb),λx c e z=>?_,λp hp z=>?_⟩
 ·obtain ⟨v,q⟩:=I.cell x c e;exact absurd (Nat.lt_of_lt_of_le q.lt (by rw [z];exact hb)) (Nat.lt_irrefl _)
 ·exact absurd (Nat.lt_of_lt_of_le (Heap.lt_size (I.pin p hp).1) (by rw [z];exact hb)) (Nat.lt_irrefl _)
structure Turn (P:Program) (w:World) (K:W.Frag) (tg:Expr) (J:It) (fp:List Addr) (it:Addr) (tn:Nat->Heap->Prop):Prop where
 mem:it∈fp
 obj:∀ i h,tn i h->∀ b∈fp,∃ o,h.get? b=some o/\∀ v,o.data≠.cell v
 keep:∀ i h h',tn i h->(∀ b∈fp,∀ o,h.get? b=some o->h'.get? b=some o)->tn i h'
 item:∀(X:Cx),X.prog=P->X.w=w->X.K=K->X.calm=true->∀(i:Nat) (pins:List (Addr×Obj)) (s:Shared) (σ:St) (H:Hp) (E:Value->Shared->Prop),Inv X pins σ H s->(∀ b∈fp,jg X pins H b)->tn i s.heap->J.go i H->
  wpAny (model P w) X.A (pyNext (.ref it)) (λr s1=>∃ u,r=some u/\
   wpAny (model P w) X.A (letOwnedTupleGo tg (.ref it) u) (λ_ s2=>∃ x H',Inv X pins σ H' s2/\RelV x u/\J.yld i H x H'/\tn (i+1) s2.heap/\∀ b∈fp,H' b=none) E s1) E s
 done:∀(X:Cx),X.prog=P->X.w=w->X.K=K->X.calm=true->∀(i:Nat) (pins:List (Addr×Obj)) (s:Shared) (σ:St) (H:Hp) (E:Value->Shared->Prop),Inv X pins σ H s->(∀ b∈fp,jg X pins H b)->tn i s.heap->J.stop i H->
  wpAny (model P w) X.A (pyNext (.ref it)) (λr s1=>r=none/\Inv X pins σ H s1) E s
 self:∀(A:Around) (i:Nat) (s:Shared) (Q:Value->Shared->Prop) (E:Value->Shared->Prop),tn i s.heap->Q (.ref it) s->wpAny (model P w) A (pyIter (.ref it)) Q E s
abbrev TI:=St->Hp->(It->Hp->Prop)->Prop
def PIE (X:Cx) (pins:List (Addr×Obj)) (σ:St) (tg:Expr) (R:It->Hp->Prop) (itv:Value) (s2:Shared):Prop:=
 ∃(it:Addr) (fp:List Addr) (tn:Nat->Heap->Prop) (J:It) (H':Hp),itv=.ref it/\Inv X pins σ H' s2/\Turn X.prog X.w X.K tg J fp it tn/\tn 0 s2.heap/\(∀ b∈fp,jg X pins H' b)/\R J H'
def PI (X:Cx) (tg iter:Expr) (wi:TI):Prop:=
 ∀(
  pins:List (Addr×Obj)) (s:Shared) (σ:St) (H:Hp) (R:It->Hp->Prop),Inv X pins σ H s->wi σ H R->
  wpAny (model X.prog X.w) X.A (eval iter X.env) (λv s1=>wpAny (model X.prog X.w) X.A (pyIter v) (PIE X pins σ tg R) X.xe s1) X.xe s
theorem Ep {M:Model} {A:Around} {E:Value->Shared->Prop} {s:Shared} {tg:Expr} {it:Addr} {u:Value} {o:Obj} {n:String} {vs:Array Value} {Q:Unit->Shared->Prop} (ho:s.heap.get? it=some o) (hc:o.cls=.type n) (hd:o.data=.fields vs)
  (hn:["enumerate","zip","dict_itemiterator","dict_reverseitemiterator","odict_iterator","itertools.zip_longest","itertools.pairwise"].contains n=false) (hQ:Q () s):wpAny M A (letOwnedTupleGo tg (.ref it) u) Q E s:=by
 unfold letOwnedTupleGo
 cases tg <;> first
  | exact wpAny_pure hQ
  | (cases u <;> first
    | exact wpAny_pure hQ
    | (
     refine wpAny_bind (wpAny_load ho ?_);rw [hc,hd];show wpAny M A (if (["enumerate","zip","dict_itemiterator","dict_reverseitemiterator","odict_iterator","itertools.zip_longest","itertools.pairwise"].contains n && vs[0]? == some (rawInt _))=true then _ else _) Q E s;rw [if_neg (by intro h;rw [hn,Bool.false_and] at h;cases h)]
     exact wpAny_pure hQ))
def Itl (K:W.Frag) (a:Addr):It:=
 ⟨λi H=>∃ xs x,SqL K H a xs/\xs[i]?=some x,λi H x H'=>H'=H/\∀ xs,SqL K H a xs->xs[i]?=some x,λi H=>∃ xs,SqL K H a xs/\xs.length<=i⟩
def Itt (K:W.Frag) (a:Addr):It:=
 ⟨λi H=>∃ xs x,SqT K H a xs/\xs[i]?=some x,λi H x H'=>H'=H/\∀ xs,SqT K H a xs->xs[i]?=some x,λi H=>∃ xs,SqT K H a xs/\xs.length<=i⟩
def Itr (lo:Int) (n:Nat):It:=⟨λi _=>i < n,λi H x H'=>H'=H/\x=.int (lo+i),λi _=>n<=i⟩
theorem Ap {P:Program} {w:World} {K:W.Frag} {tg:Expr} (a it:Addr):Turn P w K tg (Itl K a) [it] it (λi h=>h.IsListIter it a i) where
 mem:=by simp
 obj:=λi h st b hb=>by
  have e:b=it:=by simpa using hb
  subst e;obtain ⟨o,e,c,d⟩:=st;exact ⟨o,e,λv z=>by rw [d] at z;cases z⟩
 keep:=λi h h' st k=>st.at λo e=>k it (by simp) o e
 item:=by
  intro X hP hw hK hc i pins s σ H E I hf st hg;subst hP hw hK;obtain ⟨xs,x,hq,hx⟩:=hg;obtain ⟨its,rv,p,hz⟩:=I.list hq;obtain ⟨u,hu,ru⟩:=rv.get hx;obtain ⟨f0,f1,f2,f3,f4,f5⟩:=hf it (by simp);refine wpAny_pyNext_list_item st p.isList (x:=u) (by simpa using hu) λh' st' sb=>?_;have I1:Inv X pins σ H {s with heap:=h' }:=I.turned (t':=s.toks) (λb o hb e=>(sb.2 b hb).trans e) f0 f1 f3 f4 f5
  obtain ⟨o,e,c,d⟩:=id st';exact ⟨u,rfl,Ep (s:={s with heap:=h' }) e c d (by decide) ⟨x,H,I1,ru,⟨rfl,λys hy=>by rw [I.list_inj hy hq];exact hx⟩,st',λb hb=>(hf b hb).1⟩⟩
 done:=by
  intro X hP hw hK hc i pins s σ H E I hf st hg;subst hP hw hK;obtain ⟨xs,hq,hx⟩:=hg;obtain ⟨its,rv,p,hz⟩:=I.list hq;obtain ⟨f0,f1,f2,f3,f4,f5⟩:=hf it (by simp);have hl:=rv.length;exact wpAny_pyNext_list_end (I.ok.hd hc) st p.isList (by simp;omega) λh' eb=>⟨rfl,I.turned (t':=s.toks) (λb o hb e=>eb b o hb e) f0 f1 f3 f4 f5⟩
 self:=λ_ _ _ _ _ st h=>wpAny_pyIter_listiter st h
theorem xr {P:Program} {w:World} {K:W.Frag} {tg:Expr} (a it:Addr):Turn P w K tg (Itt K a) [it] it (λi h=>h.IsTupleIter it a i) where
 mem:=by simp
 obj:=λi h st b hb=>by
  have e:b=it:=by simpa using hb
  subst e;obtain ⟨o,e,c,d⟩:=st;exact ⟨o,e,λv z=>by rw [d] at z;cases z⟩
 keep:=λi h h' st k=>st.at λo e=>k it (by simp) o e
 item:=by
  intro X hP hw hK hc i pins s σ H E I hf st hg;subst hP hw hK;obtain ⟨xs,x,hq,hx⟩:=hg;obtain ⟨its,rv,p,hz⟩:=I.tuple hq;obtain ⟨u,hu,ru⟩:=rv.get hx;obtain ⟨f0,f1,f2,f3,f4,f5⟩:=hf it (by simp);refine wpAny_pyNext_tuple_item st (show s.heap.IsTuple a its.toArray from p) (x:=u) (by simpa using hu) λh' st' sb=>?_;have I1:Inv X pins σ H {s with heap:=h' }:=I.turned (t':=s.toks) (λb o hb e=>(sb.2 b hb).trans e) f0 f1 f3 f4 f5
  obtain ⟨o,e,c,d⟩:=id st';exact ⟨u,rfl,Ep (s:={s with heap:=h' }) e c d (by decide) ⟨x,H,I1,ru,⟨rfl,λys hy=>by rw [I.tuple_inj hy hq];exact hx⟩,st',λb hb=>(hf b hb).1⟩⟩
 done:=by
  intro X hP hw hK hc i pins s σ H E I hf st hg;subst hP hw hK;obtain ⟨xs,hq,hx⟩:=hg;obtain ⟨its,rv,p,hz⟩:=I.tuple hq;obtain ⟨f0,f1,f2,f3,f4,f5⟩:=hf it (by simp);have hl:=rv.length;exact wpAny_pyNext_tuple_end (I.ok.hd hc) st (show s.heap.IsTuple a its.toArray from p) (by simp;omega) λh' eb=>⟨rfl,I.turned (t':=s.toks) (λb o hb e=>eb b o hb e) f0 f1 f3 f4 f5⟩
 self:=λ_ _ _ _ _ st h=>wpAny_pyIter_tupleiter st h
theorem xw {P:Program} {w:World} {K:W.Frag} {tg:Expr} (it:Addr) (lo:Int) (n:Nat):Turn P w K tg (Itr lo n) [it] it (λi h=>IsRangeIter h it (lo+(i:Nat)*1) ((n:Int) - (i:Nat)) 1) where
 mem:=by simp
 obj:=λi h st b hb=>by
  have e:b=it:=by simpa using hb
  subst e
  exact ⟨_,st,λv z=>by
   have z':Data.fields _=Data.cell v:=z;cases z'⟩
 keep:=λi h h' st k=>k it (by simp) _ st
 item:=by
  intro X hP hw hK hc i pins s σ H E I hf st hg;subst hP hw hK;obtain ⟨f0,f1,f2,f3,f4,f5⟩:=hf it (by simp);have W:=Walks.range (prog:=X.prog) (w:=X.w) (I.ok.hd hc) it lo 1 n;refine W.item i s _ _ hg st λv h' tk hv st' kk=>?_;obtain ⟨t,rfl⟩:=hv;have I1:Inv X pins σ H {s with heap:=h',toks:=tk}:=I.turned (λb o hb e=>kk b o (by simpa using hb) e) f0 f1 f3 f4 f5
  refine ⟨_,rfl,Ep (s:={s with heap:=h',toks:=tk}) (n:="range_iterator") st' rfl rfl (by decide) ⟨.int (lo+i),H,I1,⟨t,?_⟩,⟨rfl,rfl⟩,st',λb hb=>(hf b hb).1⟩⟩
  rw [Int.mul_one]
 done:=by
  intro X hP hw hK hc i pins s σ H E I hf st hg;subst hP hw hK;obtain ⟨f0,f1,f2,f3,f4,f5⟩:=hf it (by simp);exact wpAny_pyNext_range_end (I.ok.hd hc) st (by have:n<=i:=hg;omega) λh' eb=>⟨rfl,I.turned (t':=s.toks) (λb o hb e=>eb b o hb e) f0 f1 f3 f4 f5⟩
 self:=λ_ _ _ _ _ st h=>wpAny_pyIter_rangeiter st h
section
variable {X:Cx} {tg:Expr}
def iList (K:W.Frag) (tl:TE):TI:=λσ H R=>tl σ H λx H1=>∃ a,x=.ref a/\(∃ xs,SqL K H1 a xs)/\R (Itl K a) H1
def iTup (K:W.Frag) (tl:TE):TI:=λσ H R=>tl σ H λx H1=>∃ a,x=.ref a/\(∃ xs,SqT K H1 a xs)/\R (Itt K a) H1
theorem bR {l:Expr} {tl:TE} (hl:PE X l tl):PI X tg l (iList X.K tl):=by
 intro pins s σ H R I h;refine thn (hl pins s σ H _ I h) λv s1 zz=>?_;obtain ⟨x,H1,I1,r1,q1⟩:=zz;obtain ⟨a,e,⟨xs,hq⟩,q⟩:=q1;subst e;cases r1
 obtain ⟨its,rv,p,hz⟩:=I1.list hq;refine wpAny_pyIter_list p.isList ?_;refine ⟨s1.heap.objs.size,[s1.heap.objs.size],_,_,H1,rfl,I1.kept (t':=s1.toks) λb o e=>Heap.get?_push_of_some _ e,Ap a _,⟨_,Heap.get?_push_size _ rfl,rfl,rfl⟩,λb hb=>?_,q⟩;have e:b=s1.heap.objs.size:=by simpa using hb
 subst e;exact I1.fpOk (Nat.le_refl _) (I1.hok.fresh (Nat.le_refl _))
theorem Ds {l:Expr} {tl:TE} (hl:PE X l tl):PI X tg l (iTup X.K tl):=by
 intro pins s σ H R I h;refine thn (hl pins s σ H _ I h) λv s1 zz=>?_;obtain ⟨x,H1,I1,r1,q1⟩:=zz;obtain ⟨a,e,⟨xs,hq⟩,q⟩:=q1;subst e;cases r1
 obtain ⟨its,rv,p,hz⟩:=I1.tuple hq;refine wpAny_pyIter_tuple (show s1.heap.IsTuple a its.toArray from p) ?_;refine ⟨s1.heap.objs.size,[s1.heap.objs.size],_,_,H1,rfl,I1.kept (t':=s1.toks) λb o e=>Heap.get?_push_of_some _ e,xr a _,⟨_,Heap.get?_push_size _ rfl,rfl,rfl⟩,λb hb=>?_,q⟩;have e:b=s1.heap.objs.size:=by simpa using hb
 subst e;exact I1.fpOk (Nat.le_refl _) (I1.hok.fresh (Nat.le_refl _))
theorem vL {pins:List (Addr×Obj)} {σ:St} {H:Hp} {s:Shared} {R:It->Hp->Prop} {E:Value->Shared->Prop} {lo hi:Int} {t u v:Tok} {tk:Nat} (I:Inv X pins σ H s) (h1:-(2 ^ 62)<=lo) (h2:lo < 2 ^ 62) (h3:-(2 ^ 62)<=hi) (h4:hi < 2 ^ 62)
  (q:R (Itr lo (hi - lo).toNat) H):wpAny (model X.prog X.w) X.A (pyIter (.ref s.heap.objs.size)) (PIE X pins σ tg R) E {s with heap:=s.heap.push {cls:=.type "range",data:=.fields #[.int lo t,.int hi u,.int 1 v] },toks:=tk}:=by
 refine wpAny_pyIter_range (IsRange.new ..) (small_one h1 h2 h3 h4) ?_;have I1:Inv X pins σ H {s with heap:=s.heap.push {cls:=.type "range",data:=.fields #[.int lo t,.int hi u,.int 1 v] },toks:=tk}:=I.kept λb o e=>Heap.get?_push_of_some _ e
 refine ⟨(s.heap.push {cls:=.type "range",data:=.fields #[.int lo t,.int hi u,.int 1 v] }).objs.size,[(s.heap.push {cls:=.type "range",data:=.fields #[.int lo t,.int hi u,.int 1 v] }).objs.size],_,_,H,rfl,
  I1.kept (t':=tk) λb o e=>Heap.get?_push_of_some _ e,xw _ lo (hi - lo).toNat,?_,λb hb=>?_,q⟩
 ·have e1:lo+((0:Nat):Int)*1=lo:=by simp
  have e2:(((hi - lo).toNat:Nat):Int) - ((0:Nat):Int)=Builtin.Range.rangeSize lo hi 1:=by rw [rangeSize_one];split <;> omega
  show IsRangeIter _ _ (lo+((0:Nat):Int)*1) ((((hi - lo).toNat:Nat):Int) - ((0:Nat):Int)) 1;rw [e1,e2];exact Heap.get?_push_size _ rfl
 ·have e:b=(s.heap.push {cls:=.type "range",data:=.fields #[.int lo t,.int hi u,.int 1 v] }).objs.size:=by simpa using hb
  subst e;exact I1.fpOk (Nat.le_refl _) (I1.hok.fresh (Nat.le_refl _))
def iRng1 (ta:TA):TI:=λσ H R=>ta σ H λvs H1=>∃ j:Int,vs=[.int j]/\-(2 ^ 62)<=j/\j < 2 ^ 62/\R (Itr 0 j.toNat) H1
def iRng2 (ta:TA):TI:=λσ H R=>ta σ H λvs H1=>∃ i j:Int,vs=[.int i,.int j]/\(-(2 ^ 62)<=i/\i < 2 ^ 62/\-(2 ^ 62)<=j/\j < 2 ^ 62)/\R (Itr i (j - i).toNat) H1
theorem nG {a:Expr} {ta:TA} {p pos:Pos} (hg:Gl X "range") (hm:X.mg "range"=none) (ha:PA X [a] ta) (hs:starEach [a] X.env=[(false,eval a X.env)]:=by rfl):PI X tg (.Call (.Name "range" p) [a] [] pos) (iRng1 ta):=by
 intro pins s σ H R I h;refine Call_ (jX I hg hm boot_range (PyProof.Rows.callWith_type1 (thn (ha pos pins s σ H _ I h) λus s1 zz=>?_) hs rfl));obtain ⟨vs,H1,I1,r1,q1⟩:=zz;obtain ⟨j,e,q1,q2,q⟩:=q1;subst e;cases r1 with
 | cons r rr =>
  cases rr
  obtain ⟨t,rfl⟩:=r;exact call_range_1 (vL I1 (by omega) (by omega) q1 q2 (by simpa using q))
theorem AK {a b:Expr} {ta:TA} {p pos:Pos} (hg:Gl X "range") (hm:X.mg "range"=none) (ha:PA X [a,b] ta) (hs:starEach [a,b] X.env=[(false,eval a X.env),(false,eval b X.env)]:=by rfl) (hs2:starEach [b] X.env=[(false,eval b X.env)]:=by rfl) :
  PI X tg (.Call (.Name "range" p) [a,b] [] pos) (iRng2 ta):=by
 intro pins s σ H R I h;refine Call_ (jX I hg hm boot_range (PyProof.Rows.callWith_type1 (thn (ha pos pins s σ H _ I h) λus s1 zz=>?_) (by rw [hs,hs2]) (by rw [hs2];rfl)));obtain ⟨vs,H1,I1,r1,q1⟩:=zz;obtain ⟨i,j,e,⟨q1,q2,q3,q4⟩,q⟩:=q1;subst e;cases r1 with
 | cons r rr =>
  cases rr with
  | cons r' rr =>
   cases rr
   obtain ⟨t,rfl⟩:=r;obtain ⟨t',rfl⟩:=r';exact call_range_2 (vL I1 q1 q2 q3 q4 q)
def tFor (wi:TI) (g:TG) (tb:TS):TS:=λD σ H=>wi σ H λJ H1=>∃ W:Nat->Nat->St->Hp->Prop,(∃ m,W 0 m σ H1)/\∀ i m σ H,W i m σ H->
 (J.stop i H/\D.nx σ H)\/(J.go i H/\∃ N:St->Hp->Prop,(∀ σ' H',N σ' H'->∃ m',m' < m/\W (i+1) m' σ' H')/\∀ x H',J.yld i H x H'->g x σ H' λσ2 H2=>tb {D with nx:=N,ct:=N,bk:=D.nx} σ2 H2)
def ql (fp:List Addr) (h:Heap):List (Addr×Obj):=fp.filterMap λb=>(h.get? b).map λo=>(b,o)
theorem fW {fp:List Addr} {h:Heap} {b:Addr} {o:Obj} (hb:b∈fp) (e:h.get? b=some o):(b,o)∈ql fp h:=List.mem_filterMap.mpr ⟨b,hb,by rw [e];rfl⟩
theorem Bb {fp:List Addr} {h:Heap} {p:Addr×Obj} (hp:p∈ql fp h):p.1∈fp/\h.get? p.1=some p.2:=by
 obtain ⟨b,hb,e⟩:=List.mem_filterMap.mp hp;cases q:h.get? b with
 | none=>rw [q] at e;cases e
 | some o =>
  rw [q] at e;have e':(b,o)=p:=Option.some.inj e;subst e';exact ⟨hb,q⟩
theorem Inv.pinned {pins:List (Addr×Obj)} {σ:St} {H:Hp} {s:Shared} {fp:List Addr} (I:Inv X pins σ H s) (hf:∀ b∈fp,jg X pins H b) (ho:∀ b∈fp,∃ o,s.heap.get? b=some o/\∀ v,o.data≠.cell v):Inv X (pins++ql fp s.heap) σ H s:=
 I.pins_of λp hp=>(List.mem_append.mp hp).elim (λz=>I.pin p (List.mem_append_right _ z)) λz=>by
  obtain ⟨hb,e⟩:=Bb z;obtain ⟨f0,f1,f2,_⟩:=hf p.1 hb;obtain ⟨o,e',d⟩:=ho p.1 hb;rw [e] at e';cases e'
  exact ⟨e,f0,f1,f2,d⟩
theorem Inv.unpinned {pins pl:List (Addr×Obj)} {σ:St} {H:Hp} {s:Shared} (I:Inv X (pins++pl) σ H s):Inv X pins σ H s:=I.pins_of λp hp=>I.pin p (List.mem_append_right _ (List.mem_append_left _ hp))
theorem eE {iter:Expr} {body:List Stmt} {wi:TI} {g:TG} {tb:TS} {pos:Pos} (hp:PassesOwn (model X.prog X.w) X.A X.env X.xe) (hc:X.calm=true) (hi:PI X tg iter wi) (hg:PG X tg g) (hb:PSs X body tb)
  (hs:∀ x,foldedSetIterable iter X.env x=pure x:=by intro _;rfl):PS X (.For tg iter body [] pos) (tFor wi g tb):=by
 intro pins s σ H D I h;refine wpAny_For (thn (hi pins s σ H _ I h) λv s1 h1=>thn h1 λitv s2 h2=>?_) hs;obtain ⟨it,fp,tn,J,H2,e,I2,T,st2,f2,W,⟨m0,w0⟩,turn⟩:=h2;subst e;have stat:∀{H':Hp},(∀ b∈fp,H' b=none)->∀ b∈fp,jg X pins H' b:=λhn b hb=>⟨hn b hb,(f2 b hb).2⟩;refine codeAny_forLoop_any (λn s'=>∃ i σ' H',Inv X pins σ' H' s'/\tn i s'.heap/\(∀ b∈fp,H' b=none)/\W i n σ' H') ?_ m0 ⟨0,σ,H2,I2,st2,λb hb=>(f2 b hb).1,w0⟩;rintro n s3 ⟨i,σ3,H3,I3,st3,fr3,w3⟩
 rcases turn i n σ3 H3 w3 with ⟨stop,qn⟩ | ⟨go,N,hN,step⟩
 ·refine wpAny_passesOwn hp (thn (T.done X rfl rfl rfl hc i pins s3 σ3 H3 X.xe I3 (stat fr3) st3 stop) λr s4 zz=>?_);obtain ⟨hr,I4⟩:=zz;subst hr;exact wpAny_execs_nil ⟨σ3,H3,I4,qn⟩
 ·refine wpAny_passesOwn hp (thn (T.item X rfl rfl rfl hc i pins s3 σ3 H3 X.xe I3 (stat fr3) st3 go) λr s4 zz=>?_);obtain ⟨u,hr,h4⟩:=zz;subst hr;refine wpAny_passesOwn hp (thn h4 λ_ s5 zz=>?_);obtain ⟨x,H5,I5,r5,y5,st5,fr5⟩:=zz;have I5':=I5.pinned (stat fr5) (T.obj _ _ st5);refine wpAny_passesOwn hp (thn (hg _ s5 σ3 H5 x u _ I5' r5 (step x H5 y5)) λ_ s6 zz=>?_);obtain ⟨σ6,H6,I6,q6⟩:=zz;refine wpAny_passesOwn hp (thn (hb _ s6 σ6 H6 _ I6 q6) λf s7 q7=>?_)
  have again:∀{σ7:St} {H7:Hp},Inv X (pins++ql fp s5.heap) σ7 H7 s7->N σ7 H7->∃ m,m < n/\∃ i σ' H',Inv X pins σ' H' s7/\tn i s7.heap/\(∀ b∈fp,H' b=none)/\W i m σ' H':=λ{σ7 H7} I7 n7=>by
   obtain ⟨m',hm,w7⟩:=hN σ7 H7 n7;refine ⟨m',hm,i+1,σ7,H7,I7.unpinned,T.keep _ _ _ st5 λb hb o e=>(I7.pin (b,o) (List.mem_append_right _ (List.mem_append_right _ (fW hb e)))).1,λb hb=>?_,w7⟩;obtain ⟨o,e,d⟩:=T.obj _ _ st5 b hb;exact (I7.pin (b,o) (List.mem_append_right _ (List.mem_append_right _ (fW hb e)))).2.1
  cases f with
  | next=>obtain ⟨σ7,H7,I7,n7⟩:=q7;exact again I7 n7
  | cont=>obtain ⟨σ7,H7,I7,n7⟩:=q7;exact again I7 n7
  | brk=>obtain ⟨σ7,H7,I7,q7⟩:=q7;exact ⟨σ7,H7,I7.unpinned,q7⟩
  | ret v=>obtain ⟨x7,σ7,H7,I7,r7,q7⟩:=q7;exact ⟨x7,σ7,H7,I7.unpinned,r7,q7⟩
end
theorem fF {K:W.Frag} {a:Addr} {xs:List V} {g:TG} {tb:TS} {D:Ends} {σ:St} {H:Hp} (Pv:Nat->St->Hp->Prop) (h0:Pv 0 σ H) (hl:∀ i σ H,i<=xs.length->Pv i σ H->SqL K H a xs)
  (hs:∀ i x σ H,xs[i]?=some x->Pv i σ H->g x σ H λσ2 H2=>tb {D with nx:=Pv (i+1),ct:=Pv (i+1),bk:=D.nx} σ2 H2) (hd:∀ σ H,Pv xs.length σ H->D.nx σ H) :
  ∃ W:Nat->Nat->St->Hp->Prop,(∃ m,W 0 m σ H)/\∀ i m σ H,W i m σ H->
   ((Itl K a).stop i H/\D.nx σ H)\/((Itl K a).go i H/\∃ N:St->Hp->Prop,(∀ σ' H',N σ' H'->∃ m',m' < m/\W (i+1) m' σ' H')/\∀ x H',(Itl K a).yld i H x H'->g x σ H' λσ2 H2=>tb {D with nx:=N,ct:=N,bk:=D.nx} σ2 H2):=by
 refine ⟨λi m σ H=>m=xs.length - i/\i<=xs.length/\Pv i σ H,⟨xs.length,by simp,Nat.zero_le _,h0⟩,?_⟩;rintro i m σ H ⟨rfl,hi,p⟩
 have q:=hl i σ H hi p
 by_cases hlt:i < xs.length
 ·refine .inr ⟨⟨xs,xs[i],q,by simp [hlt]⟩,Pv (i+1),λσ' H' p'=>⟨xs.length - (i+1),by omega,rfl,hlt,p'⟩,λx H' y=>?_⟩;obtain ⟨e,y⟩:=y;subst e;exact hs i x σ _ (y xs q) p
 ·have e:i=xs.length:=by omega
  subst e;exact .inl ⟨⟨xs,q,Nat.le_refl _⟩,hd σ H p⟩
theorem for_tup {K:W.Frag} {a:Addr} {xs:List V} {g:TG} {tb:TS} {D:Ends} {σ:St} {H:Hp} (Pv:Nat->St->Hp->Prop) (h0:Pv 0 σ H) (hl:∀ i σ H,i<=xs.length->Pv i σ H->SqT K H a xs)
  (hs:∀ i x σ H,xs[i]?=some x->Pv i σ H->g x σ H λσ2 H2=>tb {D with nx:=Pv (i+1),ct:=Pv (i+1),bk:=D.nx} σ2 H2) (hd:∀ σ H,Pv xs.length σ H->D.nx σ H) :
  ∃ W:Nat->Nat->St->Hp->Prop,(∃ m,W 0 m σ H)/\∀ i m σ H,W i m σ H->
   ((Itt K a).stop i H/\D.nx σ H)\/((Itt K a).go i H/\∃ N:St->Hp->Prop,(∀ σ' H',N σ' H'->∃ m',m' < m/\W (i+1) m' σ' H')/\∀ x H',(Itt K a).yld i H x H'->g x σ H' λσ2 H2=>tb {D with nx:=N,ct:=N,bk:=D.nx} σ2 H2):=by
 refine ⟨λi m σ H=>m=xs.length - i/\i<=xs.length/\Pv i σ H,⟨xs.length,by simp,Nat.zero_le _,h0⟩,?_⟩;rintro i m σ H ⟨rfl,hi,p⟩
 have q:=hl i σ H hi p
 by_cases hlt:i < xs.length
 ·refine .inr ⟨⟨xs,xs[i],q,by simp [hlt]⟩,Pv (i+1),λσ' H' p'=>⟨xs.length - (i+1),by omega,rfl,hlt,p'⟩,λx H' y=>?_⟩;obtain ⟨e,y⟩:=y;subst e;exact hs i x σ _ (y xs q) p
 ·have e:i=xs.length:=by omega
  subst e;exact .inl ⟨⟨xs,q,Nat.le_refl _⟩,hd σ H p⟩
theorem kG {lo:Int} {n:Nat} {g:TG} {tb:TS} {D:Ends} {σ:St} {H:Hp} (Pv:Nat->St->Hp->Prop) (h0:Pv 0 σ H)
  (hs:∀ i σ H,i < n->Pv i σ H->g (.int (lo+i)) σ H λσ2 H2=>tb {D with nx:=Pv (i+1),ct:=Pv (i+1),bk:=D.nx} σ2 H2) (hd:∀ σ H,Pv n σ H->D.nx σ H) :
  ∃ W:Nat->Nat->St->Hp->Prop,(∃ m,W 0 m σ H)/\∀ i m σ H,W i m σ H->
   ((Itr lo n).stop i H/\D.nx σ H)\/((Itr lo n).go i H/\∃ N:St->Hp->Prop,(∀ σ' H',N σ' H'->∃ m',m' < m/\W (i+1) m' σ' H')/\∀ x H',(Itr lo n).yld i H x H'->g x σ H' λσ2 H2=>tb {D with nx:=N,ct:=N,bk:=D.nx} σ2 H2):=by
 refine ⟨λi m σ H=>m=n - i/\i<=n/\Pv i σ H,⟨n,by simp,Nat.zero_le _,h0⟩,?_⟩;rintro i m σ H ⟨rfl,hi,p⟩
 by_cases hlt:i < n
 ·refine .inr ⟨hlt,Pv (i+1),λσ' H' p'=>⟨n - (i+1),by omega,rfl,hlt,p'⟩,λx H' y=>?_⟩;obtain ⟨e,y⟩:=y;subst e y;exact hs i σ _ hlt p
 ·have e:i=n:=by omega
  subst e;exact .inl ⟨Nat.le_refl _,hd σ H p⟩
abbrev R2:=V->V->Hp->VK->Prop
def OpR (X:Cx) (f:Value->Value->Sem Value) (r:R2):Prop:=
 ∀(
  pins:List (Addr×Obj)) (s:Shared) (σ:St) (H:Hp) (x y:V) (v u:Value) (Q:VK),Inv X pins σ H s->RelV x v->RelV y u->r x y H Q->
  wpAny (model X.prog X.w) X.A (f v u) (EP X pins σ Q) X.xe s
def UnR (X:Cx) (f:Value->Sem Value) (r:V->Hp->VK->Prop):Prop:=
 ∀(
  pins:List (Addr×Obj)) (s:Shared) (σ:St) (H:Hp) (x:V) (v:Value) (Q:VK),Inv X pins σ H s->RelV x v->r x H Q->
  wpAny (model X.prog X.w) X.A (f v) (EP X pins σ Q) X.xe s
def gR (X:Cx) (f:Value) (r:List V->Hp->VK->Prop):Prop:=
 ∀(
  pins:List (Addr×Obj)) (s:Shared) (σ:St) (H:Hp) (xs:List V) (us:List Value) (Q:VK),Inv X pins σ H s->Vals xs us->r xs H Q->
  wpAny (model X.prog X.w) X.A (call f us) (EP X pins σ Q) X.xe s
def TruR (X:Cx) (r:V->Hp->(Bool->Hp->Prop)->Prop):Prop:=
 ∀(
  pins:List (Addr×Obj)) (s:Shared) (σ:St) (H:Hp) (x:V) (v:Value) (Q:Bool->Hp->Prop),Inv X pins σ H s->RelV x v->r x H Q->
  wpAny (model X.prog X.w) X.A (truthy v) (TP X pins σ Q) X.xe s
def tOp (r:R2) (ta tb:TE):TE:=λσ H Q=>ta σ H λx H1=>tb σ H1 λy H2=>r x y H2 Q
def tUn (r:V->Hp->VK->Prop) (ta:TE):TE:=λσ H Q=>ta σ H λx H1=>r x H1 Q
inductive XrI (C:Int->Int->Prop) (g:Int->Int->V) (x:V) (y:V) (H:Hp) (Q:VK):Prop where
 | mk (i:Int) (j:Int) (z_0:x=.int i) (z_1:y=.int j) (z_2:C i j) (z_3:Q (g i j) H):XrI C g x y H Q
def rI (C:Int->Int->Prop) (g:Int->Int->V):R2:=λx y H Q=>XrI C g x y H Q
inductive XrI0 (g:Int->Int->V) (x:V) (y:V) (H:Hp) (Q:VK):Prop where
 | mk (i:Int) (j:Int) (z_0:x=.int i) (z_1:y=.int j) (z_2:Q (g i j) H):XrI0 g x y H Q
def rI0 (g:Int->Int->V):R2:=λx y H Q=>XrI0 g x y H Q
def rU (g:Int->V):V->Hp->VK->Prop:=λx H Q=>∃ i,x=.int i/\Q (g i) H
section
variable {X:Cx} {a b c:Expr} {ta tb tc:TE} {pos:Pos}
theorem binT (ha:PE X a ta) (hb:PE X b tb) {pins:List (Addr×Obj)} {s:Shared} {σ:St} {H:Hp} {R:V->V->Hp->Prop} (I:Inv X pins σ H s)
  (h:ta σ H λx H1=>tb σ H1 λy H2=>R x y H2) {Q:Value->Shared->Prop} {f:Value->Value->Sem Value}
  (hf:∀ v u s2 x y H2,Inv X pins σ H2 s2->RelV x v->RelV y u->R x y H2->wpAny (model X.prog X.w) X.A (f v u) Q X.xe s2) :
  wpAny (model X.prog X.w) X.A (eval a X.env) (λv s₁=>wpAny (model X.prog X.w) X.A (eval b X.env) (λu s₂=>wpAny (model X.prog X.w) X.A (f v u) Q X.xe s₂) X.xe s₁) X.xe s:=by
 refine thn (ha pins s σ H _ I h) λv s1 zz=>?_;obtain ⟨x,H1,I1,r1,q1⟩:=zz;refine thn (hb pins s1 σ H1 _ I1 q1) λu s2 zz=>?_;obtain ⟨y,H2,I2,r2,q2⟩:=zz;exact hf v u s2 x y H2 I2 r1 r2 q2
theorem aP {op:Operator} {r:R2} (ho:OpR X (binaryOp op) r) (ha:PE X a ta) (hb:PE X b tb):PE X (.BinOp a op b pos) (tOp r ta tb):=by
 intro pins s σ H Q I h;exact wpAny_BinOp (binT ha hb I h λv u s2 x y H2 I2 rx ry q=>ho pins s2 σ H2 x y v u Q I2 rx ry q)
theorem oz {op:UnaryOp} {r:V->Hp->VK->Prop} (ho:UnR X (unaryOp op) r) (ha:PE X a ta):PE X (.UnaryOp op a pos) (tUn r ta):=by
 intro pins s σ H Q I h;refine UnaryOp_ (thn (ha pins s σ H _ I h) λv s1 zz=>?_);obtain ⟨x,H1,I1,r1,q1⟩:=zz;exact ho pins s1 σ H1 x v Q I1 r1 q1
theorem opI {f:Value->Value->Sem Value} {C:Int->Int->Prop} {g:Int->Int->Int}
  (rule:∀(i j:Int) (t u:Tok) (s:Shared) (Q:Value->Shared->Prop) (E:Value->Shared->Prop),C i j->Q (.int (g i j) s.toks) {s with toks:=s.toks+1}->wpAny (model X.prog X.w) X.A (f (.int i t) (.int j u)) Q E s) :
  OpR X f (rI C λi j=>.int (g i j)):=by
 intro pins s σ H x y v u Q I rx ry h;obtain ⟨i,j,rfl,rfl,hc,q⟩:=h;obtain ⟨t,rfl⟩:=rx;obtain ⟨t',rfl⟩:=ry;exact rule i j t t' s _ _ hc ⟨.int (g i j),H,I.tok _,⟨_,rfl⟩,q⟩
theorem opI0 {f:Value->Value->Sem Value} {g:Int->Int->Int}
  (rule:∀(i j:Int) (t u:Tok) (s:Shared) (Q:Value->Shared->Prop) (E:Value->Shared->Prop),Q (.int (g i j) s.toks) {s with toks:=s.toks+1}->wpAny (model X.prog X.w) X.A (f (.int i t) (.int j u)) Q E s) :
  OpR X f (rI0 λi j=>.int (g i j)):=by
 intro pins s σ H x y v u Q I rx ry h;obtain ⟨i,j,rfl,rfl,q⟩:=h;obtain ⟨t,rfl⟩:=rx;obtain ⟨t',rfl⟩:=ry;exact rule i j t t' s _ _ ⟨.int (g i j),H,I.tok _,⟨_,rfl⟩,q⟩
theorem opB0 {f:Value->Value->Sem Value} {g:Int->Int->Bool}
  (rule:∀(i j:Int) (t u:Tok) (s:Shared) (Q:Value->Shared->Prop) (E:Value->Shared->Prop),Q (.bool (g i j)) s->wpAny (model X.prog X.w) X.A (f (.int i t) (.int j u)) Q E s) :
  OpR X f (rI0 λi j=>.bl (g i j)):=by
 intro pins s σ H x y v u Q I rx ry h;obtain ⟨i,j,rfl,rfl,q⟩:=h;obtain ⟨t,rfl⟩:=rx;obtain ⟨t',rfl⟩:=ry;exact rule i j t t' s _ _ ⟨.bl (g i j),H,I,rfl,q⟩
def CDiv (i j:Int):Prop:=0 < j/\j < 1073741824
def CPow (i j:Int):Prop:=0<=j/\j<=1000000/\i.natAbs < 2 ^ 64
theorem dB:OpR X (binaryOp .Add) (rI0 λi j=>.int (i+j)):=opI0 λ_ _ _ _ _ _ _ q=>add_int q
theorem gP:OpR X (binaryOp .Sub) (rI0 λi j=>.int (i - j)):=opI0 λ_ _ _ _ _ _ _ q=>sub_int q
theorem op_fdiv:OpR X (binaryOp .FloorDiv) (rI CDiv λi j=>.int (i / j)):=opI λi j _ _ _ _ _ hc q=>by
 have h1:(0:Int) < j:=hc.1;have h2:j < 1073741824:=hc.2;exact floordiv_int (by omega) (by rw [Int.fdiv_eq_ediv_of_nonneg i (by omega)];exact q) (.inl (PyProof.noPylong_small (by omega)))
theorem jW:OpR X (binaryOp .Mod) (rI (λ_ j=>0 < j) λi j=>.int (i % j)):=opI λi j _ _ _ _ _ hc q=>by
 have h1:(0:Int) < j:=hc;exact mod_int' (by omega) (by rw [Int.fmod_eq_emod_of_nonneg i (by omega)];exact q)
theorem tY:OpR X (binaryOp .Mod) (rI (λ_ j=>j≠0) λi j=>.int (i.fmod j)):=opI λ_ _ _ _ _ _ _ hc q=>mod_int' hc q
theorem op_pow:OpR X (binaryOp .Pow) (rI CPow λi j=>.int (i ^ j.toNat)):=opI λ_ _ _ _ _ _ _ hc q=>pow_int_small hc.1 hc.2.1 hc.2.2 q
theorem unI {f:Value->Sem Value} {g:Int->Int}
  (rule:∀(i:Int) (t:Tok) (s:Shared) (Q:Value->Shared->Prop) (E:Value->Shared->Prop),Q (.int (g i) s.toks) {s with toks:=s.toks+1}->wpAny (model X.prog X.w) X.A (f (.int i t)) Q E s) :
  UnR X f (rU λi=>.int (g i)):=by
 intro pins s σ H x v Q I rx h;obtain ⟨i,rfl,q⟩:=h;obtain ⟨t,rfl⟩:=rx;exact rule i t s _ _ ⟨.int (g i),H,I.tok _,⟨_,rfl⟩,q⟩
theorem jI:UnR X (unaryOp .USub) (rU λi=>.int (-i)):=unI λ_ _ _ _ _ q=>neg_int q
end
def scal:V->V->Bool
 | .non,.non=>true | .non,.int _=>true | .int _,.non=>true | .non,.bl _=>true | .bl _,.non=>true | .non,.str _=>true | .str _,.non=>true
 | .int _,.int _=>true | .bl _,.bl _=>true | .str _,.str _=>true | .byt _,.byt _=>true
 | .int _,.str _=>true | .str _,.int _=>true | .bl _,.str _=>true | .str _,.bl _=>true
 | _,_=>false
def rEq:R2:=λx y H Q=>scal x y=true/\Q (.bl (decide (x=y))) H
def rNe:R2:=λx y H Q=>scal x y=true/\Q (.bl (!decide (x=y))) H
theorem Ab {i j:Int}:decide (V.int i=V.int j)=(i == j):=by
 rw [Bool.eq_iff_iff];simp
theorem EO {i j:Bool}:decide (V.bl i=V.bl j)=(i == j):=by
 rw [Bool.eq_iff_iff];simp
theorem Aa {i j:Str}:decide (V.str i=V.str j)=(i == j):=by
 rw [Bool.eq_iff_iff];simp
theorem Ac {i j:Array UInt8}:decide (V.byt i=V.byt j)=(i.toList == j.toList):=by
 rw [Bool.eq_iff_iff];cases i
 cases j
 simp
section
variable {X:Cx} {a b c:Expr} {ta tb tc:TE} {pos:Pos}
theorem bJ {pins:List (Addr×Obj)} {σ:St} {H:Hp} {s:Shared} {Q:VK} {k k':Bool} (I:Inv X pins σ H s) (q:Q (.bl k) H) (e:k=k'):EP X pins σ Q (.bool k') s:=by
 subst e;exact ⟨.bl k,H,I,rfl,q⟩
theorem aM:OpR X (compareOp .Eq) rEq:=by
 intro pins s σ H x y v u Q I rx ry h;obtain ⟨hs,q⟩:=h;cases x with
 | non =>
  cases rx
  cases y with
  | non=>cases ry;exact PySem.EqNone.eq_none_none (bJ I q (by simp))
  | bl j=>cases ry;exact PySem.EqNone.eq_none_bool (bJ I q (by simp))
  | int j=>obtain ⟨t',rfl⟩:=ry;exact PySem.EqNone.eq_none_int (bJ I q (by simp))
  | str j=>obtain ⟨t',rfl⟩:=ry;exact PySem.EqNone.eq_none_str (bJ I q (by simp))
  | _=>exact absurd (show false=true from hs) Bool.false_ne_true
 | bl i =>
  cases rx
  cases y with
  | non=>cases ry;exact PySem.EqNone.eq_bool_none (bJ I q (by simp))
  | bl j=>cases ry;exact eq_bool (bJ I q EO)
  | str j=>obtain ⟨t',rfl⟩:=ry;exact PySem.EqMixed.eq_bool_str (bJ I q (by simp))
  | _=>exact absurd (show false=true from hs) Bool.false_ne_true
 | int i =>
  obtain ⟨t,rfl⟩:=rx;cases y with
  | non=>cases ry;exact PySem.EqNone.eq_int_none (bJ I q (by simp))
  | int j=>obtain ⟨t',rfl⟩:=ry;exact eq_int (bJ I q Ab)
  | str j=>obtain ⟨t',rfl⟩:=ry;exact PySem.EqMixed.eq_int_str (bJ I q (by simp))
  | _=>exact absurd (show false=true from hs) Bool.false_ne_true
 | str i =>
  obtain ⟨t,rfl⟩:=rx;cases y with
  | non=>cases ry;exact PySem.EqNone.eq_str_none (bJ I q (by simp))
  | bl j=>cases ry;exact PySem.EqMixed.eq_str_bool (bJ I q (by simp))
  | int j=>obtain ⟨t',rfl⟩:=ry;exact PySem.EqMixed.eq_str_int (bJ I q (by simp))
  | str j=>obtain ⟨t',rfl⟩:=ry;exact eq_str (bJ I q Aa)
  | _=>exact absurd (show false=true from hs) Bool.false_ne_true
 | byt i =>
  obtain ⟨t,rfl⟩:=rx;cases y with
  | byt j=>obtain ⟨t',rfl⟩:=ry;exact PySem.W.eq_bytes (bJ I q Ac)
  | _=>exact absurd (show false=true from hs) Bool.false_ne_true
 | _=>cases y <;> exact absurd (show false=true from hs) Bool.false_ne_true
theorem sv:OpR X (compareOp .NotEq) rNe:=by
 intro pins s σ H x y v u Q I rx ry h;obtain ⟨hs,q⟩:=h;cases x with
 | non =>
  cases rx
  cases y with
  | non=>cases ry;exact PySem.EqNone.ne_none_none (bJ I q (by simp))
  | bl j=>cases ry;exact PySem.EqNone.ne_none_bool (bJ I q (by simp))
  | int j=>obtain ⟨t',rfl⟩:=ry;exact PySem.EqNone.ne_none_int (bJ I q (by simp))
  | str j=>obtain ⟨t',rfl⟩:=ry;exact PySem.EqNone.ne_none_str (bJ I q (by simp))
  | _=>exact absurd (show false=true from hs) Bool.false_ne_true
 | bl i =>
  cases rx
  cases y with
  | non=>cases ry;exact PySem.EqNone.ne_bool_none (bJ I q (by simp))
  | bl j=>cases ry;exact ne_bool (bJ I q (congrArg not EO))
  | str j=>obtain ⟨t',rfl⟩:=ry;exact PySem.EqMixed.ne_bool_str (bJ I q (by simp))
  | _=>exact absurd (show false=true from hs) Bool.false_ne_true
 | int i =>
  obtain ⟨t,rfl⟩:=rx;cases y with
  | non=>cases ry;exact PySem.EqNone.ne_int_none (bJ I q (by simp))
  | int j=>obtain ⟨t',rfl⟩:=ry;exact ne_int (bJ I q (congrArg not Ab))
  | str j=>obtain ⟨t',rfl⟩:=ry;exact PySem.EqMixed.ne_int_str (bJ I q (by simp))
  | _=>exact absurd (show false=true from hs) Bool.false_ne_true
 | str i =>
  obtain ⟨t,rfl⟩:=rx;cases y with
  | non=>cases ry;exact PySem.EqNone.ne_str_none (bJ I q (by simp))
  | bl j=>cases ry;exact PySem.EqMixed.ne_str_bool (bJ I q (by simp))
  | int j=>obtain ⟨t',rfl⟩:=ry;exact PySem.EqMixed.ne_str_int (bJ I q (by simp))
  | str j=>obtain ⟨t',rfl⟩:=ry;exact ne_str (bJ I q (congrArg not Aa))
  | _=>exact absurd (show false=true from hs) Bool.false_ne_true
 | byt i =>
  obtain ⟨t,rfl⟩:=rx;cases y with
  | byt j=>obtain ⟨t',rfl⟩:=ry;exact PySem.W.ne_bytes (bJ I q (congrArg not Ac))
  | _=>exact absurd (show false=true from hs) Bool.false_ne_true
 | _=>cases y <;> exact absurd (show false=true from hs) Bool.false_ne_true
theorem oA:OpR X (compareOp .Lt) (rI0 λi j=>.bl (decide (i < j))):=opB0 λ_ _ _ _ _ _ _ q=>lt_int q
theorem oB:OpR X (compareOp .LtE) (rI0 λi j=>.bl (decide (i<=j))):=opB0 λ_ _ _ _ _ _ _ q=>le_int q
theorem qq:OpR X (compareOp .Gt) (rI0 λi j=>.bl (decide (j < i))):=opB0 λ_ _ _ _ _ _ _ q=>gt_int q
theorem vT:OpR X (compareOp .GtE) (rI0 λi j=>.bl (decide (j<=i))):=opB0 λ_ _ _ _ _ _ _ q=>ge_int q
theorem nH:OpR X (compareOp .Is) (λx y H Q=>y=.non/\Q (.bl (decide (x=.non))) H):=by
 intro pins s σ H x y v u Q I rx ry h;obtain ⟨rfl,q⟩:=h;cases ry
 refine is_none_gen (bJ I q ?_)
 cases x <;> first
  | (cases rx;rfl)
  | (obtain ⟨t,rfl⟩:=rx;rfl)
theorem zL:OpR X (compareOp .IsNot) (λx y H Q=>y=.non/\Q (.bl (!decide (x=.non))) H):=by
 intro pins s σ H x y v u Q I rx ry h;obtain ⟨rfl,q⟩:=h;cases ry
 refine isnot_none_gen (bJ I q ?_)
 cases x <;> first
  | (cases rx;rfl)
  | (obtain ⟨t,rfl⟩:=rx;rfl)
theorem aC (b:Expr) {op:CmpOp} (h:op≠.In:=by decide) (h2:op≠.NotIn:=by decide):behindInMarks op b=false:=by
 have e1:(op == CmpOp.In)=false:=by cases op <;> first | rfl | exact absurd rfl h
 have e2:(op == CmpOp.NotIn)=false:=by cases op <;> first | rfl | exact absurd rfl h2
 cases b <;> simp [behindInMarks,e1,e2]
theorem gw {op:CmpOp} {r:R2} (ho:OpR X (compareOp op) r) (ha:PE X a ta) (hb:PE X b tb) (hm:behindInMarks op b=false):PE X (.Compare a [op] [b] pos) (tOp r ta tb):=by
 intro pins s σ H Q I h;exact wpAny_Compare1 (binT ha hb I h λv u s2 x y H2 I2 rx ry q=>ho pins s2 σ H2 x y v u Q I2 rx ry q) hm
def tTest (t:TE):TT:=λσ H Q=>t σ H λx H'=>XBl x λk=>Q k H'
theorem au {op:CmpOp} {r:R2} (ho:OpR X (compareOp op) r) (ha:PE X a ta) (hb:PE X b tb) (hm:behindInMarks op b=false):PT X (.Compare a [op] [b] pos) (tTest (tOp r ta tb)):=by
 intro pins s σ H Q I h
 refine wpAny_isTrue_Compare1 (thn (ha pins s σ H _ I h) λv s1 ⟨x,H1,I1,r1,q1⟩=>thn (hb pins s1 σ H1 _ I1 q1) λu s2 ⟨y,H2,I2,r2,q2⟩ =>
  thn (ho pins s2 σ H2 x y v u _ I2 r1 r2 q2) λc s3 ⟨z,H3,I3,r3,k,e,q3⟩=>?_) hm
 subst e;cases r3
 exact wpAny_truthy_bool ⟨H3,I3,q3⟩
def Ck (r r':R2) (ta tb tc:TE):TE:=λσ H Q=>ta σ H λx H1=>tb σ H1 λy H2=>r x y H2 λz H3=>∃ k,z=.bl k/\
 (if k=true then tc σ H3 λw' H4=>r' y w' H4 Q else Q (.bl false) H3)
theorem vR {op op':CmpOp} {r r':R2} (ho:OpR X (compareOp op) r) (ho':OpR X (compareOp op') r') (ha:PE X a ta) (hb:PE X b tb) (hc:PE X c tc)
  (hm:lastMarks [op,op'] [b,c]=false:=by with_unfolding_all rfl):PE X (.Compare a [op,op'] [b,c] pos) (Ck r r' ta tb tc):=by
 intro pins s σ H Q I h
 refine Compare_chain (thn (ha pins s σ H _ I h) λv s1 ⟨x,H1,I1,r1,q1⟩=>chain_link (thn (hb pins s1 σ H1 _ I1 q1) λu s2 ⟨y,H2,I2,r2,q2⟩ =>
  thn (ho pins s2 σ H2 x y v u _ I2 r1 r2 q2) λd s3 ⟨z,H3,I3,r3,k,e,q3⟩=>?_)) hm
 subst e;cases r3
 refine wpAny_truthy_bool ?_;cases k with
 | false=>exact ite_ff ⟨.bl false,H3,I3,rfl,q3⟩
 | true=>exact ite_tt (chain_last (thn (hc pins s3 σ H3 _ I3 q3) λw' s4 ⟨z',H4,I4,r4,q4⟩=>ho' pins s4 σ H4 y z' u w' Q I4 r2 r4 q4))
theorem Dp {op op':CmpOp} {r r':R2} (ho:OpR X (compareOp op) r) (ho':OpR X (compareOp op') r') (ha:PE X a ta) (hb:PE X b tb) (hc:PE X c tc)
  (hm:lastMarks [op,op'] [b,c]=false:=by with_unfolding_all rfl):PT X (.Compare a [op,op'] [b,c] pos) (tTest (Ck r r' ta tb tc)):=by
 intro pins s σ H Q I h
 refine isTrue_chain (thn (ha pins s σ H _ I h) λv s1 ⟨x,H1,I1,r1,q1⟩=>test_link (thn (hb pins s1 σ H1 _ I1 q1) λu s2 ⟨y,H2,I2,r2,q2⟩ =>
  thn (ho pins s2 σ H2 x y v u _ I2 r1 r2 q2) λd s3 ⟨z,H3,I3,r3,k,e,q3⟩=>?_)) hm
 subst e;cases r3
 refine wpAny_truthy_bool ?_;cases k with
 | false =>
  obtain ⟨k',e',q'⟩:=q3;cases e'
  exact ite_ff ⟨H3,I3,q'⟩
 | true =>
  refine ite_tt (test_last (thn (hc pins s3 σ H3 _ I3 q3) λw' s4 zz=>?_));obtain ⟨z',H4,I4,r4,q4⟩:=zz;refine thn (ho' pins s4 σ H4 y z' u w' _ I4 r2 r4 q4) λd' s5 zz=>?_;obtain ⟨z2,H5,I5,r5,k2,e2,q5⟩:=zz;subst e2;cases r5
  exact wpAny_truthy_bool ⟨H5,I5,q5⟩
def TruV (K:W.Frag) (x:V) (H:Hp) (k:Bool):Prop:=
 match x with
 | .non=>k=false
 | .bl b=>k=b
 | .int i=>k=(i != 0)
 | .str y=>y.length<=sizeLine/\k=((y.length:Int) != 0)
 | .byt y=>y.size<=sizeLine/\k=((y.size:Int) != 0)
 | .ref p=>(∃ xs,SqL K H p xs/\k = !xs.isEmpty)\/(∃ xs,SqT K H p xs/\k = !xs.isEmpty)\/∃ kvs,H p=some (.dK kvs)/\k = !kvs.isEmpty
 | _=>False
theorem yl {κ:Type} {kvs:List (κ×V)} {vs:List (κ×Value)} (r:KV kvs vs):(!vs.isEmpty) = !kvs.isEmpty:=by
 cases r <;> rfl
theorem qH {xs:List V} {its:List Value} (r:Vals xs its):(!its.toArray.isEmpty) = !xs.isEmpty:=by
 cases r <;> simp
theorem uj:(sizeLine:Nat) < 2 ^ 63:=by rw [sizeLine_eq];decide
theorem tru_ok:TruR X (λx H Q=>∃ k,TruV X.K x H k/\Q k H):=by
 intro pins s σ H x v Q I rx h;obtain ⟨k,e,q⟩:=h;have hl:=uj;have hs:sizeLine=16777216:=sizeLine_eq;cases x with
 | non =>
  cases rx
  have e':k=false:=e;subst e';exact truthy_none ⟨H,I,q⟩
 | bl b =>
  cases rx
  have e':k=b:=e;subst e';exact wpAny_truthy_bool ⟨H,I,q⟩
 | int i =>
  obtain ⟨t,rfl⟩:=rx;have e':k=(i != 0):=e;subst e';exact PySem.P.truthy_int ⟨H,I,q⟩
 | str y =>
  obtain ⟨t,rfl⟩:=rx;obtain ⟨hy,e'⟩:y.length<=sizeLine/\k=((y.length:Int) != 0):=e;subst e';exact PySem.P.truthy_str (by omega) ⟨H,I.tok _,q⟩
 | byt y =>
  obtain ⟨t,rfl⟩:=rx;obtain ⟨hy,e'⟩:y.size<=sizeLine/\k=((y.size:Int) != 0):=e;subst e';exact PySem.W.truthy_bytes (by omega) ⟨H,I.tok _,q⟩
 | ref p =>
  cases rx
  have e':(∃ xs,SqL X.K H p xs/\k = !xs.isEmpty)\/(∃ xs,SqT X.K H p xs/\k = !xs.isEmpty)\/∃ kvs,H p=some (.dK kvs)/\k = !kvs.isEmpty:=e;rcases e' with ⟨xs,hx,e'⟩ | ⟨xs,hx,e'⟩ | ⟨kvs,hx,e'⟩
  ·subst e';obtain ⟨its,r,pl,hz⟩:=I.list hx;have hlen:=r.length;exact wpAny_truthy_list pl.isList (by simp only [List.size_toArray];omega) ⟨H,I.tok _,by rw [qH r];exact q⟩
  ·subst e';obtain ⟨its,r,pl,hz⟩:=I.tuple hx;have hlen:=r.length;exact truthy_tuple pl (by simp only [List.size_toArray];omega) ⟨H,I.tok _,by rw [qH r];exact q⟩
  ·subst e';obtain ⟨hz,hS,vs,r,m⟩:kvs.length<=sizeLine/\(p == sysModules)=false/\∃ vs,KV kvs vs/\s.heap.DictOf (dF X.prog X.w) p vs:=I.hok p _ hx;have hlen:kvs.length=vs.length:=Paired.length r;exact wpAny_truthy_dict hS m (by omega) ⟨H,I.tok _,by rw [yl r];exact q⟩
 | _=>exact (show False from e).elim
theorem qk (ha:PE X a ta) (he:∀ whole,isTrue a X.env whole=(do let v <- whole;standAt a.pos;holding [v] (truthy v))) :
  PT X a (λσ H Q=>ta σ H λx H'=>∃ k,TruV X.K x H' k/\Q k H'):=by
 intro pins s σ H Q I h;refine isTrue_plain (thn (ha pins s σ H _ I h) λv s1 zz=>?_) (he _);obtain ⟨x,H1,I1,r1,q1⟩:=zz;exact tru_ok pins s1 σ H1 x v Q I1 r1 q1
theorem vals1 {x:V} {us:List Value} (r:Vals [x] us):∃ u,us=[u]/\RelV x u:=by
 cases r with
 | cons r1 r2=>cases r2;exact ⟨_,rfl,r1⟩
theorem vals2 {x y:V} {us:List Value} (r:Vals [x,y] us):∃ u w',us=[u,w']/\RelV x u/\RelV y w':=by
 cases r with
 | cons r1 r2 =>
  cases r2 with
  | cons r3 r4=>cases r4;exact ⟨_,_,rfl,r1,r3⟩
theorem jZ:gR X (.builtin "abs") (λxs H Q=>∃ i,xs=[.int i]/\Q (.int (if i < 0 then -i else i)) H):=by
 intro pins s σ H xs us Q I r h;obtain ⟨i,rfl,q⟩:=h;obtain ⟨u,rfl,t,rfl⟩:=vals1 r;exact call_abs_int λu tk=>⟨.int (if i < 0 then -i else i),H,I.tok _,⟨_,rfl⟩,q⟩
theorem kI (hc:X.calm=true):gR X (.builtin "max") (λxs H Q=>∃ i j,xs=[.int i,.int j]/\Q (.int (if j > i then j else i)) H):=by
 intro pins s σ H xs us Q I r h;obtain ⟨i,j,rfl,q⟩:=h;obtain ⟨u,w',rfl,⟨t,rfl⟩,⟨t',rfl⟩⟩:=vals2 r;refine max_two_ints (I.ok.hd hc) λh' tk k=>⟨_,H,I.kept k,?_,q⟩
 by_cases hj:j > i
 ·rw [if_pos hj,if_pos hj];exact ⟨_,rfl⟩
 ·rw [if_neg hj,if_neg hj];exact ⟨_,rfl⟩
theorem je (hc:X.calm=true):gR X (.builtin "min") (λxs H Q=>∃ i j,xs=[.int i,.int j]/\Q (.int (if j < i then j else i)) H):=by
 intro pins s σ H xs us Q I r h;obtain ⟨i,j,rfl,q⟩:=h;obtain ⟨u,w',rfl,⟨t,rfl⟩,⟨t',rfl⟩⟩:=vals2 r;refine min_two_ints (I.ok.hd hc) λh' tk k=>⟨_,H,I.kept k,?_,q⟩
 by_cases hj:j < i
 ·rw [if_pos hj,if_pos hj];exact ⟨_,rfl⟩
 ·rw [if_neg hj,if_neg hj];exact ⟨_,rfl⟩
theorem BG:gR X (.type "int") (λxs H Q=>(∃ i,xs=[.int i]/\Q (.int i) H)\/∃ k,xs=[.bl k]/\Q (.int (if k then 1 else 0)) H):=by
 intro pins s σ H xs us Q I r h;rcases h with ⟨i,rfl,q⟩ | ⟨k,rfl,q⟩
 ·obtain ⟨u,rfl,t,rfl⟩:=vals1 r;exact call_int_int ⟨.int i,H,I,⟨_,rfl⟩,q⟩
 ·obtain ⟨u,rfl,r1⟩:=vals1 r;cases r1
  exact call_int_bool ⟨.int (if k then 1 else 0),H,I.tok _,⟨_,rfl⟩,q⟩
def LenV (K:W.Frag) (x:V) (H:Hp) (n:Nat):Prop:=
 match x with
 | .str y=>y.length<=sizeLine/\n=y.length
 | .byt y=>y.size<=sizeLine/\n=y.size
 | .ref p=>(∃ xs,SqL K H p xs/\n=xs.length)\/∃ xs,SqT K H p xs/\n=xs.length
 | _=>False
theorem di:gR X (.builtin "len") (λxs H Q=>∃ x n,xs=[x]/\LenV X.K x H n/\Q (.int n) H):=by
 intro pins s σ H xs us Q I r h;obtain ⟨x,n,rfl,e,q⟩:=h;obtain ⟨u,rfl,rx⟩:=vals1 r;have hl:=uj;have hs:sizeLine=16777216:=sizeLine_eq;cases x with
 | str y =>
  obtain ⟨t,rfl⟩:=rx;obtain ⟨hy,e'⟩:y.length<=sizeLine/\n=y.length:=e;subst e';exact len_str (by omega) ⟨.int _,H,I.tok _,⟨_,rfl⟩,q⟩
 | byt y =>
  obtain ⟨t,rfl⟩:=rx;obtain ⟨hy,e'⟩:y.size<=sizeLine/\n=y.size:=e;subst e';exact PySem.W.len_bytes (by omega) ⟨.int _,H,I.tok _,⟨_,rfl⟩,q⟩
 | ref p =>
  cases rx
  have e':(∃ xs,SqL X.K H p xs/\n=xs.length)\/∃ xs,SqT X.K H p xs/\n=xs.length:=e;rcases e' with ⟨xs,hx,e'⟩ | ⟨xs,hx,e'⟩
  ·subst e';obtain ⟨its,r',pl,hz⟩:=I.list hx;have hlen:=r'.length;exact Calls.call_len_list pl.isList (by simp only [List.size_toArray];omega) ⟨.int xs.length,H,I.tok _,⟨_,by simp only [List.size_toArray];rw [hlen]⟩,q⟩
  ·subst e';obtain ⟨its,r',pl,hz⟩:=I.tuple hx;have hlen:=r'.length;exact len_tuple pl (by simp only [List.size_toArray];omega) ⟨.int xs.length,H,I.tok _,⟨_,by simp only [List.size_toArray];rw [hlen]⟩,q⟩
 | _=>exact (show False from e).elim
end
structure yL (h:Heap) (x dx C:Addr) (mA:Str->Option Value):Prop where
 obj:h.get? x=some (PySem.W.instObj C dx)
 ns:h.Ns1 dx mA
 ne:dx≠x
theorem Bm {h:Heap} {dx:Addr} {mA:Str->Option Value} (n:h.Ns1 dx mA):∃ od,h.get? dx=some od/\∀ name,PySem.W.lookIn name od=some (mA name):=by
 obtain ⟨o,es,ep,ho,hd,hk,_,hm⟩:=n;refine ⟨o,ho,λname=>?_⟩;have e:=hm name;unfold nsFind findBy at e;rw [<- Array.find?_toList] at e;unfold PySem.W.lookIn;rw [hd];dsimp only;split
 ·rename_i y q;rw [q] at e;exact congrArg some e
 ·rename_i q;rw [q] at e
  have a:es.toList.any (·.refKey)=false:=by
   rw [List.any_eq_false];intro y hy;obtain ⟨z,t,hkey⟩:=hk y (Array.mem_toList_iff.mp hy);simp [DictEntry.refKey,hkey]
  have a':¬es.toList.any (·.refKey)=true:=by rw [a];exact Bool.false_ne_true
  rw [if_neg a'];exact congrArg some e
theorem yL.look {h:Heap} {x dx C:Addr} {mA:Str->Option Value} (I:yL h x dx C mA):∃ od,PySem.W.InstAt h x (PySem.W.instObj C dx) C (some od)/\∀ name,PySem.W.lookIn name od=some (mA name):=
 let ⟨od,ho,hl⟩:=Bm I.ns
 ⟨od,⟨I.obj,rfl,rfl,ho⟩,hl⟩
section
variable {prog:Program} {w:World} {A:Around} {E:Value->Shared->Prop} {s:Shared} {K:W.Frag} {x dx C f:Addr} {mA:Str->Option Value} {name:Str} {v:Value}
theorem get_map {expr:Bool} {Q:Value->Shared->Prop} (X:K.In s.heap) (I:yL s.heap x dx C mA) (hg:PySem.W.plainGet K C name=true) (hh:PySem.W.hasDictIn K C=true)
  (ha:PySem.W.findIn K (.ref C) name=some none) (hv:mA name=some v) (hv':PySem.W.handedIn v=true) (h:Q v {s with toks:=s.toks+1}) :
  wpAny (model prog w) A (getAttr (.ref x) name expr) Q E s:=by
 obtain ⟨od,J,hl⟩:=I.look;exact PySem.W.get_value X J (PySem.W.plainGet_of hg).1 (PySem.W.findObj_own hh ha rfl (by rw [hl,hv])) hv' h
theorem Eu {pl:Sem Bool} {Q:Value×List Value->Shared->Prop} (X:K.In s.heap) (I:yL s.heap x dx C mA) (hg:PySem.W.plainGet K C name=true)
  (hf:PySem.W.findIn K (.ref C) name=some (some (.ref f))) (ht:PySem.W.isFn K (.ref f)=true) (hv:mA name=none) (h:Q (.ref f,[.ref x]) s) :
  wpAny (model prog w) A (getMethod (.ref x) name pl) Q E s:=by
 obtain ⟨od,J,hl⟩:=I.look;exact PySem.W.method_fn X J (PySem.W.plainGet_of hg).1 (PySem.W.plainGet_of hg).2 hf (beq_iff_eq.mp ht) (by show (PySem.W.lookIn name od).map (·.isSome)=some false;rw [hl,hv];rfl) h
theorem set_map {ns:List Str} {Q:Unit->Shared->Prop} (X:K.In s.heap) (I:yL s.heap x dx C mA)
  (hs:PySem.W.findIn K (.ref C) "__setattr__"=some (some (.builtin "object.__setattr__"))) (hp:PySem.W.plainOver K C=true) (ht:PySem.W.takerIn K C name=some none) (hh:PySem.W.hasDictIn K C=true)
  (hw:PySem.Within mA ns) (hsz:ns.length<=sizeLine)
  (h:∀ h',yL h' x dx C (λy=>if y=name then some v else mA y)->Heap.SameBut dx s.heap h'->Q () {s with heap:=h',toks:=s.toks+2}) :
  wpAny (model prog w) A (setAttr (.ref x) name v) Q E s:=by
 obtain ⟨od,J,hl⟩:=I.look;refine PySem.W.set_plain X J hs (PySem.W.osa_open (s:={s with toks:=s.toks+1}) (r:=none) X J hp ht λb=>?_)
 obtain ⟨cd,hc,hd'⟩:=PySem.W.any_some hh;have hx:s.heap.get? x=some ⟨.ref C,some dx,.plain,#[]⟩:=I.obj;refine wpAny_bind (wpAny_pure (wpAny_bind (wpAny_bind (wpAny_loadPart hx (wpAny_bind (PySem.W.Looks.here (s:={s with toks:=s.toks+1}) (PySem.W.looks_clsIn X hc) ?_))))))
 rw [hd'];refine wpAny_pure (a:=some dx) (wpAny_bind (wpAny_pure (wpAny_bind ?_)));refine wpAny_nsSet1 (s:={s with toks:=s.toks+1}) I.ns λh' hn2 hs2=>?_
 obtain ⟨oD,esD,epD,hoD,hdD,hcD⟩:=hn2.count (PySem.Within.cons name v hw);refine wpAny_bind (wpAny_lookBehind hoD (by rw [hdD];exact pastItsLine_dict (Nat.le_trans hcD (by rw [List.length_cons];omega))) ?_);exact wpAny_pure (h _ ⟨(hs2.2 _ (Ne.symm I.ne)).trans I.obj,hn2,I.ne⟩ hs2)
theorem Ed {R:Result->Shared->Prop} {vs:List Value} {kw:List (Str×Value)} (X:K.In s.heap) (hm:PySem.W.makesIn K C=true)
  (hi:PySem.W.findIn K (.ref C) "__init__"=some (some (.ref f))) (hf:PySem.W.typeIn K (.ref f)=some (.type "function"))
  (h:codeAny (model prog w) (A.under (.builtin "type.__call__" ⟨.ref C::vs,kw⟩)) (.call (.ref f) ⟨.ref (s.heap.objs.size+1)::vs,kw⟩) (PySem.W.InitBack (s.heap.objs.size+1) R)
   {s with heap:=(s.heap.push PySem.W.emptyDict).push (PySem.W.instObj C s.heap.objs.size) }) :
  codeAny (model prog w) A (.call (.ref C) ⟨vs,kw⟩) R s:=by
 obtain ⟨hh,g,d,t,os⟩:=s;exact PySem.W.make_core (PySem.W.makes_of X hm) (PySem.W.looks_findIn X hi) (λself=>PySem.W.bind_fn X self hf) (.inl rfl) h
theorem Bk {R:Result->Shared->Prop} (X:K.In s.heap) (hm:PySem.W.makesIn K C=true)
  (hi:PySem.W.findIn K (.ref C) "__init__"=some (some (.builtin "object.__init__")))
  (hb:∀ self,PySem.W.Looks (model prog w) s.heap (bindSpecial (.builtin "object.__init__") self) (.builtin "object.__init__",[self]))
  (h:codeAny (model prog w) (A.under (.builtin "type.__call__" ⟨[.ref C],[]⟩)) (.call (.builtin "object.__init__") ⟨[.ref (s.heap.objs.size+1)],[]⟩) (PySem.W.InitBack (s.heap.objs.size+1) R)
   {s with heap:=(s.heap.push PySem.W.emptyDict).push (PySem.W.instObj C s.heap.objs.size) }) :
  codeAny (model prog w) A (.call (.ref C) ⟨[],[]⟩) R s:=by
 obtain ⟨hh,g,d,t,os⟩:=s;exact PySem.W.make_core (PySem.W.makes_of X hm) (PySem.W.looks_findIn X hi) hb (.inr ⟨rfl,rfl⟩) h
end
def jq (f:Str) (v:V):List (Str×V)->List (Str×V)
 | []=>[(f,v)]
 | (g,x)::r=>if g=f then (g,v)::r else (g,x)::jq f v r
theorem oC (f g:Str) (v:V):∀ fs:List (Str×V),(jq f v fs).lookup g=if g=f then some v else fs.lookup g
 | []=>by
  show List.lookup g [(f,v)]=_
  by_cases h:g=f
  ·have hb:(g == f)=true:=beq_iff_eq.mpr h;simp only [List.lookup,hb,if_pos h]
  ·have hb:(g == f)=false:=beq_eq_false_iff_ne.mpr h;simp only [List.lookup,hb,if_neg h]
 | (k,x)::r=>by
  have ih:=oC f g v r;rw [show jq f v ((k,x)::r)=(if k=f then (k,v)::r else (k,x)::jq f v r) from rfl]
  by_cases hk:k=f
  ·rw [if_pos hk]
   by_cases h:g=k
   ·have hb:(g == k)=true:=beq_iff_eq.mpr h;simp only [List.lookup,hb,if_pos (h.trans hk)]
   ·have hb:(g == k)=false:=beq_eq_false_iff_ne.mpr h;simp only [List.lookup,hb,if_neg (λe:g=f=>h (e.trans hk.symm))]
  ·rw [if_neg hk]
   by_cases h:g=k
   ·have hb:(g == k)=true:=beq_iff_eq.mpr h;simp only [List.lookup,hb,if_neg (λe:g=f=>hk (h.symm.trans e))]
   ·have hb:(g == k)=false:=beq_eq_false_iff_ne.mpr h;simp only [List.lookup,hb];exact ih
theorem nM (f:Str) (v:V):∀ fs:List (Str×V),f∈(jq f v fs).map (·.1)/\∀ g,g∈fs.map (·.1)->g∈(jq f v fs).map (·.1)
 | []=>⟨by simp [jq],λg h=>by simp at h⟩
 | (k,x)::r=>by
  obtain ⟨i1,i2⟩:=nM f v r;rw [show jq f v ((k,x)::r)=(if k=f then (k,v)::r else (k,x)::jq f v r) from rfl]
  by_cases hk:k=f
  ·rw [if_pos hk];subst hk;exact ⟨by simp,λg h=>by simpa using h⟩
  ·rw [if_neg hk];refine ⟨?_,λg h=>?_⟩
   ·rw [List.map_cons];exact List.mem_cons_of_mem _ i1
   ·rw [List.map_cons] at h ⊢;rcases List.mem_cons.mp h with e | e
    ·exact List.mem_cons.mpr (.inl e)
    ·exact List.mem_cons_of_mem _ (i2 g e)
theorem oG (f:Str) (v:V):∀ fs:List (Str×V),(jq f v fs).length<=fs.length+1
 | []=>by simp [jq]
 | (k,x)::r=>by
  have ih:=oG f v r;rw [show jq f v ((k,x)::r)=(if k=f then (k,v)::r else (k,x)::jq f v r) from rfl]
  by_cases hk:k=f
  ·rw [if_pos hk,List.length_cons,List.length_cons];omega
  ·rw [if_neg hk,List.length_cons,List.length_cons];omega
theorem kM.some_of {v:V} {o:Option Value} (r:kM (some v) o):∃ u,o=some u/\RelV v u:=by
 cases o with
 | none=>exact (show False from r).elim
 | some u=>exact ⟨u,rfl,r⟩
theorem kM.none_of {o:Option Value} (r:kM none o):o=none:=by
 cases o with
 | none=>rfl
 | some u=>exact (show False from r).elim
theorem Bu {v:V} {u:Value} (r:RelV v u):PySem.W.handedIn u=true:=by
 cases v with
 | non=>cases (show u=Value.none from r);rfl
 | bl b=>cases (show u=Value.bool b from r);rfl
 | int i=>obtain ⟨t,e⟩:=(show ∃ t,u=Value.int i t from r);cases e;rfl
 | str x=>obtain ⟨t,e⟩:=(show ∃ t,u=Value.str x t from r);cases e;rfl
 | byt b=>obtain ⟨t,e⟩:=(show ∃ t,u=Value.bytes b t from r);cases e;rfl
 | flt b=>obtain ⟨t,e⟩:=(show ∃ t,u=Value.float b t from r);cases e;rfl
 | ref a=>cases (show u=Value.ref a from r);rfl
 | ty n=>cases (show u=Value.type n from r);rfl
section
variable {P:Program} {w:World} {H H':Hp} {h h':Heap} {a C dx:Addr} {fs fs':List (Str×V)}
theorem pG (hok:HOk P w H h) (e:H a=some (.ins C dx fs)):∃ mA,yL h a dx C mA/\(∀ f,kM (fs.lookup f) (mA f))/\PySem.Within mA (fs.map (·.1))/\fs.length<=1000/\H dx=some (.own a):=by
 obtain ⟨d,z,ne,ob,mA,n,r,q⟩:=(show cq P w H h a (.ins C dx fs) from hok a _ e);exact ⟨mA,⟨ob,n,ne⟩,r,q,z,d⟩
end
structure Cls (K:W.Frag) (C:Addr):Prop where
 pg:PySem.W.plainGet K C Str.empty=true
 hd:PySem.W.hasDictIn K C=true
 po:PySem.W.plainOver K C=true
 sa:PySem.W.findIn K (.ref C) "__setattr__"=some (some (.builtin "object.__setattr__"))
theorem Cls.get {K:W.Frag} {C:Addr} (c:Cls K C) (f:Str):PySem.W.plainGet K C f=true:=c.pg
def fK (K:W.Frag) (C:Addr) (f:Str):Prop:=PySem.W.findIn K (.ref C) f=some none
theorem fK.taker {K:W.Frag} {C:Addr} {f:Str} (n:fK K C f):PySem.W.takerIn K C f=some none:=by
 unfold PySem.W.takerIn;rw [show PySem.W.findIn K (.ref C) f=some none from n];rfl
structure Meth (K:W.Frag) (C:Addr) (m:Str) (f:Addr):Prop where
 at_:PySem.W.findIn K (.ref C) m=some (some (.ref f))
 fn:PySem.W.isFn K (.ref f)=true
 kp:PySem.W.keepIn K (.ref f)=true
section
variable {X:Cx} {pins:List (Addr×Obj)} {σ:St} {H:Hp} {s:Shared} {a C dx:Addr} {fs:List (Str×V)} {f:Str} {v:V} {A:Around} {E:Value->Shared->Prop}
theorem yn {b:Bool} {Q:Value->Shared->Prop} (I:Inv X pins σ H s) (e:H a=some (.ins C dx fs)) (c:Cls X.K C) (n:fK X.K C f) (l:fs.lookup f=some v)
  (h:∀ u s',Inv X pins σ H s'->RelV v u->Q u s'):wpAny (model X.prog X.w) A (getAttr (.ref a) f b) Q E s:=by
 obtain ⟨mA,O,r,_,_,_⟩:=pG I.hok e;obtain ⟨u,hu,ru⟩:=kM.some_of (v:=v) (o:=mA f) (by rw [<- l];exact r f);exact get_map I.kIn O (c.get f) c.hd n hu (Bu ru) (h u _ (I.tok _) ru)
theorem qJ {m:Str} {g:Addr} {pl:Sem Bool} {Q:Value×List Value->Shared->Prop} (I:Inv X pins σ H s) (e:H a=some (.ins C dx fs)) (c:Cls X.K C) (k:Meth X.K C m g) (l:fs.lookup m=none)
  (h:Q (.ref g,[.ref a]) s):wpAny (model X.prog X.w) A (getMethod (.ref a) m pl) Q E s:=by
 obtain ⟨mA,O,r,_,_,_⟩:=pG I.hok e;have hn:mA m=none:=kM.none_of (by rw [<- l];exact r m);exact Eu I.kIn O (c.get m) k.at_ k.fn hn h
theorem xH {y:V} {u:Value} {Q:Unit->Shared->Prop} (I:Inv X pins σ H s) (e:H a=some (.ins C dx fs)) (c:Cls X.K C) (n:fK X.K C f) (hl:fs.length < 1000) (ry:RelV y u)
  (h:∀ s',Inv X pins σ (upd H a (.ins C dx (jq f y fs))) s'->Q () s'):wpAny (model X.prog X.w) A (setAttr (.ref a) f u) Q E s:=by
 obtain ⟨mA,O,r,wi,_,ho⟩:=pG I.hok e;have hz:(fs.map (·.1)).length<=sizeLine:=by rw [List.length_map,sizeLine_eq];omega
 refine set_map I.kIn O c.sa c.po n.taker c.hd wi hz λh' O' sb=>h _ ?_;have hd:∃ o,h'.get? dx=some o:=let ⟨o,_,_,e',_⟩:=O'.ns;⟨o,e'⟩;refine I.write (x:=a) (e:=dx) (by rw [e];exact True.intro) (.inr ho) (λb q hb z=>(sb.2 b hb).trans z) hd ?_;refine ⟨by rw [aB O.ne];exact ho,?_,O.ne,O'.obj,_,O'.ns,λg=>?_,λg hg=>?_⟩
 ·have:=oG f y fs;omega
 ·show kM ((jq f y fs).lookup g) (if g=f then some u else mA g);rw [oC]
  by_cases q:g=f
  ·rw [if_pos q,if_pos q];exact ry
  ·rw [if_neg q,if_neg q];exact r g
 ·by_cases q:g=f
  ·rw [q];exact (nM f y fs).1
  ·refine (nM f y fs).2 g (wi g λz=>hg ?_);show (if g=f then some u else mA g)=none;rw [if_neg q];exact z
theorem Inv.made (I:Inv X pins σ H s):Inv X pins σ (upd (upd H s.heap.objs.size (.own (s.heap.objs.size+1))) (s.heap.objs.size+1) (.ins C s.heap.objs.size []))
  {s with heap:=(s.heap.push PySem.W.emptyDict).push (PySem.W.instObj C s.heap.objs.size) }:=by
 have e1:(s.heap.push PySem.W.emptyDict).get? s.heap.objs.size=some PySem.W.emptyDict:=Heap.get?_push_size s.heap rfl
 have e2:((s.heap.push PySem.W.emptyDict).push (PySem.W.instObj C s.heap.objs.size)).get? (s.heap.objs.size+1)=some (PySem.W.instObj C s.heap.objs.size):=by
  have:=Heap.get?_push_size (s.heap.push PySem.W.emptyDict) (o:=PySem.W.instObj C s.heap.objs.size) rfl
  rwa [Heap.size_push] at this
 have e3:(s.heap.push PySem.W.emptyDict).Ns s.heap.objs.size (λ_=>none):=⟨PySem.W.emptyDict,#[],_,e1,rfl,(λe he=>absurd he (by simp)),λ_=>rfl⟩;have I1:=I.laid (a:=s.heap.objs.size) (o:=.own (s.heap.objs.size+1)) (h':=s.heap.push PySem.W.emptyDict) (t':=s.toks) (λb u q=>Heap.get?_push_of_some _ q) (Nat.le_refl _) ⟨_,e1⟩;refine I1.laid (a:=s.heap.objs.size+1) (o:=.ins C s.heap.objs.size []) (t':=s.toks) (λb u q=>Heap.get?_push_of_some _ q) (Nat.le_of_eq (Heap.size_push _ _)) ?_;have ne:s.heap.objs.size≠s.heap.objs.size+1:=Nat.ne_of_lt (Nat.lt_succ_self _);refine ⟨by rw [aB ne,af],Nat.zero_le _,ne,e2,λ_=>none,(Heap.Ns1.of_empty e3).at λo q=>Heap.get?_push_of_some _ q,λ_=>True.intro,λy hy=>absurd rfl hy⟩
theorem attr_of {prog:Program} {w:World} {env:Env} {e:Expr} {f:Str} {pos:Pos} {s:Shared} {Q:Value->Shared->Prop} (hb:attributeBase e f env (eval e env)=eval e env)
  (h:wpAny (model prog w) A (eval e env) (λo s₁=>wpAny (model prog w) A (getAttr o f true) Q E s₁) E s):wpAny (model prog w) A (eval (.Attribute e f pos) env) Q E s:=
 Attribute_any_ h (by rw [arm_eval_Attribute,hb])
end
def tFld (K:W.Frag) (ta:TE) (f:Str):TE:=λσ H Q=>ta σ H λx H1=>∃ a C dx fs v,x=.ref a/\H1 a=some (.ins C dx fs)/\Cls K C/\fK K C f/\fs.lookup f=some v/\Q v H1
def sFld (K:W.Frag) (ta tv:TE) (f:Str):TS:=λD σ H=>tv σ H λy H1=>ta σ H1 λx H2=>∃ a C dx fs,x=.ref a/\H2 a=some (.ins C dx fs)/\Cls K C/\fK K C f/\fs.length < 1000/\
 D.nx σ (upd H2 a (.ins C dx (jq f y fs)))
section
variable {X:Cx} {o e value:Expr} {f:Str} {pos pos' tpos:Pos} {ta tv:TE}
theorem iI (he:PE X e ta) (hb:attributeBase e f X.env (eval e X.env)=eval e X.env):PE X (.Attribute e f pos) (tFld X.K ta f):=by
 intro pins s σ H Q I h;refine attr_of hb (thn (he pins s σ H _ I h) λu s1 zz=>?_);obtain ⟨x,H1,I1,rx,a,C,dx,fs,v,ex,ea,c,n,l,q⟩:=zz;subst ex;obtain rfl:u=Value.ref a:=rx;exact yn I1 ea c n l λu' s2 I2 ru=>⟨v,H1,I2,ru,q⟩
theorem tO (ha:PE X o ta) (hv:PE X value tv) (hs:swapsWith value (some (.Attribute o f pos')) pos.line X.env=pure false):PS X (.Assign [.Attribute o f pos'] value pos) (sFld X.K ta tv f):=by
 intro pins s σ H D I h;refine plainObj_wpAny_Assign_Attribute (thn (hv pins s σ H _ I h) λu s1 zz=>?_) hs;obtain ⟨y,H1,I1,ry,q⟩:=zz;refine thn (ha pins s1 σ H1 _ I1 q) λov s2 zz=>?_;obtain ⟨x,H2,I2,rx,a,C,dx,fs,ex,ea,c,n,l,q2⟩:=zz;subst ex;obtain rfl:ov=Value.ref a:=rx;exact xH I2 ea c n l ry λs3 I3=>⟨σ,_,I3,q2⟩
end
section
variable {X:Cx} {pins:List (Addr×Obj)} {σ:St} {H:Hp} {s:Shared} {A:Around} {E:Value->Shared->Prop} {Q:Value->Shared->Prop} {c:Value} {b:Bool}
inductive kg (K:W.Frag) (H:Hp):V->Value->Prop where
 | non:kg K H .non (.type "NoneType")
 | bl (x:Bool):kg K H (.bl x) (.type "bool")
 | int (i:Int):kg K H (.int i) (.type "int")
 | str (x:Str):kg K H (.str x) (.type "str")
 | flt (x:UInt64):kg K H (.flt x) (.type "float")
 | lst {a:Addr} {xs:List V} (e:H a=some (.lst xs)):kg K H (.ref a) (.type "list")
 | frz {a:Addr} {o:Obj} {xs:List V} (e:H a=some (.frz o (.lst xs))):kg K H (.ref a) (.type "list")
 | tup {a:Addr} {xs:List V} (e:H a=some (.tup xs)):kg K H (.ref a) (.type "tuple")
 | dK {a:Addr} {kvs:List (Key×V)} (e:H a=some (.dK kvs)):kg K H (.ref a) (.type "dict")
 | dT {a:Addr} {kvs:List (List Key×V)} (e:H a=some (.dT kvs)):kg K H (.ref a) (.type "dict")
 | ins {a C dx:Addr} {fs:List (Str×V)} (e:H a=some (.ins C dx fs)) (cl:Cls K C) (ha:PySem.W.findIn K (.ref C) "__class__"=some (some (.builtin "object.__class__")))
   (hn:PySem.W.specialIn K (.builtin "object.__class__") "__get__"=some (some (.builtin "getset_descriptor.__get__"))) (htk:PySem.W.takesIn K (.builtin "object.__class__")=some true)
   (hm:PySem.W.mroIn K C (.type "object")=some true):kg K H (.ref a) (.ref C)
theorem Br {x:V} {u t:Value} (I:Inv X pins σ H s) (rx:RelV x u) (ty:kg X.K H x t) (e:PySem.W.kitOne X.K t c=some b) (h:∀ tk,Q (.bool b) {s with toks:=tk}) :
  wpAny (model X.prog X.w) A (call (.builtin "isinstance") [u,c]) Q E s:=by
 cases ty with
 | non=>cases (show u=Value.none from rx);exact PySem.W.kia_one PySem.W.kitx_none I.kIn True.intro e (λz=>nomatch z) h
 | bl y=>cases (show u=Value.bool y from rx);exact PySem.W.kia_one PySem.W.kitx_bool I.kIn True.intro e (λz=>nomatch z) h
 | int i=>obtain ⟨t,q⟩:=(show ∃ t,u=Value.int i t from rx);cases q;exact PySem.W.kia_one PySem.W.kitx_int I.kIn True.intro e (λz=>nomatch z) h
 | str y=>obtain ⟨t,q⟩:=(show ∃ t,u=Value.str y t from rx);cases q;exact PySem.W.kia_one PySem.W.kitx_str I.kIn True.intro e (λz=>nomatch z) h
 | flt y=>obtain ⟨t,q⟩:=(show ∃ t,u=Value.float y t from rx);cases q;exact PySem.W.kia_one PySem.W.kitx_float I.kIn True.intro e (λz=>nomatch z) h
 | @lst a xs ea =>
  cases (show u=Value.ref a from rx)
  obtain ⟨_,_,n,_,h1⟩:=(show cq X.prog X.w H s.heap a (.lst xs) from I.hok a _ ea);exact PySem.W.kia_one PySem.W.kitx_list I.kIn ⟨_,h1,rfl⟩ e (λz=>nomatch z) h
 | @frz a ob xs ea =>
  cases (show u=Value.ref a from rx)
  obtain ⟨_,_,_,n,_,h1⟩:=(show cq X.prog X.w H s.heap a (.frz ob (.lst xs)) from I.hok a _ ea);exact PySem.W.kia_one PySem.W.kitx_list I.kIn ⟨_,h1,rfl⟩ e (λz=>nomatch z) h
 | @tup a xs ea =>
  cases (show u=Value.ref a from rx)
  obtain ⟨_,_,_,p⟩:=(show cq X.prog X.w H s.heap a (.tup xs) from I.hok a _ ea);obtain ⟨o,h1,h2,_⟩:=p;exact PySem.W.kia_one PySem.W.kitx_tuple I.kIn ⟨o,h1,h2⟩ e (λz=>nomatch z) h
 | @dK a kvs ea =>
  cases (show u=Value.ref a from rx)
  obtain ⟨_,_,vs,_,p⟩:=(show cq X.prog X.w H s.heap a (.dK kvs) from I.hok a _ ea);obtain ⟨o,es,ep,h1,h2,_⟩:=p;exact PySem.W.kia_one PySem.W.kitx_dict I.kIn ⟨o,h1,h2.1⟩ e (λz=>nomatch z) h
 | @dT a kvs ea =>
  cases (show u=Value.ref a from rx)
  obtain ⟨_,_,xs,_,o,es,ep,h1,h2,_⟩:=(show cq X.prog X.w H s.heap a (.dT kvs) from I.hok a _ ea);exact PySem.W.kia_one PySem.W.kitx_dict I.kIn ⟨o,h1,h2.1⟩ e (λz=>nomatch z) h
 | @ins a C dx fs ea cl ha hn htk hm =>
  cases (show u=Value.ref a from rx)
  obtain ⟨mA,O,_⟩:=pG I.hok ea;obtain ⟨od,J,_⟩:=O.look;exact PySem.W.kia_one (PySem.W.kitx_own (cl.get _) cl.hd ha hn htk hm) I.kIn J e (λz=>nomatch z) h
end
structure dj (k:Nat) (A:Around):Prop where
 hd:A.handled=none
 dp:A.depth+3*k+5 < recursionLimit
 un:A.units+16*k+200 < cLine
theorem dj.mono {j k:Nat} {A:Around} (r:dj k A) (h:j<=k):dj j A:=⟨r.hd,by have:=r.dp;omega,by have:=r.un;omega⟩
theorem dj.deeper {k:Nat} {A:Around} (r:dj (k+1) A) (env:Env):dj k (A.deeper env):=
 ⟨r.hd,by have:=r.dp;show A.depth+1+3*k+5 < _;omega,by have:=r.un;show A.units+3+16*k+200 < _;omega⟩
theorem yh {A:Around} {C:Addr} {us:List Value} {kw:List (Str×Value)}:(A.under (.builtin "type.__call__" ⟨.ref C::us,kw⟩)).depth=A.depth+1:=by
 first | rfl | simp [Around.under,Code.weight,Code.isCreation,Code.isGuard,Code.isCaller,Code.frames,Code.isFrame,guardIds]
theorem yg {A:Around} {C:Addr} {us:List Value} {kw:List (Str×Value)}:(A.under (.builtin "type.__call__" ⟨.ref C::us,kw⟩)).units=A.units+1:=by
 first | rfl | simp [Around.under,Code.cUnits,Code.frames,Code.isFrame]
theorem dj.make {k:Nat} {A:Around} (r:dj (k+1) A) (C:Addr) (us:List Value) (kw:List (Str×Value)):dj k (A.under (.builtin "type.__call__" ⟨.ref C::us,kw⟩)):=
 ⟨r.hd,by have:=r.dp;rw [yh];omega,by have:=r.un;rw [yg];omega⟩
theorem dj.depth {k:Nat} {A:Around} (r:dj k A):A.depth < recursionLimit:=by have:=r.dp;omega
theorem dj.units {k:Nat} {A:Around} (r:dj k A):A.units+64 < cLine:=by have:=r.un;omega
def jE:TA:=λ_ H Q=>Q [] H
def dN (ta:TE) (tr:TA):TA:=λσ H Q=>ta σ H λx H1=>tr σ H1 λxs H2=>Q (x::xs) H2
section
variable {X:Cx} {e:Expr} {es:List Expr} {te:TE} {t:TA} {pos:Pos}
theorem ah:PA X [] jE:=λ_ _ _ _ H Q I h=>Calls.spliced_nil ⟨[],H,I,.nil,h⟩
theorem aa (ha:PE X e te) (hr:PA X es t) (hs:starEach (e::es) X.env=(false,eval e X.env)::starEach es X.env:=by rfl):PA X (e::es) (dN te t):=by
 intro pos pins s σ H Q I h;rw [hs];show wpAny _ _ (spliced ((false,eval e X.env)::backTo pos (starEach es X.env))) _ _ s;refine Calls.spliced_cons (thn (ha pins s σ H _ I h) λu s1 zz=>?_);obtain ⟨x,H1,I1,r1,q1⟩:=zz;refine thn (hr pos pins s1 σ H1 _ I1 q1) λus s2 zz=>?_;obtain ⟨xs,H2,I2,r2,q2⟩:=zz;exact ⟨x::xs,H2,I2,.cons r1 r2,q2⟩
def tTup (t:TA):TE:=λσ H Q=>t σ H λxs H1=>xs.length<=sizeLine/\∀ p,H1 p=none->Q (.ref p) (upd H1 p (.tup xs))
def tLst (t:TA):TE:=λσ H Q=>t σ H λxs H1=>xs.length<=sizeLine/\∀ p,H1 p=none->Q (.ref p) (upd H1 p (.lst xs))
theorem bB {x1} (h:PA X es t):PE X (.Tuple es x1 pos) (tTup t):=by
 intro pins s σ H Q I hq;refine wpAny_Tuple_spliced (thn (h pos pins s σ H _ I hq) λus s1 zz=>?_);obtain ⟨xs,H1,I1,r,z,q⟩:=zz;refine ⟨by rw [<- r.length];exact z,?_⟩;have hf:H1 s1.heap.objs.size=none:=I1.hok.fresh (Nat.le_refl _);refine ⟨.ref s1.heap.objs.size,upd H1 s1.heap.objs.size (.tup xs),I1.laid (t':=s1.toks) (λb u e=>Heap.get?_push_of_some _ e) (Nat.le_refl _) ?_,rfl,q _ hf⟩;exact ⟨z,us,r,⟨_,Heap.get?_push_size _ rfl,rfl,_,rfl⟩⟩
theorem bO (h:PA X es t):PE X (.List es pos) (tLst t):=by
 intro pins s σ H Q I hq;refine wpAny_List_spliced (thn (h pos pins s σ H _ I hq) λus s1 zz=>?_);obtain ⟨xs,H1,I1,r,z,q⟩:=zz;refine ⟨by rw [<- r.length];exact z,?_⟩;have hf:H1 s1.heap.objs.size=none:=I1.hok.fresh (Nat.le_refl _);refine ⟨.ref s1.heap.objs.size,upd H1 s1.heap.objs.size (.lst xs),I1.laid (t':=s1.toks) (λb u e=>Heap.get?_push_of_some _ e) (Nat.le_refl _) ?_,rfl,q _ hf⟩;exact ⟨z,us,0,r,Heap.get?_push_size _ rfl⟩
end
abbrev Sp:=List V->Hp->VK->XK->Prop
abbrev CXT:=List Env->Hp->Shared->XK->Value->Shared->Prop
structure yP (P:Program) (w:World) (K:W.Frag) (mg:Str->Option Value) (base:Heap) (A:Around) (outer:List Env) (s:Shared) (H:Hp):Prop where
 frames:A.frames=some outer
 mod:Mod K mg base
 bs:∀ b o,base.get? b=some o->s.heap.get? b=some o/\H b=none
 bsz:base.objs.size<=s.heap.objs.size
 funs:s.heap.FunFrames base outer
 frf:∀ b∈frs outer,H b=none
 hok:HOk P w H s.heap
 bare:AllBare s.gens
def CE (outer:List Env) (P:Program) (w:World) (H:Hp) (s:Shared) (Q:VK) (u:Value) (s':Shared):Prop:=
 ∃ v H',s'.os=s.os/\AllBare s'.gens/\Un (frs outer) [] H H' s.heap s'.heap/\HOk P w H' s'.heap/\RelV v u/\Q v H'
def CR (CX:CXT) (outer:List Env) (P:Program) (w:World) (H:Hp) (s:Shared) (Q:VK) (E:XK) (r:Result) (s':Shared):Prop:=
 match r with
 | .ok (.ret u)=>CE outer P w H s Q u s'
 | .ok _=>False
 | .error e=>CX outer H s E e s'
structure mP (P:Program) (w:World) (K:W.Frag) (mg:Str->Option Value) (base:Heap) (CX:CXT) (k:Nat) (f:Addr) (fd:FuncData) (ps:List Str) (sp:Sp):Prop where
 len:∀ vs H Q E,sp vs H Q E->vs.length=ps.length
 run:∀(A:Around) (outer:List Env) (s:Shared) (H:Hp) (args:Args) (us:List Value) (vs:List V) (Q:VK) (E:XK),dj k A->yP P w K mg base A outer s H->BindsTo s fd args (ps.zip us)->Vals vs us->sp vs H Q E->
  codeAny (model P w) A (.call (.ref f) args) (CR CX outer P w H s Q E) s
theorem yP.make {P:Program} {w:World} {K:W.Frag} {mg:Str->Option Value} {base:Heap} {A:Around} {outer:List Env} {s:Shared} {H:Hp} (e:yP P w K mg base A outer s H) (C:Addr) (us:List Value) (kw:List (Str×Value)) :
  yP P w K mg base (A.under (.builtin "type.__call__" ⟨.ref C::us,kw⟩)) outer s H:=⟨by first | exact e.frames | (simpa [Around.under,Code.envs,Code.isFrame,pushEnvs] using e.frames),e.mod,e.bs,e.bsz,e.funs,e.frf,e.hok,e.bare⟩
section
variable {X:Cx} {pins:List (Addr×Obj)} {σ:St} {H:Hp} {s s':Shared}
theorem Inv.env0 (I:Inv X pins σ H s):yP X.prog X.w X.K X.mg X.base X.A X.stack s H:=
 ⟨I.ok.frames,I.ok.mod,I.bs,Nat.le_trans I.ok.bsz I.sz,I.stack,I.stkFree,I.hok,I.bare⟩
theorem Inv.after {Q:VK} {u:Value} (I:Inv X pins σ H s) (h:CE X.stack X.prog X.w H s Q u s'):EP X pins σ Q u s':=by
 obtain ⟨v,H',os,bare,un,hok,r,q⟩:=h;obtain ⟨hh,g,d,t,os'⟩:=s';obtain rfl:os'=s.os:=os;exact ⟨v,H',I.call (h':=hh) (g':=g) (d':=d) (t':=t) (ch:=[]) un hok bare (λb z=>absurd z (by simp)),r,q⟩
end
def pM (sp:Sp) (dvs:List V) (E:XK) (t:TA):TE:=λσ H Q=>t σ H λvs H1=>sp (vs++dvs) H1 Q E
def tMake (C:Addr) (sp:Sp) (dvs:List V) (E:XK) (t:TA):TE:=λσ H Q=>t σ H λvs H1=>∀ x dx,H1 x=none->H1 dx=none->dx≠x->
 sp (.ref x::(vs++dvs)) (upd (upd H1 dx (.own x)) x (.ins C dx [])) (λv H2=>v=.non/\Q (.ref x) H2) E
def Binds (K:W.Frag) (fd:FuncData) (ps:List Str) (ds:List Value):Prop:=
 ∀(s:Shared) (us:List Value),K.In s.heap->(us++ds).length=ps.length->BindsTo s fd ⟨us,[]⟩ (ps.zip (us++ds))
theorem Binds.all {K:W.Frag} {fd:FuncData} {ps:List Str} (h:∀ us:List Value,us.length=ps.length->bindArgs fd ⟨us,[]⟩=pure (ps.zip us)):Binds K fd ps []:=λs us _ hl=>by
 rw [List.append_nil] at hl ⊢;exact .of_eq (h us hl)
def Passes (CX:CXT) (X:Cx) (E:XK):Prop:=∀(pins:List (Addr×Obj)) (σ:St) (H:Hp) (s:Shared) (e:Value) (s':Shared),Inv X pins σ H s->CX X.stack H s E e s'->X.xe e s'
section
variable {X:Cx} {CX:CXT} {k:Nat} {f C:Addr} {fd:FuncData} {ps:List Str} {sp:Sp} {dvs:List V} {ds:List Value} {E:XK} {x m:Str} {p pos apos:Pos} {e o:Expr} {es:List Expr} {ta:TE} {t:TA}
theorem tJ {pins:List (Addr×Obj)} {σ:St} {H:Hp} {s:Shared} {Q:VK} {us:List Value} {vs:List V} (F:mP X.prog X.w X.K X.mg X.base CX k f fd ps sp) (hr:dj k X.A) (hb:Binds X.K fd ps ds) (hd:Vals dvs ds) (hx:Passes CX X E)
  (I:Inv X pins σ H s) (r:Vals vs us) (h:sp (vs++dvs) H Q E):wpAny (model X.prog X.w) X.A (call (.ref f) us) (EP X pins σ Q) X.xe s:=by
 have r2:Vals (vs++dvs) (us++ds):=r.append hd;have hl:(us++ds).length=ps.length:=by rw [<- r2.length];exact F.len _ _ _ _ h
 refine wpAny_call (codeAny_mono (F.run X.A X.stack s H ⟨us,[]⟩ (us++ds) (vs++dvs) Q E hr I.env0 (hb s us I.kIn hl) r2 h) λr s' hq=>?_);cases r with
 | error e=>exact hx pins σ H s e s' I hq
 | ok fl =>
  cases fl with
  | ret u=>exact I.after hq
  | next=>exact False.elim hq
  | brk=>exact False.elim hq
  | cont=>exact False.elim hq
theorem tV (F:mP X.prog X.w X.K X.mg X.base CX k f fd ps sp) (hr:dj k X.A) (hg:Gl X x) (hm:X.mg x=some (.ref f)) (hk:PySem.W.keepIn X.K (.ref f)=true) (hb:Binds X.K fd ps ds) (hd:Vals dvs ds) (hx:Passes CX X E)
  (ha:PA X (e::es) t) (hdb:(x == ("__debug__":Str))=false:=by decide) (he:starEach (e::es) X.env=(false,eval e X.env)::starEach es X.env:=by rfl) (hpl:(backTo pos (starEach es X.env)).any (·.1)=false:=by rfl) :
  PE X (.Call (.Name x p) (e::es) [] pos) (pM sp dvs E t):=by
 intro pins s σ H Q I h;refine wpAny_Call_Name_kw (gx I hg hm ?_ hdb);refine PySem.W.callWith_K (h₀:=X.base) I.ok.mod.kin hk (thn (ha pos pins s σ H _ I h) λus s1 zz=>?_) he hpl;obtain ⟨vs,H1,I1,r,q⟩:=zz;refine ⟨I1.kIn,?_⟩;exact tJ F hr hb hd hx I1 r q
theorem Dx (F:mP X.prog X.w X.K X.mg X.base CX k f fd ps sp) (hr:dj k X.A) (hg:Gl X x) (hm:X.mg x=some (.ref f)) (hk:PySem.W.keepIn X.K (.ref f)=true) (hb:Binds X.K fd ps ds) (hd:Vals dvs ds) (hx:Passes CX X E)
  (hdb:(x == ("__debug__":Str))=false:=by decide):PE X (.Call (.Name x p) [] [] pos) (pM sp dvs E jE):=by
 intro pins s σ H Q I h;refine wpAny_Call_Name_kw (gx I hg hm ?_ hdb);exact PySem.W.callWith_K0 I.kIn hk (tJ (us:=[]) F hr hb hd hx I .nil h)
structure Mk (K:W.Frag) (C f:Addr):Prop where
 makes:PySem.W.makesIn K C=true
 init:PySem.W.findIn K (.ref C) "__init__"=some (some (.ref f))
 fn:PySem.W.isFn K (.ref f)=true
 kp:PySem.W.keepIn K (.ref C)=true
theorem CQ {pins:List (Addr×Obj)} {σ:St} {H:Hp} {s:Shared} {Q:VK} {us:List Value} {vs:List V} (M:Mk X.K C f) (F:mP X.prog X.w X.K X.mg X.base CX k f fd ps sp) (hr:dj (k+1) X.A) (hb:Binds X.K fd ps ds) (hd:Vals dvs ds)
  (hx:Passes CX X E) (I:Inv X pins σ H s) (r:Vals vs us)
  (h:∀ x dx,H x=none->H dx=none->dx≠x->sp (.ref x::(vs++dvs)) (upd (upd H dx (.own x)) x (.ins C dx [])) (λv H2=>v=.non/\Q (.ref x) H2) E) :
  wpAny (model X.prog X.w) X.A (call (.ref C) us) (EP X pins σ Q) X.xe s:=by
 have hq:=h (s.heap.objs.size+1) s.heap.objs.size (I.hok.fresh (Nat.le_succ _)) (I.hok.fresh (Nat.le_refl _)) (Nat.ne_of_lt (Nat.lt_succ_self _));have I2:=Inv.made (C:=C) I;have r2:Vals (V.ref (s.heap.objs.size+1)::(vs++dvs)) (Value.ref (s.heap.objs.size+1)::(us++ds)):=.cons rfl (r.append hd)
 have hl:(Value.ref (s.heap.objs.size+1)::us++ds).length=ps.length:=by
  have e:=r2.length;rw [F.len _ _ _ _ hq] at e;exact e.symm
 refine wpAny_call (Ed (f:=f) I.kIn M.makes M.init (beq_iff_eq.mp M.fn) (codeAny_mono (F.run _ X.stack _ _ ⟨Value.ref (s.heap.objs.size+1)::us,[]⟩ (Value.ref (s.heap.objs.size+1)::(us++ds)) _ _ E (hr.make C us [])
  (I2.env0.make C us []) (hb _ (Value.ref (s.heap.objs.size+1)::us) I2.kIn hl) r2 hq) λr s' hq'=>?_))
 cases r with
 | error e=>exact hx pins σ _ _ e s' I2 hq'
 | ok fl =>
  cases fl with
  | ret u =>
   obtain ⟨v,H',I3,rv,ev,q3⟩:=I2.after hq';subst ev;exact ⟨rv,⟨V.ref (s.heap.objs.size+1),H',I3,rfl,q3⟩⟩
  | next=>exact False.elim hq'
  | brk=>exact False.elim hq'
  | cont=>exact False.elim hq'
theorem pe_make (M:Mk X.K C f) (F:mP X.prog X.w X.K X.mg X.base CX k f fd ps sp) (hr:dj (k+1) X.A) (hg:Gl X x) (hm:X.mg x=some (.ref C)) (hb:Binds X.K fd ps ds) (hd:Vals dvs ds) (hx:Passes CX X E)
  (ha:PA X (e::es) t) (hdb:(x == ("__debug__":Str))=false:=by decide) (he:starEach (e::es) X.env=(false,eval e X.env)::starEach es X.env:=by rfl) (hpl:(backTo pos (starEach es X.env)).any (·.1)=false:=by rfl) :
  PE X (.Call (.Name x p) (e::es) [] pos) (tMake C sp dvs E t):=by
 intro pins s σ H Q I h;refine wpAny_Call_Name_kw (gx I hg hm ?_ hdb);refine PySem.W.callWith_K (h₀:=X.base) I.ok.mod.kin M.kp (thn (ha pos pins s σ H _ I h) λus s1 zz=>?_) he hpl;obtain ⟨vs,H1,I1,r,q⟩:=zz;refine ⟨I1.kIn,?_⟩;exact CQ M F hr hb hd hx I1 r q
end
section
variable {X:Cx} {CX:CXT} {k:Nat} {f C:Addr} {fd:FuncData} {ps ks:List Str} {sp:Sp} {E:XK} {x m:Str} {p pos apos kpos:Pos} {e o:Expr} {es:List Expr} {kws:List Keyword} {te ta:TE} {t tk:TA} {nm:Option Str}
variable {g:List Value->List Value->List Value} {gV:List V->List V->List V}
end
structure aE (N P:List Str) (sc:Scope):Prop where
 kind:sc.kind=.function
 co:sc.isCoroutine=false
 gen:sc.isGenerator=false
 nd:N.Nodup
 pre:N.take P.length=P
 par:∀ x∈P,sc.names.lookup x=some .local\/sc.names.lookup x=some .cell
 nofree:∀ y∈sc.names,y.2≠.free
theorem ar0 {p:List Value->Prop} (h:p []) (us:List Value) (e:us.length=0):p us:=by
 rw [List.eq_nil_of_length_eq_zero e];exact h
theorem arS {p:List Value->Prop} {n:Nat} (h:∀ a us,us.length=n->p (a::us)) (us:List Value) (e:us.length=n+1):p us:=by
 cases us with
 | nil=>exact absurd e.symm (Nat.succ_ne_zero n)
 | cons a t=>exact h a t (Nat.succ.inj e)
theorem ar1 {p:List Value->Prop} (h:∀ a,p [a]):∀ us:List Value,us.length=1->p us:=arS λa=>ar0 (h a)
theorem ar2 {p:List Value->Prop} (h:∀ a b,p [a,b]):∀ us:List Value,us.length=2->p us:=arS λa=>ar1 (h a)
theorem ar3 {p:List Value->Prop} (h:∀ a b c,p [a,b,c]):∀ us:List Value,us.length=3->p us:=arS λa=>ar2 (h a)
theorem ar4 {p:List Value->Prop} (h:∀ a b c d,p [a,b,c,d]):∀ us:List Value,us.length=4->p us:=arS λa=>ar3 (h a)
theorem ar5 {p:List Value->Prop} (h:∀ a b c d e,p [a,b,c,d,e]):∀ us:List Value,us.length=5->p us:=arS λa=>ar4 (h a)
theorem fsc {N P:List Str} {sc:Scope} (k:sc.kind=.function) (h:(sc.isCoroutine=false)/\(sc.isGenerator=false)/\(N.Nodup)/\(N.take P.length=P)/\(∀ x∈P,sc.names.lookup x=some .local\/sc.names.lookup x=some .cell)/\(∀ y∈sc.names,y.2≠.free)):aE N P sc:=⟨k,h.1,h.2.1,h.2.2.1,h.2.2.2.1,h.2.2.2.2.1,h.2.2.2.2.2⟩
theorem sO {kindOf:Str->Option NameKind} {x:Str}:∀{binds:List (Str×Value)} {m:Str->Option Value},(∀ v,(x,v) ∉ binds)->bindL kindOf binds m x=m x
 | [],_,_=>rfl
 | (n,v)::r,m,h=>by
  unfold bindL;rw [sO λw hw=>h w (List.mem_cons_of_mem _ hw)];split
  ·have:x≠n:=by rintro rfl;exact h v List.mem_cons_self
   simp [this]
  ·rfl
theorem sQ {kindOf:Str->Option NameKind} {x:Str}:∀{binds:List (Str×Value)} {m:Str->Option Value},(∀ v,(x,v) ∉ binds)->bindC kindOf binds m x=m x
 | [],_,_=>rfl
 | (n,v)::r,m,h=>by
  unfold bindC;rw [sQ λw hw=>h w (List.mem_cons_of_mem _ hw)];split
  ·rfl
  ·have:x≠n:=by rintro rfl;exact h v List.mem_cons_self
   simp [this]
theorem sP {kindOf:Str->Option NameKind} {x:Str} {v:Value}:∀{P:List Str} {vs:List Value} {i:Nat} {m:Str->Option Value},P.Nodup->P[i]?=some x->vs[i]?=some v->kindOf x=some .local->
  bindL kindOf (P.zip vs) m x=some v
 | [],_,_,_,_,h,_,_=>by simp at h
 | _::_,[],_,_,_,_,h,_=>by simp at h
 | p::P,w::vs,0,m,nd,h1,h2,hk=>by
  simp at h1 h2;subst h1;subst h2;show bindL kindOf ((p,w)::P.zip vs) m p=_;unfold bindL;rw [sO λv hv=>(List.nodup_cons.mp nd).1 (List.of_mem_zip hv).1,if_pos hk];simp
 | p::P,w::vs,i+1,m,nd,h1,h2,hk=>by
  show bindL kindOf ((p,w)::P.zip vs) m x=_;unfold bindL;exact sP (i:=i) (List.nodup_cons.mp nd).2 (by simpa using h1) (by simpa using h2) hk
theorem sR {kindOf:Str->Option NameKind} {x:Str} {v:Value}:∀{P:List Str} {vs:List Value} {i:Nat} {m:Str->Option Value},P.Nodup->P[i]?=some x->vs[i]?=some v->kindOf x≠some .local->
  bindC kindOf (P.zip vs) m x=some v
 | [],_,_,_,_,h,_,_=>by simp at h
 | _::_,[],_,_,_,_,h,_=>by simp at h
 | p::P,w::vs,0,m,nd,h1,h2,hk=>by
  simp at h1 h2;subst h1;subst h2;show bindC kindOf ((p,w)::P.zip vs) m p=_;unfold bindC;rw [sQ λv hv=>(List.nodup_cons.mp nd).1 (List.of_mem_zip hv).1,if_neg hk];simp
 | p::P,w::vs,i+1,m,nd,h1,h2,hk=>by
  show bindC kindOf ((p,w)::P.zip vs) m x=_;unfold bindC;exact sR (i:=i) (List.nodup_cons.mp nd).2 (by simpa using h1) (by simpa using h2) hk
def start (N:List Str) (vs:List V):St:=vs.map some++List.replicate (N.length - vs.length) none
noncomputable def eO (CX:CXT) (P:Program) (w:World) (K:W.Frag) (mg:Str->Option Value) (base:Heap) (N:List Str) (qual:Str) (scope:Scope) (f:Addr) (cd:Value) (A:Around) (outer:List Env) (s:Shared) (H:Hp) (E:XK):Cx where
 prog:=P
 w:=w
 K:=K
 mg:=mg
 base:=base
 A:=A.deeper (envOfC qual scope s.heap.objs.size f cd)
 N:=N
 s₀:=s
 H₀:=H
 env:=envOfC qual scope s.heap.objs.size f cd
 outer:=outer
 stack:=envOfC qual scope s.heap.objs.size f cd::outer
 ex:=[]
 calm:=true
 fn:=λ_=>true
 pn:=[]
 xe:=λe s'=>wpAny (model P w) (A.deeper (envOfC qual scope s.heap.objs.size f cd)) (leaving (envOfC qual scope s.heap.objs.size f cd) e) (λ_ s''=>CX outer H s E e s'') (λe' s''=>CX outer H s E e' s'') s'
theorem wR {sc:Scope} {n:Nat} {x:Str} (h:sc.names.lookup x=some .cell):∃ c,(cellsFrom n sc.names []).lookup x=some c:=by
 have q:=PySem.W.cellsFrom_some sc.names n [] (.inl h);exact Option.isSome_iff_exists.mp q
theorem Bs {CX:CXT} {P:Program} {w:World} {K:W.Frag} {mg:Str->Option Value} {base:Heap} {N ps:List Str} {qual:Str} {scope:Scope} {f:Addr} {cd:Value} {A:Around} {outer:List Env} {s s1:Shared} {H:Hp} {E:XK} {us:List Value} {vs:List V}
  (S:aE N ps scope) (hd:A.handled=none) (e0:yP P w K mg base A outer s H) (hl:vs.length=ps.length) (r:Vals vs us)
  (x:InCallC s s.heap.objs.size (bindL (envOfC qual scope s.heap.objs.size f cd).kindOf (ps.zip us) λ_=>none) (cellsFrom (s.heap.objs.size+1) scope.names []) (bindC (envOfC qual scope s.heap.objs.size f cd).kindOf (ps.zip us) λ_=>none) s1) :
  Inv (eO CX P w K mg base N qual scope f cd A outer s H E) [] (start N vs) H s1:=by
 have hpl:ps.length<=N.length:=by have:=congrArg List.length S.pre;rw [List.length_take] at this;omega
 obtain ⟨h1,tk,rfl,hk⟩:=x.done;have noA:∀ b:Addr,b ∉ (eO CX P w K mg base N qual scope f cd A outer s H E).ex:=λb z=>absurd (show b∈([]:List Addr) from z) (by simp)
 refine ⟨⟨e0.mod,S.kind,rfl,rfl,Nat.le_refl _,λy z c h1 h2=>?_,λy hy=>?_,λy c _ h=>?_,λ_=>hd,Around.frames_deeper e0.frames,.inr ⟨rfl,rfl⟩,λb z=>absurd z (noA b),e0.bs,e0.bsz,λb _ _=>noA b,λb z=>absurd z (noA b),e0.funs,e0.frf⟩,
  rfl,e0.bare,Un.kept hk,⟨_,x.toInCall.ns,λi y v h1 h2 h3=>?_⟩,λy c h=>⟨_,x.cell y c h⟩,e0.hok.fresh (Nat.le_refl _),λy c h=>?_,λp hp=>absurd (show p∈([]:List (Addr×Obj)) from hp) (by simp),e0.hok.kept hk,?_⟩
 ·exact name_of_addr x.apart (PySem.mem_of_lookup h1) (PySem.mem_of_lookup h2)
 ·have hy:scope.names.lookup y=some .cell\/scope.names.lookup y=some .free:=hy;rcases hy with hy | hy
  ·exact wR hy
  ·exact absurd rfl (S.nofree _ (PySem.mem_of_lookup hy))
 ·exact Nat.le_of_lt (x.above y c (PySem.mem_of_lookup h))
 ·have hi:i < vs.length:=by
   unfold start at h2
   by_cases hi:i < vs.length
   ·exact hi
   ·rw [List.getElem?_append_right (by simpa using hi)] at h2;rw [List.getElem?_replicate] at h2;split at h2 <;> cases h2
  have ha:vs[i]?=some v:=by
   unfold start at h2;rw [List.getElem?_append_left (by simpa using hi),List.getElem?_map] at h2;cases e:vs[i]? with
   | none=>rw [e] at h2;cases h2
   | some a=>rw [e] at h2;cases h2;rfl
  obtain ⟨u,hu,rv⟩:=r.get ha
  have hp:ps[i]?=some y:=by
   rw [<- S.pre,List.getElem?_take_of_lt (by omega)];exact h1
  have ndP:ps.Nodup:=by rw [<- S.pre];exact S.nd.sublist (List.take_sublist _ _)
  refine ⟨u,rv,?_⟩;rcases S.par y (List.mem_of_getElem? hp) with k | k
  ·exact .inl ⟨k,sP ndP hp hu k⟩
  ·obtain ⟨c,e⟩:=wR (n:=s.heap.objs.size+1) k;refine .inr ⟨.inl k,c,e,?_⟩;have q:=x.cell y c e;rw [sR ndP hp hu (by show scope.names.lookup y≠_;rw [k];decide)] at q;exact q
 ·exact e0.hok.fresh (Nat.le_of_lt (x.above y c (PySem.mem_of_lookup h)))
 ·unfold start;show _=N.length;rw [List.length_append,List.length_map,List.length_replicate];omega
theorem fn_of {CX:CXT} {P:Program} {w:World} {K:W.Frag} {mg:Str->Option Value} {base:Heap} {k:Nat} {f:Addr} {name qual:Str} {params:Arguments} {body:List Stmt} {scope:Scope} {dV kV doc pm cdv ct oc:Value} {an od:Option Addr}
  {osl:Array (Option Value)} {N ps:List Str} {sp:Sp} (lk:K.lookup f=some ⟨oc,od,.func (PySem.W.fnOf name qual params body scope dV kV doc pm an cdv ct),osl⟩) (hcd:PySem.W.codeIn K cdv qual=true) (S:aE N ps scope)
  (len:∀ vs H Q E,sp vs H Q E->vs.length=ps.length)
  (hbody:∀(A:Around) (outer:List Env) (s:Shared) (H:Hp) (vs:List V) (Q:VK) (E:XK),dj k (A.deeper (envOfC qual scope s.heap.objs.size f cdv))->sp vs H Q E->
   ∃ t,PSs (eO CX P w K mg base N qual scope f cdv A outer s H E) body t/\t {nx:=λ_ H'=>Q .non H',rt:=Q} (start N vs) H) :
  mP P w K mg base CX (k+1) f (PySem.W.fnOf name qual params body scope dV kV doc pm an cdv ct) ps sp:=by
 refine ⟨len,λA outer s H args us vs Q E hr e0 hb r hsp=>?_⟩;have hl:=len _ _ _ _ hsp;have KX:K.In s.heap:=e0.mod.kin.keeps λb o e=>(e0.bs b o e).1;have lim:s.heap.NoLimit:=e0.mod.nolimit.keeps λb o e=>(e0.bs b o e).1
 have hkind:∀ y∈ps.zip us,scope.names.lookup y.1=some .local\/(scope.names.lookup y.1=some .cell/\((cellsFrom (s.heap.objs.size+1) scope.names []).lookup y.1).isSome=true):=λ⟨n,v⟩ hy=>by
  rcases S.par n (List.of_mem_zip hy).1 with q | q
  ·exact .inl q
  ·exact .inr ⟨q,PySem.W.cellsFrom_some _ _ _ (.inl q)⟩
 refine codeAny_call_function hr.depth (KX _ _ lk) rfl S.co S.gen rfl (PySem.W.codeRec_of KX hcd) (hb _ _ _ _ ?_);refine wpAny_newFunctionEnv_cells S.kind hkind λenv he s1 x=>?_;subst he;refine ⟨lim.keeps x.toInCall.keep,codeAny_func ?_⟩;obtain ⟨t,ht,hq⟩:=hbody A outer s H vs Q E (hr.deeper _) hsp;have I:Inv (eO CX P w K mg base N qual scope f cdv A outer s H E) [] (start N vs) H s1:=Bs S hr.hd e0 hl r x;refine wpAny_mono (ht [] s1 (start N vs) H _ I hq) (λfl s' hs=>?_) λe s' hs=>hs
 have fin:∀{σ':St} {H':Hp} {v:V} {u:Value},Inv (eO CX P w K mg base N qual scope f cdv A outer s H E) [] σ' H' s'->RelV v u->Q v H'->CE outer P w H s Q u s':=
  λ{σ' H' v u} J rv q=>⟨v,H',J.os,J.bare,J.base,J.hok,rv,q⟩
 cases fl with
 | ret u =>
  obtain ⟨v,σ',H',J,rv,q⟩:=hs;exact fin J rv q
 | next =>
  obtain ⟨σ',H',J,q⟩:=hs;exact fin (v:=V.non) (u:=Value.none) J rfl q
 | brk =>
  obtain ⟨_,_,_,q⟩:=hs;exact False.elim q
 | cont =>
  obtain ⟨_,_,_,q⟩:=hs;exact False.elim q
section
variable {X:Cx} {x:Str} {p pos:Pos} {e:Expr} {es:List Expr} {t:TA} {id T:String} {r:List V->Hp->VK->Prop}
def tCB (r:List V->Hp->VK->Prop) (t:TA):TE:=λσ H Q=>t σ H λvs H1=>r vs H1 Q
theorem aN (hc:gR X (.builtin id) r) (hg:Gl X x) (hm:X.mg x=none) (hv:bootBuiltins x=some (.builtin id)) (ha:PA X (e::es) t) (hn:x≠"__name__":=by decide) (hdb:(x == ("__debug__":Str))=false:=by decide)
  (he:starEach (e::es) X.env=(false,eval e X.env)::starEach es X.env:=by rfl) (hpl:(backTo pos (starEach es X.env)).any (·.1)=false:=by rfl):PE X (.Call (.Name x p) (e::es) [] pos) (tCB r t):=by
 intro pins s σ H Q I h;refine wpAny_Call_Name_kw (jX I hg hm hv ?_ hn hdb);refine PyProof.Rows.callWith_builtin1 (thn (ha pos pins s σ H _ I h) λus s1 zz=>?_) he hpl;obtain ⟨vs,H1,I1,r1,q1⟩:=zz;exact hc pins s1 σ H1 vs us Q I1 r1 q1
theorem iY (hc:gR X (.type T) r) (hg:Gl X x) (hm:X.mg x=none) (hv:bootBuiltins x=some (.type T)) (ha:PA X (e::es) t) (hn:x≠"__name__":=by decide) (hdb:(x == ("__debug__":Str))=false:=by decide)
  (he:starEach (e::es) X.env=(false,eval e X.env)::starEach es X.env:=by rfl) (hpl:(backTo pos (starEach es X.env)).any (·.1)=false:=by rfl):PE X (.Call (.Name x p) (e::es) [] pos) (tCB r t):=by
 intro pins s σ H Q I h;refine wpAny_Call_Name_kw (jX I hg hm hv ?_ hn hdb);refine PyProof.Rows.callWith_type1 (thn (ha pos pins s σ H _ I h) λus s1 zz=>?_) he hpl;obtain ⟨vs,H1,I1,r1,q1⟩:=zz;exact hc pins s1 σ H1 vs us Q I1 r1 q1
end
end L2
namespace HT
open PySem PyProof.Rows
section
open PySem.SeqAt
open PySem.AutoSeq1 (wpAny_loadPart')
open PySem.MeetsSeq PySem.MeetsSeq2 PySem.MeetsSeq3
end
section
variable {prog:Program} {w:World} {A:Around} {E:Value->Shared->Prop} {s:Shared}
theorem cat_tup {t b:Addr} {vs ws:List Value} {Q:Value->Shared->Prop} (ht:IsTup s.heap t vs.toArray) (hb:IsTup s.heap b ws.toArray) (hv:vs≠[])
  (h1:ws=[]->Q (.ref t) s) (h2:ws≠[]->Q (.ref s.heap.objs.size) {s with heap:=s.heap.push {cls:=.type "tuple",data:=.seq (vs++ws).toArray} })
  (hsz:vs.length+ws.length<=sizeLine):wpAny (model prog w) A (binaryOp .Add (.ref t) (.ref b)) Q E s:=by
 obtain ⟨⟨cls,dd,data,sl⟩,ho,hc,n,hd⟩:=id ht;obtain ⟨⟨cls2,dd2,data2,sl2⟩,ho2,hc2,n2,hd2⟩:=id hb;simp only at hc hd hc2 hd2;subst hc hd hc2 hd2;have e:vs.toArray++ws.toArray=(vs++ws).toArray:=by simp
 by_cases hw:ws=[]
 ·exact concat_meets ⟨_,ho,rfl⟩ ⟨_,ho2,rfl⟩ noFill_tuple_add seq_tuple_add PySem.F.slot_tuple_add PySem.F.entry_tuple_add (PySem.F.args_tuple_add_2 _ _)
   (tuple_addW1 t b vs.toArray ws.toArray n n2 dd dd2 sl sl2 (by simpa using hv) (by simp [hw])) ⟨ho,ho2,h1 hw⟩
 ·refine concat_meets ⟨_,ho,rfl⟩ ⟨_,ho2,rfl⟩ noFill_tuple_add seq_tuple_add PySem.F.slot_tuple_add PySem.F.entry_tuple_add (PySem.F.args_tuple_add_2 _ _)
   (tuple_addW2 t b vs.toArray ws.toArray n n2 dd dd2 sl sl2 (by simpa using hv) (by simpa using hw) (by rw [List.size_toArray,List.size_toArray];exact hsz)) ⟨ho,ho2,?_⟩
  rw [e];exact h2 hw
def sIx (n d:Nat):Option Int->Nat
 | none=>d
 | some v=>if v < 0 then (v+(n:Int)).toNat else min v.toNat n
theorem vD (n d:Nat):sIx n d none=d:=rfl
theorem zw (n d k:Nat):sIx n d (some (k:Int))=min k n:=by
 show (if (k:Int) < 0 then ((k:Int)+(n:Int)).toNat else min (k:Int).toNat n)=min k n;rw [if_neg (by omega),Int.toNat_natCast]
end
end HT
namespace L2
open PySem PySem.Spec PyProof.Rows
abbrev TO:=St->Hp->(Option Int->Hp->Prop)->Prop
def PO (X:Cx) (e:Option Expr) (t:TO):Prop:=
 ∀(
  pins:List (Addr×Obj)) (s:Shared) (σ:St) (H:Hp) (Q:Option Int->Hp->Prop),Inv X pins σ H s->t σ H Q->
  wpAny (model X.prog X.w) X.A (evalPart e X.env) (λu s'=>∃ o H',Inv X pins σ H' s'/\IsPart u o/\Q o H') X.xe s
def tNoPart:TO:=λ_ H Q=>Q none H
def tPart (t:TE):TO:=λσ H Q=>t σ H λx H1=>∃ i,x=.int i/\Q (some i) H1
theorem intsAre_of {ns:List Int}:∀{us:List Value},Vals (ns.map V.int) us->IntsAre us ns:=by
 induction ns with
 | nil=>intro us r;rw [List.map_nil] at r;cases r;exact .nil
 | cons n ns ih =>
  intro us r;rw [List.map_cons] at r;cases r with
  | cons r1 r2 =>
   obtain ⟨t,e⟩:=r1;subst e;exact .cons n t (ih r2)
section
variable {X:Cx} {e:Expr} {te:TE} {lo hi:Option Expr} {tl th:TO} {pos p2:Pos}
theorem tR:PO X none tNoPart:=by
 intro pins s σ H Q I h;rw [evalPart_none];exact wpAny_pure ⟨none,H,I,.none,h⟩
theorem tQ (h:PE X e te):PO X (some e) (tPart te):=by
 intro pins s σ H Q I hw;rw [evalPart_some];refine thn (h pins s σ H _ I hw) λu s1 zz=>?_;obtain ⟨x,H1,I1,r1,q1⟩:=zz;obtain ⟨i,rfl,q⟩:=q1;obtain ⟨t,rfl⟩:=r1;exact ⟨some i,H1,I1,.int i t,q⟩
def SlR (X:Cx) (r:V->Option Int->Option Int->Hp->VK->Prop):Prop:=
 ∀(
  pins:List (Addr×Obj)) (s:Shared) (σ:St) (H:Hp) (x:V) (v vl vu:Value) (lo hi:Option Int) (sl:Addr) (Q:VK),Inv X pins σ H s->RelV x v->s.heap.IsSliceOf sl vl vu .none->IsPart vl lo->IsPart vu hi->r x lo hi H Q->
  ∃ T id,typeLookup (.type T) "__getitem__"=pure (some (.builtin id))/\s.TypeIs v T/\wpAny (model X.prog X.w) X.A (getItem v (.ref sl)) (EP X pins σ Q) X.xe s
def tSl (r:V->Option Int->Option Int->Hp->VK->Prop) (te:TE) (tl th:TO):TE:=λσ H Q=>te σ H λx H1=>tl σ H1 λl H2=>th σ H2 λu H3=>r x l u H3 Q
theorem qo {r:V->Option Int->Option Int->Hp->VK->Prop} (hr:SlR X r) (he:PE X e te) (hl:PO X lo tl) (hu:PO X hi th):PE X (.Subscript e (.Slice lo hi none p2) pos) (tSl r te tl th):=by
 intro pins s σ H Q I h;refine Subscript_ (thn (he pins s σ H _ I h) λv s1 zz=>?_);obtain ⟨x,H1,I1,r1,q1⟩:=zz;refine wpAny_Slice (thn (hl pins s1 σ H1 _ I1 q1) λvl s2 zz=>?_);obtain ⟨l,H2,I2,pl,q2⟩:=zz;refine thn (hu pins s2 σ H2 _ I2 q2) λvu s3 zz=>?_;obtain ⟨u,H3,I3,pu,q3⟩:=zz;rw [evalPart_none];refine wpAny_pure ?_;have I4:Inv X pins σ H3 {s3 with heap:=s3.heap.push {cls:=.type "slice",data:=.fields #[vl,vu,.none] } }:=I3.kept (t':=s3.toks) λb ob q=>Heap.get?_push_of_some _ q
 obtain ⟨T,id,hT,ht,hg⟩:=hr pins {s3 with heap:=s3.heap.push {cls:=.type "slice",data:=.fields #[vl,vu,.none] } } σ H3 x v vl vu l u s3.heap.objs.size Q I4 r1 (Heap.IsSliceOf.new ..) pl pu q3
 show wpAny (model X.prog X.w) X.A (subscriptTail e (.Slice lo hi none p2) v (.ref s3.heap.objs.size)) (EP X pins σ Q) X.xe {s3 with heap:=s3.heap.push {cls:=.type "slice",data:=.fields #[vl,vu,.none] } }
 exact tail_any (ops:=[.ref s3.heap.objs.size,v]) ht hT hg (by with_unfolding_all rfl)
def mD (xs:List V) (lo hi:Option Int):List V:=(xs.drop (HT.sIx xs.length 0 lo)).take (HT.sIx xs.length xs.length hi - HT.sIx xs.length 0 lo)
theorem wL (xs:List V) (lo hi:Option Int):(mD xs lo hi).length<=xs.length:=by
 unfold mD;rw [List.length_take,List.length_drop];omega
def rCatT (K:W.Frag):R2:=λx y H Q=>∃ a b xs ys,x=.ref a/\y=.ref b/\SqT K H a xs/\SqT K H b ys/\xs≠[]/\xs.length+ys.length<=sizeLine/\
 (ys=[]->Q (.ref a) H)/\(ys≠[]->∀ p,H p=none->Q (.ref p) (upd H p (.tup (xs++ys))))
theorem Vals.nil_iff {xs:List V} {us:List Value} (r:Vals xs us):us=[]↔xs=[]:=by
 cases r with
 | nil=>simp
 | cons _ _=>simp
theorem op_catT:OpR X (binaryOp .Add) (rCatT X.K):=by
 intro pins s σ H x y v u Q I rx ry h;obtain ⟨a,b,xs,ys,rfl,rfl,ha,hb,hx,hz,q1,q2⟩:=h;cases rx
 cases ry
 obtain ⟨its,r1,p1,_⟩:=I.tuple ha;obtain ⟨its2,r2,p2,_⟩:=I.tuple hb;refine HT.cat_tup p1 p2 (λz=>hx (r1.nil_iff.mp z)) (λz=>⟨.ref a,H,I,rfl,q1 (r2.nil_iff.mp z)⟩) (λz=>?_) (by rw [<- r1.length,<- r2.length];exact hz);refine ⟨.ref s.heap.objs.size,_,I.laid (t':=s.toks) (o:=.tup (xs++ys)) (λb ob q=>Heap.get?_push_of_some _ q) (Nat.le_refl _) ?_,rfl,q2 (λw=>z (r2.nil_iff.mpr w)) _ (I.hok.fresh (Nat.le_refl _))⟩;exact ⟨by rw [List.length_append];exact hz,_,r1.append r2,IsTup.new _ _⟩
end
def ixN (n:Nat) (i:Int):Option Nat:=if 0<=i then (if i < n then some i.toNat else none) else if -(n:Int)<=i then some (i+n).toNat else none
def atI {α:Type} (xs:List α) (i:Int):Option α:=(ixN xs.length i).bind λj=>xs[j]?
theorem ixN_seq {n:Nat} {i:Int} {j:Nat} (h:ixN n i=some j):seqIndex? i n=some j/\j < n/\-(n:Int)<=i/\i < n:=by
 unfold ixN at h
 by_cases h0:0<=i
 ·rw [if_pos h0] at h
  by_cases h1:i < n
  ·rw [if_pos h1] at h;have e:i.toNat=j:=Option.some.inj h;exact ⟨by rw [seqIndex_of h0 h1,e],by omega,by omega,h1⟩
  ·rw [if_neg h1] at h;cases h
 ·rw [if_neg h0] at h
  by_cases h1:-(n:Int)<=i
  ·rw [if_pos h1] at h;have e:(i+n).toNat=j:=Option.some.inj h;exact ⟨by rw [seqIndex_neg (by omega) h1,e],by omega,h1,by omega⟩
  ·rw [if_neg h1] at h;cases h
theorem Ai {α:Type} {xs:List α} {i:Int} {v:α} (h:atI xs i=some v):∃ j,seqIndex? i xs.length=some j/\xs[j]?=some v/\j < xs.length/\-(xs.length:Int)<=i/\i < xs.length:=by
 unfold atI at h;cases e:ixN xs.length i with
 | none=>rw [e] at h;cases h
 | some j =>
  rw [e] at h;obtain ⟨h1,h2,h3,h4⟩:=ixN_seq e;exact ⟨j,h1,h,h2,h3,h4⟩
theorem bS {α:Type} {xs:List α} {j:Nat} {v:α} (h:xs[j]?=some v):atI xs (j:Int)=some v:=by
 have hj:j < xs.length:=(List.getElem?_eq_some_iff.mp h).1
 have e:ixN xs.length (j:Int)=some j:=by
  unfold ixN;rw [if_pos (by omega),if_pos (by omega)];simp
 unfold atI;rw [e];exact h
def Ak (b:Expr):Prop:=∀ o i,subscripted b false o i=operate [o,i] (getItem o i)
def IxR (X:Cx) (r:R2):Prop:=
 ∀(
  value slice:Expr) (pins:List (Addr×Obj)) (s:Shared) (σ:St) (H:Hp) (x y:V) (v u:Value) (Q:VK),Inv X pins σ H s->RelV x v->RelV y u->r x y H Q->
  subscripted slice false v u=operate [v,u] (getItem v u)->wpAny (model X.prog X.w) X.A (subscriptTail value slice v u) (EP X pins σ Q) X.xe s
def MtR (X:Cx) (id:String) (r:V->List V->Hp->VK->Prop):Prop:=
 ∀(
  pins:List (Addr×Obj)) (s:Shared) (σ:St) (H:Hp) (x:V) (xs:List V) (v:Value) (us:List Value) (Q:VK),Inv X pins σ H s->RelV x v->Vals xs us->r x xs H Q->
  wpAny (model X.prog X.w) X.A (call (.builtin id) (v::us)) (EP X pins σ Q) X.xe s
section
variable {X:Cx} {a b:Expr} {ta tb:TE} {pos:Pos}
theorem aK {r:R2} (hr:IxR X r) (ha:PE X a ta) (hb:PE X b tb) (hs:Ak b):PE X (.Subscript a b pos) (tOp r ta tb):=by
 intro pins s σ H Q I h;exact Subscript_ (binT ha hb I h λv u s2 x y H2 I2 rx ry q=>hr a b pins s2 σ H2 x y v u Q I2 rx ry q (hs _ _))
inductive XrIxL (K:W.Frag) (x:V) (y:V) (H:Hp) (Q:VK):Prop where
 | mk (p:Addr) (xs:List V) (i:Int) (v:V) (z_0:x=.ref p) (z_1:y=.int i) (z_2:SqL K H p xs) (z_3:atI xs i=some v) (z_4:Q v H):XrIxL K x y H Q
def rIxL (K:W.Frag):R2:=λx y H Q=>XrIxL K x y H Q
inductive XrIxT (K:W.Frag) (x:V) (y:V) (H:Hp) (Q:VK):Prop where
 | mk (p:Addr) (xs:List V) (i:Int) (v:V) (z_0:x=.ref p) (z_1:y=.int i) (z_2:SqT K H p xs) (z_3:atI xs i=some v) (z_4:Q v H):XrIxT K x y H Q
def rIxT (K:W.Frag):R2:=λx y H Q=>XrIxT K x y H Q
theorem bY:IxR X (rIxL X.K):=by
 intro value slice pins s σ H x y v u Q I rx ry h hs;obtain ⟨p,xs,i,z,rfl,rfl,hq,he,q⟩:=h;cases rx
 obtain ⟨t,rfl⟩:=ry;obtain ⟨its,r,pl,hz⟩:=I.list hq;obtain ⟨j,h1,h2,h3,h4,h5⟩:=Ai he;obtain ⟨w,ew,rw'⟩:=r.get h2;have hl:=r.length;have hn:=uj;have fin:EP X pins σ Q w s:=⟨z,H,I,rw',q⟩
 by_cases h0:0<=i
 ·have hj:i.toNat=j:=by
   rw [seqIndex_of h0 h5] at h1;exact Option.some.inj h1
  exact item_listR pl.isList h0 (by omega) (by rw [hj];simpa using ew) fin hs
 ·have hj:(i+(its.toArray.size:Int)).toNat=j:=by
   rw [seqIndex_neg (by omega) h4] at h1;rw [List.size_toArray,<- hl];exact Option.some.inj h1
  exact subscriptTail_builtinR (x:=w) pl.isList.typeIs slot_list_getitem.lookup
   (wpAny_getItem_list_neg (Q:=λr s'=>r=w/\EP X pins σ Q r s') pl.isList (by omega) (by rw [List.size_toArray] <;> omega) (by omega) (by rw [hj];simpa using ew) ⟨rfl,fin⟩) hs
theorem aL:IxR X (rIxT X.K):=by
 intro value slice pins s σ H x y v u Q I rx ry h hs;obtain ⟨p,xs,i,z,rfl,rfl,hq,he,q⟩:=h;cases rx
 obtain ⟨t,rfl⟩:=ry;obtain ⟨its,r,pl,hz⟩:=I.tuple hq;obtain ⟨j,h1,h2,h3,h4,h5⟩:=Ai he;obtain ⟨w,ew,rw'⟩:=r.get h2;have hl:=r.length;have hn:=uj;have fin:EP X pins σ Q w s:=⟨z,H,I,rw',q⟩
 exact subscriptTail_builtinR (x:=w) pl.typeIs slot_tuple_getitem.lookup
  (getItem_tuple (j:=j) (Q:=λr s'=>r=w/\EP X pins σ Q r s') pl (by omega) (by omega) (by rw [List.size_toArray,<- hl];exact h1) (by simpa using ew) ⟨rfl,fin⟩) hs
theorem tw (lo hi:Option Int) (n:Nat):(sliceBounds lo hi none n).1=((HT.sIx n 0 lo:Nat):Int)/\(sliceBounds lo hi none n).2.1=((HT.sIx n n hi:Nat):Int)/\(sliceBounds lo hi none n).2.2=1:=by
 refine ⟨?_,?_,rfl⟩
 ·cases lo with
  | none=>simp [sliceBounds,HT.sIx]
  | some i =>
   simp only [sliceBounds,HT.sIx,Option.getD_none,show (1:Int) > 0 by decide,if_true]
   by_cases h:i < 0
   ·simp only [h,if_true] <;> omega
   ·simp only [h,if_false] <;> omega
 ·cases hi with
  | none=>simp [sliceBounds,HT.sIx]
  | some i =>
   simp only [sliceBounds,HT.sIx,Option.getD_none,show (1:Int) > 0 by decide,if_true]
   by_cases h:i < 0
   ·simp only [h,if_true] <;> omega
   ·simp only [h,if_false] <;> omega
theorem rf (its:List Value) (lo hi:Option Int):slicePick its.toArray lo hi none=((its.drop (HT.sIx its.length 0 lo)).take (HT.sIx its.length its.length hi - HT.sIx its.length 0 lo)).toArray:=by
 obtain ⟨h1,h2,h3⟩:=tw lo hi its.toArray.size;unfold slicePick;rw [h1,h2,h3];simp only [sliceRange_one,pick_run,List.size_toArray] <;> rfl
def rSlL (K:W.Frag):V->Option Int->Option Int->Hp->VK->Prop:=λx lo hi H Q=>∃ a xs,x=.ref a/\SqL K H a xs/\∀ p,H p=none->Q (.ref p) (upd H p (.lst (mD xs lo hi)))
theorem tD:SlR X (rSlL X.K):=by
 intro pins s σ H x v vl vu lo hi sl Q I rx hs pl pu h;obtain ⟨a,xs,rfl,hx,q⟩:=h;cases rx
 obtain ⟨its,r,ht,hz⟩:=I.list hx;have hlen:=r.length;refine ⟨"list",_,slot_list_getitem.lookup,ht.isList.typeIs,?_⟩;refine wpAny_getItem_list_slice ht.isList hs pl pu .none (by simp) ?_ (by rw [List.size_toArray] <;> omega);rw [rf,<- hlen];refine ⟨.ref s.heap.objs.size,_,I.laid (t':=s.toks) (o:=.lst (mD xs lo hi)) (λb ob q=>Heap.get?_push_of_some _ q) (Nat.le_refl _) ?_,rfl,q _ (I.hok.fresh (Nat.le_refl _))⟩;exact ⟨Nat.le_trans (wL xs lo hi) hz,_,0,(r.drop (HT.sIx xs.length 0 lo)).take (HT.sIx xs.length xs.length hi - HT.sIx xs.length 0 lo),Heap.get?_push_size _ rfl⟩
def oH:V->Bool
 | .non=>true
 | .bl _=>true
 | .int _=>true
 | .str _=>true
 | _=>false
def eqV:V->V->Bool
 | .non,.non=>true
 | .bl a,.bl b=>a == b
 | .bl a,.int b=>(if a then 1 else 0) == b
 | .int a,.bl b=>a == (if b then 1 else 0)
 | .int a,.int b=>a == b
 | .str a,.str b=>a == b
 | _,_=>false
theorem eqAt_V {A:Around} {s:Shared} {y x:V} {u v:Value} (ry:RelV y u) (rx:RelV x v) (fy:oH y=true) (fx:oH x=true):SeqAt.EqAt A s u v (eqV y x):=by
 cases y with
 | non =>
  cases ry
  cases x with
  | non=>cases rx;exact SeqAt.EqAt.same _
  | bl b=>cases rx;exact SeqAt.EqAt.none_bool b
  | int b=>obtain ⟨t,rfl⟩:=rx;exact SeqAt.EqAt.none_int b t
  | str b=>obtain ⟨t,rfl⟩:=rx;exact SeqAt.EqAt.none_str b t
  | _=>exact absurd (show false=true from fx) Bool.false_ne_true
 | bl a =>
  cases ry
  cases x with
  | non=>cases rx;exact SeqAt.EqAt.bool_none a
  | bl b=>cases rx;exact SeqAt.EqAt.bool_bool a b
  | int b=>obtain ⟨t,rfl⟩:=rx;exact SeqAt.EqAt.bool_int a b t
  | str b=>obtain ⟨t,rfl⟩:=rx;exact SeqAt.EqAt.bool_str a b t
  | _=>exact absurd (show false=true from fx) Bool.false_ne_true
 | int a =>
  obtain ⟨t',rfl⟩:=ry;cases x with
  | non=>cases rx;exact SeqAt.EqAt.int_none a t'
  | bl b=>cases rx;exact SeqAt.EqAt.int_bool a t' b
  | int b=>obtain ⟨t,rfl⟩:=rx;exact SeqAt.EqAt.int_int a t' b t
  | str b=>obtain ⟨t,rfl⟩:=rx;exact SeqAt.EqAt.int_str a t' b t
  | _=>exact absurd (show false=true from fx) Bool.false_ne_true
 | str a =>
  obtain ⟨t',rfl⟩:=ry;cases x with
  | non=>cases rx;exact SeqAt.EqAt.str_none a t'
  | bl b=>cases rx;exact SeqAt.EqAt.str_bool a t' b
  | int b=>obtain ⟨t,rfl⟩:=rx;exact SeqAt.EqAt.str_int a t' b t
  | str b=>obtain ⟨t,rfl⟩:=rx;exact SeqAt.EqAt.str_str a t' b t
  | _=>exact absurd (show false=true from fx) Bool.false_ne_true
 | _=>exact absurd (show false=true from fy) Bool.false_ne_true
def eqU (x:V) (u:Value):Bool:=match u with
 | .none=>eqV .non x
 | .bool b=>eqV (.bl b) x
 | .int i _=>eqV (.int i) x
 | .str z _=>eqV (.str z) x
 | _=>false
theorem EH {x y:V} {u:Value} (r:RelV y u) (f:oH y=true):eqU x u=eqV y x:=by
 cases y with
 | non=>cases r;rfl
 | bl b=>cases r;rfl
 | int i=>obtain ⟨t,rfl⟩:=r;rfl
 | str z=>obtain ⟨t,rfl⟩:=r;rfl
 | _=>exact absurd (show false=true from f) Bool.false_ne_true
theorem uE {x:V}:∀{xs:List V} {us:List Value},Vals xs us->xs.all oH=true->us.any (eqU x)=xs.any λy=>eqV y x
 | _,_,.nil,_=>rfl
 | y::xs,u::us,.cons r t,f=>by
  rw [List.all_cons,Bool.and_eq_true] at f;rw [List.any_cons,List.any_cons,EH r f.1,uE t f.2]
theorem qB {A:Around} {s:Shared} {x:V} {v:Value} (rx:RelV x v) (fx:oH x=true):∀{xs:List V} {us:List Value},Vals xs us->xs.all oH=true->∀ u∈us,SeqAt.EqAt A s u v (eqU x u)
 | _,_,.nil,_=>λu hu=>by cases hu
 | y::xs,u::us,.cons r t,f=>λu' hu=>by
  rw [List.all_cons,Bool.and_eq_true] at f;rcases List.mem_cons.mp hu with rfl | hu
  ·rw [EH r f.1];exact eqAt_V r rx f.1 fx
  ·exact qB rx fx t f.2 u' hu
def inV (x:V) (xs:List V):Bool:=xs.any λy=>eqV y x
def rIn (K:W.Frag) (neg:Bool):R2:=λx y H Q=>∃ p xs,y=.ref p/\(SqL K H p xs\/SqT K H p xs)/\oH x=true/\xs.all oH=true/\Q (.bl (if neg then !inV x xs else inV x xs)) H
theorem AM:OpR X (compareOp .In) (rIn X.K false):=by
 intro pins s σ H x y v u Q I rx ry h;obtain ⟨p,xs,rfl,hq,fx,fs,q⟩:=h;cases ry
 rcases hq with hq | hq
 ·obtain ⟨its,r,pl,hz⟩:=I.list hq;refine SeqAt.in_listAt (eqU x) pl.isList (λw hw=>qB rx fx r fs w (by simpa using hw)) ⟨.bl _,H,I,rfl,?_⟩;rw [show its.toArray.any (eqU x)=its.any (eqU x) by simp,uE r fs];exact q
 ·obtain ⟨its,r,pl,hz⟩:=I.tuple hq;refine SeqAt.in_tupleAt (eqU x) pl (λw hw=>qB rx fx r fs w (by simpa using hw)) ⟨.bl _,H,I,rfl,?_⟩;rw [show its.toArray.any (eqU x)=its.any (eqU x) by simp,uE r fs];exact q
theorem gD:gR X (.type "tuple") (λxs H Q=>∃ p ys,xs=[.ref p]/\((SqL X.K H p ys/\∀ l,H l=none->Q (.ref l) (upd H l (.tup ys)))\/(SqT X.K H p ys/\Q (.ref p) H))):=by
 intro pins s σ H xs us Q I r h;obtain ⟨p,ys,rfl,h⟩:=h;obtain ⟨u,rfl,rx⟩:=vals1 r;cases rx
 rcases h with ⟨hq,q⟩ | ⟨hq,q⟩
 ·obtain ⟨its,r',pl,hz⟩:=I.list hq;have hlen:=r'.length;refine call_tuple_list pl.isList (λh' kp=>?_) (by simp only [List.size_toArray] <;> omega);have I1:Inv X pins σ H {s with heap:=h' }:=I.kept (t':=s.toks) kp
  have I2:Inv X pins σ (upd H h'.objs.size (.tup ys)) {s with heap:=h'.push {cls:=.type "tuple",data:=.seq its.toArray} }:=
   I1.laid (t':=s.toks) (λb o e=>Heap.get?_push_of_some _ e) (Nat.le_refl _) (show cq X.prog X.w _ _ _ (.tup ys) from ⟨hz,its,r',IsTup.new _ _⟩)
  exact ⟨.ref h'.objs.size,_,I2,rfl,q _ (I1.hok.fresh (Nat.le_refl _))⟩
 ·obtain ⟨its,r',pl,hz⟩:=I.tuple hq;exact call_tuple_same pl ⟨.ref p,H,I,rfl,q⟩
def tyV (K:W.Frag) (T:String) (x:V) (H:Hp):Prop:=match x with
 | .str _=>T="str"
 | .int _=>T="int"
 | .ref p=>(T="list"/\∃ xs,SqL K H p xs)\/(T="tuple"/\∃ o,K.lookup p=some o/\o.cls=.type "tuple"/\o.dict=none)\/
   (T="dict"/\((∃ kvs,H p=some (.dK kvs))\/∃ kvs,H p=some (.dT kvs)))\/(T="set"/\∃ S n,H p=some (.set S n))
 | _=>False
theorem BX {pins:List (Addr×Obj)} {σ:St} {H:Hp} {s:Shared} {T:String} {x:V} {v:Value} (I:Inv X pins σ H s) (r:RelV x v) (ty:tyV X.K T x H) :
  s.TypeIs v T/\∀ a,v=.ref a->∃ ob,s.heap.get? a=some ob/\ob.dict=none:=by
 cases x with
 | str z =>
  obtain ⟨t,rfl⟩:=r;cases (show T="str" from ty)
  exact ⟨typeIs_str s z t,λ_ e=>nomatch e⟩
 | int i =>
  obtain ⟨t,rfl⟩:=r;cases (show T="int" from ty)
  exact ⟨typeIs_int s i t,λ_ e=>nomatch e⟩
 | ref p =>
  cases r
  rcases ty with ⟨rfl,xs,hq⟩ | ⟨rfl,o,hk,hc,hd⟩ | ⟨rfl,hk⟩ | ⟨rfl,S,n,hk⟩
  ·obtain ⟨its,_,pl,_⟩:=I.list hq;refine ⟨pl.isList.typeIs,λa e=>?_⟩;cases e
   obtain ⟨o,n,e,c,hd,_⟩:=pl;exact ⟨o,e,hd⟩
  ·refine ⟨⟨o,I.kIn p o hk,hc⟩,λa e=>?_⟩;cases e
   exact ⟨o,I.kIn _ o hk,hd⟩
  ·have z:∃ o,s.heap.get? p=some o/\o.ExactDict:=by
    rcases hk with ⟨kvs,hk⟩ | ⟨kvs,hk⟩
    ·obtain ⟨_,_,_,_,o,_,_,e,ex,_⟩:=I.hok p _ hk;exact ⟨o,e,ex⟩
    ·obtain ⟨_,_,_,_,o,_,_,e,ex,_⟩:=I.hok p _ hk;exact ⟨o,e,ex⟩
   obtain ⟨o,e,ex⟩:=z;refine ⟨⟨o,e,ex.1⟩,λa e2=>?_⟩;cases e2
   exact ⟨o,e,ex.2.1⟩
  ·obtain ⟨o,_,_,_,e,ex,_⟩:=I.hok p _ hk;refine ⟨⟨o,e,ex.1⟩,λa e2=>?_⟩;cases e2
   exact ⟨o,e,ex.2.1⟩
 | _=>exact False.elim ty
def tBM0 (K:W.Frag) (T:String) (r:V->List V->Hp->VK->Prop) (to:TE):TE:=λσ H Q=>to σ H λx H1=>tyV K T x H1/\r x [] H1 Q
def tBM (K:W.Frag) (T:String) (r:V->List V->Hp->VK->Prop) (to:TE) (t:TA):TE:=λσ H Q=>to σ H λx H1=>tyV K T x H1/\t σ H1 λxs H2=>r x xs H2 Q
variable {o e:Expr} {es:List Expr} {to:TE} {t:TA} {name:Str} {apos cpos:Pos} {T id:String} {r:V->List V->Hp->VK->Prop}
theorem il (pa:PlainAttrs T) (slot:Slot T name id) (hty:typeOf (.builtin id)=pure (.type "method_descriptor")) (hm:MtR X id r) (ho:PE X o to)
  (hbase:attributeBase o name X.env (eval o X.env)=eval o X.env:=by rfl) (hline:(apos.endLine == cpos.line)=true:=by rfl):PE X (.Call (.Attribute o name apos) [] [] cpos) (tBM0 X.K T r to):=by
 intro pins s σ H Q I h;refine wpAny_Call_method0_late hbase hline (thn (ho pins s σ H _ I h) λv s1 zz=>?_);obtain ⟨x,H1,I1,r1,ty,q1⟩:=zz;obtain ⟨h1,h2⟩:=BX I1 r1 ty;exact ⟨T,id,pa,slot,hty,h1,h2,Calls.callWith_builtin rfl (PySem.evalArgs_none (hm pins s1 σ H1 x [] v [] Q I1 r1 .nil q1))⟩
theorem dP (pa:PlainAttrs T) (slot:Slot T name id) (hty:typeOf (.builtin id)=pure (.type "method_descriptor")) (hm:MtR X id r) (ho:PE X o to) (ha:PA X (e::es) t)
  (hbase:attributeBase o name X.env (eval o X.env)=eval o X.env:=by rfl)
  (hfew:((backTo cpos (starEach (e::es) X.env)).all (λx=>!x.1) && (backToKw cpos (keywordEach [] X.env)).all (λx=>x.1.isSome)
   && decide ((e::es).length+([]:List Keyword).length+(if ([]:List Keyword).isEmpty then 0 else 1) < 30))=true:=by rfl)
  (hline:(apos.endLine == cpos.line)=true:=by rfl) (hs:starEach (e::es) X.env=(false,eval e X.env)::starEach es X.env:=by rfl) (hplain:(backTo cpos (starEach es X.env)).any (·.1)=false:=by rfl) :
  PE X (.Call (.Attribute o name apos) (e::es) [] cpos) (tBM X.K T r to t):=by
 intro pins s σ H Q I h;refine wpAny_Call_method_late hbase hfew hline rfl (thn (ho pins s σ H _ I h) λv s1 zz=>?_);obtain ⟨x,H1,I1,r1,ty,q1⟩:=zz;obtain ⟨h1,h2⟩:=BX I1 r1 ty;refine ⟨T,id,pa,slot,hty,h1,h2,?_⟩;have hA:=ha cpos pins s1 σ H1 _ I1 q1;rw [hs] at hA ⊢;refine Calls.callWith_builtin (by show (false || (backTo cpos (starEach es X.env)).any (·.1))=false;rw [hplain] <;> rfl) (Calls.evalArgs_plain ?_);refine thn hA λus s2 zz=>?_;obtain ⟨vs,H2,I2,r2,q2⟩:=zz;exact hm pins s2 σ H2 x vs v us Q I2 r1 r2 q2
end
def MtM (X:Cx) (id:String) (r:V->List V->Hp->VK->Prop):Prop:=
 ∀(
  pins:List (Addr×Obj)) (s:Shared) (σ:St) (H:Hp) (x:V) (xs:List V) (v:Value) (us:List Value) (Q:VK),Inv X pins σ H s->RelV x v->Vals xs us->r x xs H Q->
  wpAny (model X.prog X.w) X.A (call (.builtin id) (v::us)) (EP X pins σ Q) X.xe s
theorem Vals.one:∀{x:V} {us:List Value},Vals [x] us->∃ u,us=[u]/\RelV x u
 | _,_,.cons r .nil=>⟨_,rfl,r⟩
theorem Vals.zero:∀{us:List Value},Vals [] us->us=[]
 | _,.nil=>rfl
theorem Vals.dropLast {xs:List V} {us:List Value} (h:Vals xs us):Vals xs.dropLast us.dropLast:=by
 induction h with
 | nil=>exact .nil
 | cons r t ih =>
  cases t with
  | nil=>exact .nil
  | cons q t'=>exact .cons r ih
theorem Vals.eraseIdx:∀{xs:List V} {us:List Value} (i:Nat),Vals xs us->Vals (xs.eraseIdx i) (us.eraseIdx i)
 | _,_,_,.nil=>.nil
 | _,_,0,.cons _ t=>t
 | _,_,i+1,.cons r t=>.cons r (Vals.eraseIdx i t)
theorem Vals.reverse {xs:List V} {us:List Value} (h:Vals xs us):Vals xs.reverse us.reverse:=by
 induction h with
 | nil=>exact .nil
 | cons r t ih=>rw [List.reverse_cons,List.reverse_cons];exact Vals.append ih (.cons r .nil)
theorem yr {α:Type} (l:List α):l.eraseIdx (l.length - 1)=l.dropLast:=by
 induction l with
 | nil=>rfl
 | cons a r ih =>
  cases r with
  | nil=>rfl
  | cons b r =>
   have e:(a::b::r).length - 1=((b::r).length - 1)+1:=by
    have h1:(a::b::r).length=r.length+2:=rfl;have h2:(b::r).length=r.length+1:=rfl;omega
   rw [e,List.eraseIdx_cons_succ,ih]
   all_goals rfl
theorem sG {α:Type}:∀(l:List α) (i:Nat),(l.eraseIdx i).length<=l.length
 | [],_=>Nat.le_refl _
 | _::_,0=>Nat.le_succ _
 | _::r,i+1=>Nat.succ_le_succ (sG r i)
section
variable {X:Cx} {pins:List (Addr×Obj)} {σ:St} {H:Hp} {s:Shared} {l b:Addr} {xs ys zs:List V}
theorem Inv.lset {its its':List Value} {n:Nat} {f:Array Value->Array Value} {t':Nat} (I:Inv X pins σ H s) (hH:H l=some (.lst xs))
  (e:s.heap.get? l=some {cls:=.type "list",data:=.seq its.toArray n}) (hf:f its.toArray=its'.toArray) (hv:Vals ys its') (hz:ys.length<=sizeLine) :
  Inv X pins σ (upd H l (.lst ys)) {s with heap:=s.heap.update l (Obj.mapSeq f),toks:=t' }:=by
 have q:=PySem.IsL.update e f;rw [hf] at q;refine I.write (x:=l) (e:=l) (by rw [hH];exact trivial) (.inl rfl) (λb' u hb hu=>(Heap.get?_update_other s.heap (Obj.mapSeq f) (Ne.symm hb)).trans hu) ⟨_,q⟩ ?_;exact ⟨hz,its',_,hv,q⟩
theorem Inv.lnew {its:List Value} {t':Nat} (I:Inv X pins σ H s) (hv:Vals ys its) (hz:ys.length<=sizeLine) :
  Inv X pins σ (upd H s.heap.objs.size (.lst ys)) {s with heap:=s.heap.push {cls:=.type "list",data:=.seq its.toArray},toks:=t' }:=
 I.laid (λ_ _ q=>Heap.get?_push_of_some _ q) (Nat.le_refl _) ⟨hz,its,0,hv,Heap.get?_push_size _ rfl⟩
theorem Inv.fresh (I:Inv X pins σ H s):H s.heap.objs.size=none:=I.hok.fresh (Nat.le_refl _)
theorem Inv.lstM (I:Inv X pins σ H s) (hH:H l=some (.lst xs)):xs.length<=sizeLine/\∃(its:List Value) (n:Nat),Vals xs its/\xs.length=its.length/\s.heap.get? l=some {cls:=.type "list",data:=.seq its.toArray n}:=by
 obtain ⟨z,its,n,r,e⟩:=I.hok l _ hH;exact ⟨z,its,n,r,r.length,e⟩
theorem DU {n:Nat} (h:n<=sizeLine):Builtin.List.listTooLong n=false:=by
 unfold Builtin.List.listTooLong;exact decide_eq_false (by omega)
end
section
variable {X:Cx}
inductive wY (x:V) (vs:List V) (H:Hp) (Q:VK):Prop where
 | mk (l:Addr) (xs:List V) (y:V) (z_0:x=.ref l) (z_1:vs=[y]) (z_2:H l=some (.lst xs)) (z_3:xs.length < sizeLine) (z_4:Q .non (upd H l (.lst (xs++[y])))):wY  x vs H Q
def rAppend:V->List V->Hp->VK->Prop:=λx vs H Q=>wY  x vs H Q
theorem bA:MtM X "list.append" rAppend:=by
 intro pins s σ H x vs v us Q I rx rv h;obtain ⟨l,xs,y,rfl,rfl,hH,hz,q⟩:=h;cases rx
 obtain ⟨u,rfl,ru⟩:=rv.one;obtain ⟨z,its,n,r,hl,e⟩:=I.lstM hH;refine call_meets F.slot_list_append ⟨_,e,rfl⟩ F.entry_list_append (F.args_list_append_2 _ _) (PySem.list_append l its.toArray n u (by rw [List.size_toArray];omega)) ⟨e,?_⟩;refine ⟨.non,_,I.lset (its':=its++[u]) hH e (by simp) (r.append (.cons ru .nil)) ?_,rfl,q⟩;rw [List.length_append,List.length_singleton];omega
def rExtend:V->List V->Hp->VK->Prop:=λx vs H Q=>∃ l b xs zs,x=.ref l/\vs=[.ref b]/\H l=some (.lst xs)/\H b=some (.lst zs)/\xs.length+zs.length<=sizeLine/\Q .non (upd H l (.lst (xs++zs)))
theorem nK:MtM X "list.extend" rExtend:=by
 intro pins s σ H x vs v us Q I rx rv h;obtain ⟨l,b,xs,zs,rfl,rfl,hH,hB,hz,q⟩:=h;cases rx
 obtain ⟨u,rfl,ru⟩:=rv.one;cases ru
 obtain ⟨z,its,n,r,hl,e⟩:=I.lstM hH;obtain ⟨z2,its2,n2,r2,hl2,e2⟩:=I.lstM hB;have hsz:its.toArray.size+its2.toArray.size<=sizeLine:=by rw [List.size_toArray,List.size_toArray];omega
 have hlong:¬ (!its.toArray.isEmpty && Builtin.List.listTooLong (its.toArray.size+its2.toArray.size))=true:=by
  rw [DU hsz,Bool.and_false];exact Bool.false_ne_true
 refine call_meets F.slot_list_extend ⟨_,e,rfl⟩ F.entry_list_extend (F.args_list_extend_2 _ _)
  (AutoSeq1.list_extend_list_list_0 l its.toArray n b its2.toArray n2 hlong (by rw [List.size_toArray];omega) (by omega)) ⟨e,e2,?_⟩
 refine ⟨.non,_,I.lset (its':=its++its2) hH e (by simp) (r.append r2) ?_,rfl,q⟩;rw [List.length_append];omega
def rPop:V->List V->Hp->VK->Prop:=λx vs H Q=>∃ l xs y,x=.ref l/\vs=[]/\H l=some (.lst xs)/\xs[xs.length - 1]?=some y/\Q y (upd H l (.lst xs.dropLast))
theorem jt:MtM X "list.pop" rPop:=by
 intro pins s σ H x vs v us Q I rx rv h;obtain ⟨l,xs,y,rfl,rfl,hH,hy,q⟩:=h;cases rx
 have hus:=rv.zero;subst hus;obtain ⟨z,its,n,r,hl,e⟩:=I.lstM hH;obtain ⟨u,hu,ru⟩:=r.get hy
 have hy':its.toArray[its.toArray.size - 1]?=some u:=by
  show its.toArray[its.length - 1]?=some u;rw [<- Array.getElem?_toList,<- hl];exact hu
 refine call_meets F.slot_list_pop ⟨_,e,rfl⟩ F.entry_list_pop (F.args_list_pop_1 _) (MeetsSeq.list_pop_last l its.toArray n u hy' (by rw [List.size_toArray];omega)) ⟨e,?_⟩;refine ⟨y,_,I.lset (its':=its.dropLast) hH e ?_ r.dropLast ?_,ru,q⟩
 ·show its.toArray.eraseIdxIfInBounds (its.toArray.size - 1)=its.dropLast.toArray;rw [List.size_toArray,List.eraseIdxIfInBounds_toArray,yr]
 ·rw [List.length_dropLast];omega
def rPopAt:V->List V->Hp->VK->Prop:=λx vs H Q=>∃ l xs i k y,x=.ref l/\vs=[.int i]/\H l=some (.lst xs)/\-(2 ^ 63)<=i/\i < 2 ^ 63/\seqIndex? i xs.length=some k/\xs[k]?=some y/\Q y (upd H l (.lst (xs.eraseIdx k)))
theorem Ea:MtM X "list.pop" rPopAt:=by
 intro pins s σ H x vs v us Q I rx rv h;obtain ⟨l,xs,i,k,y,rfl,rfl,hH,h1,h2,hk,hy,q⟩:=h;cases rx
 obtain ⟨u,rfl,ru⟩:=rv.one;obtain ⟨t,rfl⟩:=ru;obtain ⟨z,its,n,r,hl,e⟩:=I.lstM hH;obtain ⟨w,hw,rw'⟩:=r.get hy
 refine call_meets F.slot_list_pop ⟨_,e,rfl⟩ F.entry_list_pop (F.args_list_pop_2 _ _)
  (MeetsSeq.list_pop_at l its.toArray n i t k w (fitsIndex_both h1 h2) (by rw [List.size_toArray,<- hl];exact hk) (by rw [<- Array.getElem?_toList];exact hw) (by rw [List.size_toArray];omega)) ⟨e,?_⟩
 refine ⟨y,_,I.lset (its':=its.eraseIdx k) hH e ?_ (r.eraseIdx k) ?_,rw',q⟩
 ·show its.toArray.eraseIdxIfInBounds k=(its.eraseIdx k).toArray;rw [List.eraseIdxIfInBounds_toArray]
 ·have:=sG xs k;omega
def Dj:V->List V->Hp->VK->Prop:=λx vs H Q=>∃ l xs,x=.ref l/\vs=[]/\H l=some (.lst xs)/\Q .non (upd H l (.lst xs.reverse))
theorem qy:MtM X "list.reverse" Dj:=by
 intro pins s σ H x vs v us Q I rx rv h;obtain ⟨l,xs,rfl,rfl,hH,q⟩:=h;cases rx
 have hus:=rv.zero;subst hus;obtain ⟨z,its,n,r,hl,e⟩:=I.lstM hH;refine call_meets F.slot_list_reverse ⟨_,e,rfl⟩ F.entry_list_reverse (F.args_list_reverse_1 _) (AutoSeq1.list_reverse_list_0 l its.toArray n (by rw [List.size_toArray];omega)) ⟨e,?_⟩;refine ⟨.non,_,I.lset (its':=its.reverse) hH e (by simp) r.reverse ?_,rfl,q⟩;rw [List.length_reverse];omega
def rCat:R2:=λx y H Q=>∃ l b xs zs,x=.ref l/\y=.ref b/\H l=some (.lst xs)/\H b=some (.lst zs)/\xs.length+zs.length<=sizeLine/\∀ p,H p=none->Q (.ref p) (upd H p (.lst (xs++zs)))
theorem op_cat:OpR X (binaryOp .Add) rCat:=by
 intro pins s σ H x y v u Q I rx ry h;obtain ⟨l,b,xs,zs,rfl,rfl,hH,hB,hz,q⟩:=h;cases rx
 cases ry
 obtain ⟨z,its,n,r,hl,e⟩:=I.lstM hH;obtain ⟨z2,its2,n2,r2,hl2,e2⟩:=I.lstM hB;refine PySem.P.add_list e e2 ?_ (by rw [List.size_toArray,List.size_toArray];omega);have ea:its.toArray++its2.toArray=(its++its2).toArray:=by simp
 rw [ea];exact ⟨.ref _,_,I.lnew (t':=s.toks) (r.append r2) (by rw [List.length_append];omega),rfl,q _ I.fresh⟩
end
section
variable {prog:Program} {w:World} {A:Around} {E:Value->Shared->Prop} {s:Shared}
set_option maxRecDepth 100000 in
end
section
variable {X:Cx}
end
end L2
namespace Att
open PySem PySem.W PySem.Calls PyProof.Rows
theorem oP {P:Params} {h:Heap}:∀(ns:List Int) (vs:List Value),WellAll P h vs (ns.map WData.int)->IntsAre vs ns:=by
 intro ns
 induction ns with
 | nil =>
  intro vs w;rw [List.map_nil] at w;cases w
  exact .nil
 | cons n ns ih =>
  intro vs w;rw [List.map_cons] at w;cases w with
  | cons a b =>
   cases a
   exact .cons _ _ (ih _ b)
theorem AD {l:OpenLaw} {n:Nat} (hn:l.most=some n) {P:Params} {h:Heap} {args:List WData} {vals:List Value}
  (hpre:l.row.toRowW.claim.pre args=true) (hwl:WellAll P h vals args) :
  ∃ a vs ns,vals=[Value.ref a]/\args=[WData.list (ns.map WData.int)]/\h.get? a=some {cls:=.type "list",data:=.seq vs.toArray}/\IntsAre vs ns/\ns.length<=n:=by
 have hsh:WShape.hasAll [] args [.list .int]=true:=(pre_splitW hpre).1;have hc:l.pre.holds [] {args:=args}=true:=(pre_splitW hpre).2;obtain ⟨d,r,rfl,h1,h2⟩:=hasAllW_cons hsh;obtain rfl:=hasAllW_nil h2;obtain ⟨xs,rfl,h3⟩:=hasW_list h1;obtain ⟨ns,rfl⟩:=items_int h3
 have hlen:ns.length<=n:=by
  unfold OpenLaw.pre at hc
  have h4:(WTm.not (.lt (.lit (.int (n:Int))) (.len (.arg 0)))).holds [] {args:=[.list (ns.map .int)] }=true:=by
   have h4:=(holds_andW hc).1;rw [hn] at h4;exact h4
  have h5:=condW_of h4 (w_not (w_lt w_lit (w_len_list (w_arg rfl))));rw [List.length_map] at h5;refine Nat.le_of_not_lt λq=>?_;have q':(n:Int) < ((ns.length:Nat):Int):=by omega
  first
   | (rw [decide_eq_true q'] at h5;exact absurd h5 (by decide))
   | (simp at h5;omega)
 cases hwl with
 | cons w1 w2 =>
  cases w2
  cases w1 with
  | list ho hall=>exact ⟨_,_,ns,rfl,rfl,ho,oP ns _ hall,hlen⟩
theorem AJ (l:OpenLaw) (args:List WData):l.row.toRowW.claim.post args (.bool true) args=true:=
 postW_of (r:=l.row.toRowW) (X:=(true == true))
  (show WShape.has [] (.bool true) .bool=true by first | rfl | decide | simp [WShape.has,WShape.arms,WShape.armsAll])
  (show (WTm.eq .res (.lit (.bool true))).value [] {args:=args,res:=some (.bool true),after:=args}=some (.bool (true == true)) from w_eq_bool (w_res rfl) w_lit) rfl
section
variable {prog:Program} {w:World} {A:Around} {E:Value->Shared->Prop} {s:Shared} {K:Frag}
end
end Att
namespace L2
open PySem PySem.Spec PyProof.Rows
theorem rK:∀{vs:List Value} {ns:List Int},IntsAre vs ns->Vals (ns.map V.int) vs
 | _,_,.nil=>.nil
 | _,_,.cons n t h=>.cons ⟨t,rfl⟩ (rK h)
def Only (H:Hp):Prop:=∀ b,H b=none\/∃ o xs,H b=some (.frz o (.lst xs))
theorem Eg {P:Program} {w:World} {K:W.Frag} {mg mb:Str->Option Value} {CX:CXT} {k:Nat} {fa a:Addr} {fd:FuncData} {x:Str} {sp:Sp} {s₁:Shared} {vs:List Value} {ns:List Int}
  (KX:K.In s₁.heap) (hns:s₁.heap.Ns mainGlobals mg) (hb:s₁.heap.Ns builtinsNs mb) (hbb:∀ x:Str,x≠"__name__"->mb x=bootBuiltins x) (hlim:s₁.heap.NoLimit) (hg:s₁.gens=#[])
  (ha:s₁.heap.get? a=some {cls:=.type "list",data:=.seq vs.toArray}) (hi:IntsAre vs ns) (hl:ns.length<=sizeLine) (hr:dj k callerA)
  (F:∀ base:Heap,K.In base->base.Ns mainGlobals mg->mP P w K mg base CX k fa fd [x] sp) (hbind:∀(s:Shared) (u:Value),BindsTo s fd ⟨[u],[]⟩ [(x,u)])
  (hsp:∀ H:Hp,Only H->SqL K H a (ns.map V.int)->sp [.ref a] H (λv _=>v=.bl true) λ_ _ _=>False)
  (hCX:∀ H e s',CX [] H s₁ (λ_ _ _=>False) e s'->False) :
  codeAny (model P w) callerA (.call (.ref fa) ⟨[.ref a],[]⟩) (λr s'=>r=.ok (.ret (.bool true))/\OldK s₁.heap s'.heap/\s'.os=s₁.os/\AllBare s'.gens) s₁:=by
 have rv:=rK hi;have lenV:=hi.length
 have core:∀ H:Hp,Only H->SqL K H a (ns.map V.int)->HOk P w H s₁.heap->(∀ b,H b≠none->b=a)->(H a≠none->K.lookup a=none)->
   codeAny (model P w) callerA (.call (.ref fa) ⟨[.ref a],[]⟩) (λr s'=>r=.ok (.ret (.bool true))/\OldK s₁.heap s'.heap/\s'.os=s₁.os/\AllBare s'.gens) s₁:=by
  intro H hO hS hok hA hK;have base_of:∀{b:Addr} {o:Obj},s₁.heap.get? b=some o->H b=none->(uq s₁.heap H).get? b=some o:=λe n=>Em e n
  have noA:∀{b:Addr} {o:Obj} {es:Array DictEntry} {ep:Nat},s₁.heap.get? b=some o->o.data=.dict es ep->H b=none:=λ{b o es ep} e d=>by
   cases q:H b with
   | none=>rfl
   | some u =>
    have e':b=a:=hA b (by rw [q];simp);subst e';rw [ha] at e;cases e
    have d':Data.seq vs.toArray _=Data.dict es ep:=d;cases d'
  have nsK:∀{b:Addr} {m:Str->Option Value},s₁.heap.Ns b m->(uq s₁.heap H).Ns b m:=λ{b m} ⟨o,es,ep,e,d,r⟩=>⟨o,es,ep,base_of e (noA e d),d,r⟩
  have hKb:K.In (uq s₁.heap H):=λb o e=>base_of (KX b o e) (by
   cases q:H b with
   | none=>rfl
   | some u =>
    have e':b=a:=hA b (by rw [q];simp);subst e';rw [hK (by rw [q];simp)] at e;cases e)
  have hM:Mod K mg (uq s₁.heap H):=⟨hKb,nsK hns,⟨mb,nsK hb,hbb⟩,let ⟨mc,h1,h2⟩:=hlim;⟨mc,nsK h1,h2⟩⟩;have e0:yP P w K mg (uq s₁.heap H) callerA [] s₁ H:=⟨rfl,hM,λb o e=>of_hidT e,Nat.le_of_eq (Bt _ _),trivial,λb hb=>absurd (show b∈([]:List Addr) from hb) (by simp),hok,.of_eq hg⟩;refine codeAny_mono ((F _ hKb (nsK hns)).run callerA [] s₁ H ⟨[.ref a],[]⟩ [.ref a] [.ref a] _ _ hr e0 (hbind s₁ (.ref a)) (.cons rfl .nil) (hsp H hO hS)) λr s' h=>?_;cases r with
  | error e=>exact (hCX H e s' h).elim
  | ok fl =>
   cases fl with
   | next=>exact False.elim h
   | brk=>exact False.elim h
   | cont=>exact False.elim h
   | ret u =>
    obtain ⟨v,H',os,bare,un,hok',r',q⟩:=h;have q':v=.bl true:=q;subst q';obtain rfl:u=Value.bool true:=r';refine ⟨rfl,OldK.of_keep λb o e=>?_,os,bare⟩;cases q:H b with
    | none=>exact un.keep b o e q (by intro z;exact absurd (show b∈([]:List Addr) from z) (by simp)) (by simp)
    | some u =>
     rcases hO b with z | ⟨ob,xs,z⟩
     ·rw [q] at z;cases z
     ·have z2:=un.frzs b ob _ z;obtain ⟨e1,_⟩:=hok b _ z;obtain ⟨e2,_⟩:=hok' b _ z2;rw [e] at e1;cases e1
      exact e2
 cases hk:K.lookup a with
 | some o =>
  have e:=KX a o hk;rw [ha] at e;cases e
  refine core (λ_=>none) (λ_=>.inl rfl) (.inr ⟨_,vs.toArray,_,hk,rfl,rfl,rfl,by rw [List.size_toArray,lenV];exact hl,by simpa using rv⟩) (λb u z=>by have z':(none:Option HO)=some u:=z;cases z') (λb z=>absurd rfl z) λz=>absurd rfl z
 | none =>
  refine core (λb=>if b=a then some (.frz {cls:=.type "list",data:=.seq vs.toArray} (.lst (ns.map V.int))) else none) (λb=>?_) (.inl (.inr ⟨{cls:=.type "list",data:=.seq vs.toArray},if_pos rfl⟩)) (λb u z=>?_) (λb z=>?_) λ_=>hk
  ·by_cases hb:b=a
   ·exact .inr ⟨_,_,if_pos hb⟩
   ·exact .inl (if_neg hb)
  ·by_cases hb:b=a
   ·have z':=(if_pos hb).symm.trans z;cases z'
    subst hb;exact ⟨ha,by rw [List.length_map];exact hl,vs,_,rv,ha⟩
   ·have z':=(if_neg hb).symm.trans z;cases z'
  ·by_cases hb:b=a
   ·exact hb
   ·exact absurd (if_neg hb) z
abbrev KOf {K:W.Frag} {h:Heap} (_:K.In h):W.Frag:=K
def inClass (s:Stmt) (j:Nat):Stmt:=match s with
 | .ClassDef _ _ _ body _ _ _ _ _ _ _=>body.getD j (.Pass ⟨0,0,0,0⟩)
 | _=>.Pass ⟨0,0,0,0⟩
def fG (s:Stmt):Arguments:=match s with
 | .FunctionDef _ a _ _ _ _ _ _ _ _=>a
 | _=>{posonlyargs:=[],args:=[],vararg:=none,kwonlyargs:=[],kw_defaults:=[],kwarg:=none,defaults:=[] }
def bP (s:Stmt):List Stmt:=match s with
 | .FunctionDef _ _ b _ _ _ _ _ _ _=>b
 | _=>[]
def ak (s:Stmt):Scope:=match s with
 | .FunctionDef _ _ _ _ _ _ sc _ _ _=>sc
 | _=>{kind:=.function,names:=[],isGenerator:=false,isCoroutine:=false}
abbrev CX0:CXT:=λ_ _ _ _ _ _=>False
abbrev E0:XK:=λ_ _ _=>False
theorem vS {X:Cx}:Passes CX0 X E0:=λ_ _ _ _ _ _ _ h=>h.elim
structure Fun (K:W.Frag) (x qual:Str) (st:Stmt) (f:Addr) (fd:FuncData):Prop where
 ex:∃(oc:Value) (od:Option Addr) (kV doc pm:Value) (an:Option Addr) (cdv ct:Value) (osl:Array (Option Value)),
  fd=PySem.W.fnOf x qual (fG st) (bP st) (ak st) .none kV doc pm an cdv ct/\K.lookup f=some ⟨oc,od,.func fd,osl⟩/\PySem.W.codeIn K cdv qual=true
 kp:PySem.W.keepIn K (.ref f)=true
variable {P:Program} {w:World} {K:W.Frag} {mg:Str->Option Value} {base:Heap}
theorem Fun.ok {x qual:Str} {st:Stmt} {f:Addr} {fd:FuncData} {N ps:List Str} {k:Nat} {sp:Sp} (F:Fun K x qual st f fd) (S:aE N ps (ak st)) (len:∀ vs H Q E,sp vs H Q E->vs.length=ps.length)
  (hbody:∀(cdv:Value) (A:Around) (outer:List Env) (s:Shared) (H:Hp) (vs:List V) (Q:VK) (E:XK),dj k (A.deeper (envOfC qual (ak st) s.heap.objs.size f cdv))->sp vs H Q E->
   ∃ t,PSs (eO CX0 P w K mg base N qual (ak st) f cdv A outer s H E).nox (bP st) t/\t {nx:=λ_ H'=>Q .non H',rt:=Q} (start N vs) H):mP P w K mg base CX0 (k+1) f fd ps sp:=by
 obtain ⟨oc,od,kV,doc,pm,an,cdv,ct,osl,rfl,lk,hcd⟩:=F.ex;refine fn_of lk hcd S len λA outer s H vs Q E hr hsp=>?_;obtain ⟨t,h,q⟩:=hbody cdv A outer s H vs Q E hr hsp;exact ⟨t,h.nox,q⟩
theorem Fun.binds {x qual:Str} {st:Stmt} {f:Addr} {fd:FuncData} {ps:List Str} (F:Fun K x qual st f fd)
  (h:∀(kV doc pm:Value) (an:Option Addr) (cdv ct:Value) (us:List Value),us.length=ps.length->bindArgs (PySem.W.fnOf x qual (fG st) (bP st) (ak st) .none kV doc pm an cdv ct) ⟨us,[]⟩=pure (ps.zip us)):Binds K fd ps []:=by
 obtain ⟨oc,od,kV,doc,pm,an,cdv,ct,osl,rfl,lk,hcd⟩:=F.ex;exact .all (h kV doc pm an cdv ct)
theorem Ex {x qual:Str} {st:Stmt} {f:Addr} {oc:Value} {od an:Option Addr} {osl:Array (Option Value)} {kV doc pm cdv ct:Value} (l:K.lookup f=some ⟨oc,od,.func (PySem.W.fnOf x qual (fG st) (bP st) (ak st) .none kV doc pm an cdv ct),osl⟩)
  (c:PySem.W.codeIn K cdv qual=true) (k:PySem.W.keepIn K (.ref f)=true):Fun K x qual st f (PySem.W.fnOf x qual (fG st) (bP st) (ak st) .none kV doc pm an cdv ct):=⟨⟨oc,od,kV,doc,pm,an,cdv,ct,osl,rfl,l,c⟩,k⟩
theorem hu_of {A:Around} {k:Nat} (hr:dj k A):A.units+1 < cLine:=Nat.lt_of_le_of_lt (Nat.add_le_add_left (by decide:1<=64) _) hr.units
theorem bI {n:Nat} (h:n<=1000):n < sizeLine:=Nat.lt_of_le_of_lt h (by decide)
section
variable {X:Cx}
theorem pv (i:Nat) {x:Str} {pos:Pos} (hN:X.N[i]?=some x:=by rfl) (hv:Vis X.env.scope x:=by first | exact Or.inl rfl | exact Or.inr (Or.inl rfl) | exact Or.inr (Or.inr rfl)) (hd:(x == ("__debug__":Str))=false:=by decide)
  (hcd:(x == ("__classdict__":Str))=false:=by decide):PE X (.Name x pos) (tVar i):=Dt hN hv hd hcd
end
theorem aT {A B:Prop} (h:B):if false=true then A else B:=by
 rw [if_neg Bool.false_ne_true];exact h
theorem cj {A B:Prop} (h:A):if true=true then A else B:=by
 rw [if_pos rfl];exact h
theorem gG {c A B:Prop} [Decidable c] (h1:c->A) (h2:¬c->B):if c then A else B:=by
 by_cases h:c
 ·rw [if_pos h];exact h1 h
 ·rw [if_neg h];exact h2 h
theorem iteNS {c A B:Prop} [Decidable c] (hc:c) (h:B):if (!decide c)=true then A else B:=by
 rw [decide_eq_true hc];exact aT h
def aH (H H':Hp):Prop:=∀ b o,H b=some o->H' b=some o
theorem aH.refl (H:Hp):aH H H:=λ_ _ h=>h
theorem aH.trans {H H1 H2:Hp} (a:aH H H1) (b:aH H1 H2):aH H H2:=λc o h=>b c o (a c o h)
theorem aH.free {H H':Hp} (e:aH H H') {l:Addr} (h:H' l=Option.none):H l=Option.none:=by
 cases q:H l with
 | none=>rfl
 | some o =>
  rw [e l o q] at h;cases h
theorem aH.seq {K:W.Frag} {H H':Hp} {a:Addr} {xs:List V} (e:aH H H') (h:SqL K H a xs):SqL K H' a xs:=by
 rcases h with (h | ⟨o,h⟩) | h
 ·exact .inl (.inl (e _ _ h))
 ·exact .inl (.inr ⟨o,e _ _ h⟩)
 ·exact .inr h
end L2
set_option maxHeartbeats 4000000
namespace L2
open PySem PySem.Spec PyProof.Rows
def bC (X:Cx) (scope:Scope) (cl:List (Str×Addr)) (N:List Str) (s:Shared) (H:Hp) (fp:List Addr):Cx:=
 {prog:=X.prog,w:=X.w,K:=X.K,mg:=X.mg,base:=X.base,A:=X.A,N:=N,s₀:=s,H₀:=H,env:=compEnvC scope cl s.heap.objs.size X.env,
  outer:=X.stack,stack:=X.stack,ex:=fp,fn:=λ_=>false,calm:=X.calm,pn:=[],xe:=λ_ _=>False}
def bQ (X:Cx) (x:Str) (js:List Nat):List Str:=x::js.map λj=>X.N.getD j ""
def ck (js:List Nat) (σ:St):St:=js.map λj=>(σ[j]?).getD none
structure fL (X:Cx) (scope:Scope) (js:List Nat):Prop where
 all:∀ j∈js,∃ y,X.N[j]?=some y/\(X.env.kindOf y=some .cell\/X.env.kindOf y=some .free)/\(y,NameKind.free)∈scope.names/\
  ((relabel scope X.env).names.lookup y=some .cell\/(relabel scope X.env).names.lookup y=some .free)
theorem dC {X:Cx} {scope:Scope}:fL X scope []:=⟨λ_ h=>nomatch h⟩
theorem dX {X:Cx} {scope:Scope} {j:Nat} {js:List Nat} {y:Str} (h1:X.N[j]?=some y) (h2:X.env.kindOf y=some .cell\/X.env.kindOf y=some .free) (h3:(y,NameKind.free)∈scope.names)
  (h4:(relabel scope X.env).names.lookup y=some .cell\/(relabel scope X.env).names.lookup y=some .free) (r:fL X scope js):fL X scope (j::js):=
 ⟨λk hk=>by
  rcases List.mem_cons.mp hk with e | e
  ·subst e;exact ⟨y,h1,h2,h3,h4⟩
  ·exact r.all k e⟩
theorem cR {env:Env}:∀{names:List (Str×NameKind)} {y:Str} {k:NameKind},
  (names.map λ(n,k)=>if (k == NameKind.free && env.scope.kind == .function && env.kindOf n == some .cell) then (n,NameKind.cell) else (n,k)).lookup y=some k->
  ∃ k',(y,k')∈names/\(k'=k\/(k=.cell/\k'=.free))
 | [],_,_,h=>by simp at h
 | (n,k0)::r,y,k,h=>by
  by_cases hc:(k0 == NameKind.free && env.scope.kind == .function && env.kindOf n == some .cell)=true
  ·rw [List.map_cons] at h;dsimp only at h;rw [if_pos hc] at h;simp only [List.lookup_cons] at h
   have hf:k0=.free:=by
    rw [Bool.and_eq_true,Bool.and_eq_true] at hc;exact beq_iff_eq.mp hc.1.1
   cases hx:y == n with
   | true =>
    rw [hx] at h;have e:=beq_iff_eq.mp hx;subst e;have e2:=Option.some.inj h;exact ⟨k0,List.mem_cons_self,.inr ⟨e2.symm,hf⟩⟩
   | false =>
    rw [hx] at h;obtain ⟨k',m,q⟩:=cR h;exact ⟨k',List.mem_cons_of_mem _ m,q⟩
  ·rw [List.map_cons] at h;dsimp only at h;rw [if_neg hc] at h;simp only [List.lookup_cons] at h;cases hx:y == n with
   | true =>
    rw [hx] at h;have e:=beq_iff_eq.mp hx;subst e;have e2:=Option.some.inj h;exact ⟨k0,List.mem_cons_self,.inl e2⟩
   | false =>
    rw [hx] at h;obtain ⟨k',m,q⟩:=cR h;exact ⟨k',List.mem_cons_of_mem _ m,q⟩
section
variable {X:Cx} {pins:List (Addr×Obj)} {σ:St} {H:Hp} {s:Shared} {scope:Scope} {cl:List (Str×Addr)} {x:Str} {js:List Nat} {fp:List Addr}
theorem comp_ok (I:Inv X pins σ H s) (hk:scope.kind=.function) (hcell:∀ y∈scope.names,y.2≠.cell)
  (hcl1:∀ y c,cl.lookup y=some c->X.env.cells.lookup y=some c) (hcl2:∀ y,(y,NameKind.free)∈scope.names->∃ c,cl.lookup y=some c)
  (hf:∀ b∈fp,jg X pins H b) (hlt:∀ b∈fp,b < s.heap.objs.size):(bC X scope cl (bQ X x js) s H fp).Ok where
 mod:=I.ok.mod
 kind:=hk
 glob:=I.ok.glob
 blt:=I.ok.blt
 above:=Nat.le_refl _
 inj:=λy z c h1 h2=>I.ok.inj y z c (hcl1 y c h1) (hcl1 z c h2)
 has:=λy hy=>by
  have hy':(relabel scope X.env).names.lookup y=some .cell\/(relabel scope X.env).names.lookup y=some .free:=hy;rcases hy' with h | h
  ·obtain ⟨k',m,q⟩:=cR h;rcases q with q | ⟨_,q⟩
   ·exact absurd q (hcell _ m)
   ·subst q;exact hcl2 y m
  ·obtain ⟨k',m,q⟩:=cR h;rcases q with q | ⟨q,_⟩
   ·subst q;exact hcl2 y m
   ·cases q
 cab:=λy c h _=>by cases h
 hd:=I.ok.hd
 frames:=I.ok.frames
 stk:=.inl rfl
 exf:=λb hb=>⟨Nat.ne_of_lt (hlt b hb),λy c h=>(hf b hb).2.2.2.2.1 y c (hcl1 y c h)⟩
 bs:=I.bs
 bsz:=Nat.le_trans I.ok.bsz I.sz
 noex:=λb o e hb=>by
  rcases (hf b hb).2.2.2.1 with z | z
  ·exact I.ok.noex b o e z
  ·exact absurd (Nat.lt_of_lt_of_le (Heap.lt_size e) (Nat.le_trans I.ok.bsz z)) (Nat.lt_irrefl _)
 exfs:=λb hb hz=>(List.mem_cons.mp (I.stkSub b hz)).elim (hf b hb).2.1 (hf b hb).2.2.1
 funs:=I.stack
 frf:=I.stkFree
theorem yw {h₁:Heap} {tk:Nat} (I:Inv X pins σ H s) (hk:scope.kind=.function) (hcell:∀ y∈scope.names,y.2≠.cell)
  (hcl1:∀ y c,cl.lookup y=some c->X.env.cells.lookup y=some c) (hcl2:∀ y,(y,NameKind.free)∈scope.names->∃ c,cl.lookup y=some c) (hjs:fL X scope js)
  (hf:∀ b∈fp,jg X pins H b) (hlt:∀ b∈fp,b < s.heap.objs.size) {m:Str->Option Value} (hn:h₁.Ns s.heap.objs.size m) (hkeep:∀ b o,s.heap.get? b=some o->h₁.get? b=some o) :
  Inv (bC X scope cl (bQ X x js) s H fp) [] (none::ck js σ) H {s with heap:=h₁,toks:=tk} where
 ok:=comp_ok I hk hcell hcl1 hcl2 hf hlt
 os:=rfl
 bare:=I.bare
 base:=Un.kept hkeep
 loc:=by
  refine ⟨m,hn,λi y v h1 h2 h3=>?_⟩;cases i with
  | zero =>
   have z:(some none:Option (Option V))=some (some v):=h2;cases z
  | succ k =>
   have h1':(js.map λj=>X.N.getD j "")[k]?=some y:=h1;have h2':(js.map λj=>(σ[j]?).getD none)[k]?=some (some v):=h2;rw [List.getElem?_map] at h1' h2';cases hj:js[k]? with
   | none=>rw [hj] at h1';cases h1'
   | some j =>
    rw [hj] at h1' h2';have e1:X.N.getD j ""=y:=Option.some.inj h1';have e2:(σ[j]?).getD none=some v:=Option.some.inj h2';obtain ⟨y',n1,n2,n3,n4⟩:=hjs.all j (List.mem_of_getElem? hj);have e3:y'=y:=by rw [<- e1,List.getD_eq_getElem?_getD,n1];rfl
    subst e3
    have e4:σ[j]?=some (some v):=by
     cases q:σ[j]? with
     | none=>rw [q] at e2;cases e2
     | some a=>rw [q] at e2;exact congrArg some e2
    obtain ⟨m0,_,hl⟩:=I.loc;obtain ⟨u,r,l⟩:=hl j y' v n1 e4 (n2.elim (λz=>Or.inr (Or.inl z)) λz=>Or.inr (Or.inr z));refine ⟨u,r,.inr ⟨n4,?_⟩⟩;rcases l with ⟨l,_⟩ | ⟨_,c,hc,hi⟩
    ·exfalso;rcases n2 with z | z <;> (rw [z] at l;cases l)
    ·obtain ⟨c',hc'⟩:=hcl2 y' n3;have e5:=hcl1 y' c' hc';rw [hc] at e5;have e6:=Option.some.inj e5;subst e6;obtain ⟨o,ho,hd⟩:=hi;exact ⟨c,hc',o,hkeep c o ho,hd⟩
 cell:=λy c h=>by
  obtain ⟨v,o,ho,hd⟩:=I.cell y c (hcl1 y c h);exact ⟨v,o,hkeep c o ho,hd⟩
 free:=I.hok.fresh (Nat.le_refl _)
 freeC:=λy c h=>I.freeC y c (hcl1 y c h)
 pin:=λp hp=>absurd (show p∈([]:List (Addr×Obj)) from hp) (by simp)
 hok:=I.hok.kept hkeep
 len:=by
  show (none::ck js σ).length=(bQ X x js).length;simp [ck,bQ]
end
def PIf (X:Cx) (ifs:List Expr) (t:TT):Prop:=
 ∀(
  pins:List (Addr×Obj)) (s:Shared) (σ:St) (H:Hp) (Q:Bool->Hp->Prop),Inv X pins σ H s->t σ H Q->
  wpAny (model X.prog X.w) X.A (forIn ifs true λc r=>if r=true then do let ok <- isTrue c X.env (eval c X.env);pure (ForInStep.yield ok) else pure (ForInStep.yield r)) (TP X pins σ Q) X.xe s
def og:TT:=λ_ H Q=>Q true H
theorem gv {X:Cx}:PIf X [] og:=λ_ _ _ H _ I h=>wpAny_tests_nil ⟨H,I,h⟩
theorem pif_one {X:Cx} {c:Expr} {t:TT} (h:PT X c t):PIf X [c] t:=λpins s σ H Q I q=>wpAny_tests_one (h pins s σ H Q I q)
def jy (wi:TI) (tc:TT) (te:TE) (js:List Nat):TE:=λσ H Q=>wi σ H λJ H1=>∀ D,H1 D=none->
 ∃ W:Nat->Nat->Hp->Prop,(∃ m,W 0 m (upd H1 D (.lst [])))/\∀ i m H2,W i m H2->(J.stop i H2/\Q (.ref D) H2)\/
  (J.go i H2/\∀ v H3,J.yld i H2 v H3->tc (some v::ck js σ) H3 λb H4=>if b=true then te (some v::ck js σ) H4 λy H5 =>
   ∃ ys,H5 D=some (.lst ys)/\ys.length < sizeLine/\∃ m',m' < m/\W (i+1) m' (upd H5 D (.lst (ys++[y]))) else ∃ m',m' < m/\W (i+1) m' H4)
section
variable {X:Cx} {elt iter:Expr} {x:Str} {px pos:Pos} {ifs:List Expr} {scope:Scope} {cl:List (Str×Addr)} {wi:TI} {tc:TT} {te:TE} {js:List Nat}
theorem sN {use:Option (Value->Sem Unit)} {Qv:Value->Shared->Prop} {pins:List (Addr×Obj)} {s:Shared} {σ:St} {H:Hp} {Q:VK}
  (hc:X.calm=true) (hi:PI X (.Name x px) iter wi) (hk:scope.kind=.function) (hcell:∀ y∈scope.names,y.2≠.cell) (hx:(relabel scope X.env).names.lookup x=some .local)
  (hcl1:∀ y c,cl.lookup y=some c->X.env.cells.lookup y=some c) (hcl2:∀ y,(y,NameKind.free)∈scope.names->∃ c,cl.lookup y=some c) (hjs:fL X scope js) (hnd:(bQ X x js).Nodup)
  (ht:∀ s' H' fp,PIf (bC X scope cl (bQ X x js) s' H' fp) ifs tc) (he:∀ s' H' fp,PE (bC X scope cl (bQ X x js) s' H' fp) elt te)
  (I:Inv X pins σ H s) (h:jy wi tc te js σ H Q)
  (fin:∀(D C:Addr) (H':Hp) (s':Shared),Inv X pins σ H' s'->jg X pins H' C->(∃ m,s'.heap.Ns C m)->Q (.ref D) H'->compPost (model X.prog X.w) X.A X.xe use Qv (.ref D) C (.ok .next) s') :
  wpAny (model X.prog X.w) X.A (eval iter X.env) (λxv s₁=>wpAny (model X.prog X.w) X.A (pyIter xv) (λit s₂=>wpAny (model X.prog X.w) X.A (newList []) (λacc s₃ =>
   wpAny (model X.prog X.w) X.A (newFunctionEnv scope X.env.globals cl [] X.env.qual none .none (some X.env)) (λcenv s₄ =>
    codeAny (model X.prog X.w) X.A (.compStart (.ListComp elt [⟨.Name x px,iter,ifs,0⟩] scope pos) 0 it acc {cenv with scope:=relabel scope X.env})
     (compPost (model X.prog X.w) X.A X.xe use Qv acc cenv.locals) s₄) X.xe s₃) X.xe s₂) X.xe s₁) X.xe s:=by
 refine thn (hi pins s σ H _ I h) λv s1 h1=>thn h1 λitv s2 h2=>?_;obtain ⟨it,fp,tn,J,H2,e,I2,T,st2,f2,hW⟩:=h2;subst e;obtain ⟨W,⟨m0,w0⟩,turn⟩:=hW s2.heap.objs.size (I2.hok.fresh (Nat.le_refl _));have hlt2:∀ b∈fp,b < s2.heap.objs.size:=λb hb=>let ⟨_,e,_⟩:=T.obj _ _ st2 b hb;Heap.lt_size e
 have I3:Inv X pins σ (upd H2 s2.heap.objs.size (.lst [])) {s2 with heap:=s2.heap.push {cls:=.type "list",data:=.seq ([]:List Value).toArray} }:=
  I2.lnew (t':=s2.toks) (its:=[]) .nil (Nat.zero_le _)
 refine wpAny_newObj_type ?_;have k23:∀ b o,s2.heap.get? b=some o->(s2.heap.push {cls:=.type "list",data:=.seq ([]:List Value).toArray}).get? b=some o:=λb o e=>Heap.get?_push_of_some _ e;have sz3:(s2.heap.push {cls:=.type "list",data:=.seq ([]:List Value).toArray}).objs.size=s2.heap.objs.size+1:=Heap.size_push ..;generalize hs3:({s2 with heap:=s2.heap.push {cls:=.type "list",data:=.seq ([]:List Value).toArray} }:Shared)=s3 at I3
 have hs3':s3.heap=s2.heap.push {cls:=.type "list",data:=.seq ([]:List Value).toArray}:=by rw [<- hs3]
 have hlt3:∀ b∈fp,b < s3.heap.objs.size:=λb hb=>by rw [hs3',sz3];exact Nat.lt_succ_of_lt (hlt2 b hb)
 have f3:∀ b∈fp,jg X pins (upd H2 s2.heap.objs.size (.lst [])) b:=λb hb=>⟨by rw [aB (Nat.ne_of_lt (hlt2 b hb))];exact (f2 b hb).1,(f2 b hb).2⟩;refine wpAny_newFunctionEnv hcell (by intro y hy;simp at hy) (λh₁ hns hsb=>?_) hk;have k34:∀ b o,s3.heap.get? b=some o->h₁.get? b=some o:=λb o e=>hsb.extBut b o (Nat.ne_of_lt (Heap.lt_size e)) (Heap.get?_push_of_some _ e);have I4:=yw (x:=x) (js:=js) (tk:=s3.toks+([]:List (Str×Value)).length) I3 hk hcell hcl1 hcl2 hjs f3 hlt3 hns k34;have st4:tn 0 h₁:=T.keep 0 _ _ st2 λb hb o e=>k34 b o (by rw [hs3'];exact k23 b o e)
 have stat:∀{H':Hp},(∀ b∈fp,H' b=none)->∀ b∈fp,jg (bC X scope cl (bQ X x js) s3 (upd H2 s2.heap.objs.size (.lst [])) fp) [] H' b:=λhn b hb =>
  ⟨hn b hb,Nat.ne_of_lt (hlt3 b hb),λhz=>(List.mem_cons.mp (I3.stkSub b hz)).elim (f2 b hb).2.1 (f2 b hb).2.2.1,.inl hb,λy c q=>(f2 b hb).2.2.2.2.1 y c (hcl1 y c q),λp hp=>absurd (show p∈([]:List (Addr×Obj)) from hp) (by simp)⟩
 have back:∀{σ':St} {H':Hp} {s':Shared},Inv (bC X scope cl (bQ X x js) s3 (upd H2 s2.heap.objs.size (.lst [])) fp) [] σ' H' s'->Inv X pins σ H' s':=λ{σ' H' s'} J' =>
  I3.call' (ch:=fp) J'.os J'.base J'.hok J'.bare λb hb=>⟨(f2 b hb).2.2.2.1,(f2 b hb).2.1,(f2 b hb).2.2.2.2.1,(f2 b hb).2.2.2.2.2⟩
 have loop:codeAny (model X.prog X.w) X.A (.compLoop (.ListComp elt [⟨.Name x px,iter,ifs,0⟩] scope pos) 0 (.ref it) (.ref s2.heap.objs.size) (compEnvC scope cl s3.heap.objs.size X.env))
   (compPost (model X.prog X.w) X.A X.xe use Qv (.ref s2.heap.objs.size) s3.heap.objs.size) {s3 with heap:=h₁,toks:=s3.toks+([]:List (Str×Value)).length}:=by
  refine codeAny_compLoop_tests (λn s'=>∃ i o H',Inv (bC X scope cl (bQ X x js) s3 (upd H2 s2.heap.objs.size (.lst [])) fp) [] (o::ck js σ) H' s'/\tn i s'.heap/\(∀ b∈fp,H' b=none)/\W i n H') ?_ m0
   ⟨0,none,_,I4,st4,λb hb=>(f3 b hb).1,w0⟩
  rintro n s5 ⟨i,o,H5,I5,st5,fr5,w5⟩
  rcases turn i n H5 w5 with ⟨stop,q⟩ | ⟨go,step⟩
  ·refine thn (T.done (bC X scope cl (bQ X x js) s3 (upd H2 s2.heap.objs.size (.lst [])) fp) rfl rfl rfl hc i [] s5 _ H5 _ I5 (stat fr5) st5 stop) λr s6 zz=>?_;obtain ⟨hr,I6⟩:=zz;subst hr;exact fin _ _ H5 s6 (back I6) (I3.fpOk (Nat.le_refl _) I6.free) (let ⟨m,hm,_⟩:=I6.loc;⟨m,hm⟩) q
  ·refine thn (T.item (bC X scope cl (bQ X x js) s3 (upd H2 s2.heap.objs.size (.lst [])) fp) rfl rfl rfl hc i [] s5 _ H5 _ I5 (stat fr5) st5 go) λr s6 zz=>?_;obtain ⟨u,hr,h6⟩:=zz;subst hr;show wpAny _ _ (assign (.Name x px) _ u) _ _ s6;intro Γ p hΓ;have h6':=h6 Γ p hΓ;obtain ⟨v,H6,I6,r6,y6,st6,fr6⟩:=h6';refine (?_:wpAny _ _ _ _ _ s6) Γ p hΓ;have I6':=I6.pinned (stat fr6) (T.obj _ _ st6);have hg:PG (bC X scope cl (bQ X x js) s3 (upd H2 s2.heap.objs.size (.lst [])) fp) (.Name x px) (ip 0):=aV (i:=0) hnd rfl (Or.inl hx) (.inr hx);refine wpAny_mono (hg _ s6 _ H6 v u (λσ' H'=>σ'=some v::ck js σ/\H'=H6) I6' r6 ⟨rfl,rfl⟩) (λ_ s7 q7=>?_) (λ_ _ f=>False.elim f);obtain ⟨σ7,H7,I7,e7,e8⟩:=q7;subst e7 e8;refine wpAny_mono (ht s3 _ fp _ s7 _ H7 _ I7 (step v H7 y6)) (λok s8 q8=>?_) (λ_ _ f=>False.elim f);obtain ⟨H8,I8,q8⟩:=q8
   have again:∀{s9:Shared} {σ9:St} {H9:Hp} {m':Nat},Inv (bC X scope cl (bQ X x js) s3 (upd H2 s2.heap.objs.size (.lst [])) fp) ([]++ql fp s6.heap) (some v::ck js σ) H9 s9->m' < n->W (i+1) m' H9->
     ∃ m,m < n/\∃ i o H',Inv (bC X scope cl (bQ X x js) s3 (upd H2 s2.heap.objs.size (.lst [])) fp) [] (o::ck js σ) H' s9/\tn i s9.heap/\(∀ b∈fp,H' b=none)/\W i m H':=λ{s9 σ9 H9 m'} I9 hm w9=>by
    refine ⟨m',hm,i+1,some v,H9,I9.unpinned,T.keep _ _ _ st6 λb hb o e=>(I9.pin (b,o) (List.mem_append_right _ (List.mem_append_right _ (fW hb e)))).1,λb hb=>?_,w9⟩;obtain ⟨o,e,d⟩:=T.obj _ _ st6 b hb;exact (I9.pin (b,o) (List.mem_append_right _ (List.mem_append_right _ (fW hb e)))).2.1
   cases ok with
   | false =>
    rw [if_neg Bool.false_ne_true] at q8 ⊢;obtain ⟨m',hm,w9⟩:=q8;exact again (σ9:=[]) I8 hm w9
   | true =>
    rw [if_pos rfl] at q8 ⊢;refine wpAny_mono (he s3 _ fp _ s8 _ H8 _ I8 q8) (λy s9 q9=>?_) (λ_ _ f=>False.elim f);obtain ⟨yv,H9,I9,r9,ys,hD,hl,m',hm,w9⟩:=q9;refine wpAny_mono (bA (X:=bC X scope cl (bQ X x js) s3 (upd H2 s2.heap.objs.size (.lst [])) fp) _ s9 _ H9 (.ref s2.heap.objs.size) [yv] (.ref s2.heap.objs.size) [y] (λ_ H'=>H'=upd H9 s2.heap.objs.size (.lst (ys++[yv]))) I9 rfl (.cons r9 .nil) ⟨_,ys,yv,rfl,rfl,hD,hl,rfl⟩) (λ_ s10 q10=>?_) (λ_ _ f=>False.elim f);obtain ⟨_,H10,I10,_,e10⟩:=q10;subst e10;exact again (σ9:=[]) I10 hm w9
 exact codeAny_compStart_list loop (T.self _ 0 _ _ _ st4 loop)
theorem pe_comp (hc:X.calm=true) (hi:PI X (.Name x px) iter wi) (hk:scope.kind=.function) (hcell:∀ y∈scope.names,y.2≠.cell) (hnames:∀ y∈scope.names,y.2=.local->scope.names.lookup y.1=some .local) (hx:(relabel scope X.env).names.lookup x=some .local)
  (hclos:closureFor scope X.env=pure cl) (hcl1:∀ y c,cl.lookup y=some c->X.env.cells.lookup y=some c) (hcl2:∀ y,(y,NameKind.free)∈scope.names->∃ c,cl.lookup y=some c) (hjs:fL X scope js) (hnd:(bQ X x js).Nodup)
  (ht:∀ s' H' fp,PIf (bC X scope cl (bQ X x js) s' H' fp) ifs tc) (he:∀ s' H' fp,PE (bC X scope cl (bQ X x js) s' H' fp) elt te)
  (hs:∀ x,foldedSetIterable iter X.env x=pure x:=by intro _;rfl):PE X (.ListComp elt [⟨.Name x px,iter,ifs,0⟩] scope pos) (jy wi tc te js):=by
 intro pins s σ H Q I h;rw [eval_ListComp];refine wpAny_comprehension_free (use:=none) rfl hs hclos hk hnames (sN hc hi hk hcell hx hcl1 hcl2 hjs hnd ht he I h λD C H' s' I' fC hC q=>?_);obtain ⟨m,hm⟩:=hC;refine ⟨m,hm,λh' sb=>?_⟩;obtain ⟨f0,f1,f2,f3,f4,f5⟩:=fC;exact ⟨.ref D,H',I'.turned (t':=s'.toks) (λb o hb e=>(sb.2 b hb).trans e) f0 f1 f3 f4 f5,rfl,q⟩
def rM (i:Nat) (te:TE):TS:=λD σ H=>te σ H λv H1=>D.nx (σ.set i (some v)) H1
theorem ps_setC {y:Str} {i:Nat} {py spos:Pos} (hN:X.N.Nodup) (hy:X.N[i]?=some y) (hyl:Loc X.env.scope y) (hyf:X.fn y=true\/X.env.scope.names.lookup y=some .local)
  (hsw:swapsWith (.ListComp elt [⟨.Name x px,iter,ifs,0⟩] scope pos) (some (.Name y py)) spos.line X.env=pure true)
  (hc:X.calm=true) (hi:PI X (.Name x px) iter wi) (hk:scope.kind=.function) (hcell:∀ y∈scope.names,y.2≠.cell) (hnames:∀ y∈scope.names,y.2=.local->scope.names.lookup y.1=some .local) (hx:(relabel scope X.env).names.lookup x=some .local)
  (hclos:closureFor scope X.env=pure cl) (hcl1:∀ y c,cl.lookup y=some c->X.env.cells.lookup y=some c) (hcl2:∀ y,(y,NameKind.free)∈scope.names->∃ c,cl.lookup y=some c) (hjs:fL X scope js) (hnd:(bQ X x js).Nodup)
  (ht:∀ s' H' fp,PIf (bC X scope cl (bQ X x js) s' H' fp) ifs tc) (he:∀ s' H' fp,PE (bC X scope cl (bQ X x js) s' H' fp) elt te)
  (hs:∀ x,foldedSetIterable iter X.env x=pure x:=by intro _;rfl) :
  PS X (.Assign [.Name y py] (.ListComp elt [⟨.Name x px,iter,ifs,0⟩] scope pos) spos) (rM i (jy wi tc te js)):=by
 intro pins s σ H D I h;rw [exec_Assign_Name_used _ _ _ _ hsw];refine wpAny_bind (wpAny_standAt (wpAny_bind ?_));show wpAny _ _ (do let _ <- comprehension (.ListComp elt [⟨.Name x px,iter,ifs,0⟩] scope pos) scope X.env _ (newList []) false (eval iter X.env) (some (assign (.Name y py) X.env))) _ _ s
 refine wpAny_bind (wpAny_mono (wpAny_comprehension_free (use:=some (assign (.Name y py) X.env)) (Q:=λ_ s'=>SP X pins D .next s') rfl hs hclos hk hnames
  (sN hc hi hk hcell hx hcl1 hcl2 hjs hnd ht he I h λD' C H' s' I' fC hC q=>?_)) (λ_ s' hq=>wpAny_pure (wpAny_pure hq)) λ_ _ e=>e)
 obtain ⟨m,o,es,ep,ho,hd,hr⟩:=hC;obtain ⟨f0,f1,f2,f3,f4,f5⟩:=fC
 have Ip:Inv X (pins++[(C,o)]) σ H' s':=I'.pins_of λp hp=>(List.mem_append.mp hp).elim (λz=>I'.pin p (List.mem_append_right _ z)) λz=>by
  have e:p=(C,o):=by simpa using z
  subst e;exact ⟨ho,f0,f1,f2,λv z=>by rw [hd] at z;cases z⟩
 have hg:PG X (.Name y py) (ip i):=aV hN hy hyl hyf;refine thn (hg _ s' σ H' (.ref D') (.ref D') (λσ' H''=>σ'=σ.set i (some (.ref D'))/\H''=H') Ip rfl ⟨rfl,rfl⟩) λ_ s'' q''=>?_;obtain ⟨σ'',H'',I'',e1,e2⟩:=q'';subst e1 e2;have hp:=(I''.pin (C,o) (by simp)).1;refine ⟨m,⟨o,es,ep,hp,hd,hr⟩,λh' sb=>?_⟩;exact ⟨_,_,(I''.unpinned).turned (t':=s''.toks) (λb o hb e=>(sb.2 b hb).trans e) f0 f1 f3 f4 f5,q⟩
end
structure aF (K:W.Frag) (mg:Str->Option Value) (x:Str) (st:Stmt):Prop where
 ex:∃(f:Addr) (fd:FuncData),Fun K x x st f fd/\mg x=some (.ref f)
theorem aS {K:W.Frag} {h:Heap} {mg:Str->Option Value} {x:Str} {st:Stmt} {f:Addr} {oc kV doc pm cdv ct:Value} {od an:Option Addr} {osl:Array (Option Value)} (X:K.In h) (G:h.Ns mainGlobals mg)
  (a:PySem.W.nsIn K mainGlobals x=some (some (.ref f)))
  (l:K.lookup f=some ⟨oc,od,.func (PySem.W.fnOf x x (fG st) (bP st) (ak st) .none kV doc pm an cdv ct),osl⟩)
  (c:PySem.W.codeIn K cdv x=true) (k:PySem.W.keepIn K (.ref f)=true):aF K mg x st:=
 ⟨_,_,Ex l c k,PySem.W.mg_of X G a⟩
structure Def (P:Program) (w:World) (K:W.Frag) (mg:Str->Option Value) (base:Heap) (n:Nat) (x:Str) (ps:List Str) (sp:Sp):Prop where
 ex:∃(f:Addr) (fd:FuncData),mP P w K mg base CX0 n f fd ps sp/\Binds K fd ps []/\PySem.W.keepIn K (.ref f)=true/\mg x=some (.ref f)
variable {P:Program} {w:World} {K:W.Frag} {mg:Str->Option Value} {base:Heap}
theorem aW {x:Str} {st:Stmt} {N ps:List Str} {k:Nat} {sp:Sp} (T:aF K mg x st) (S:aE N ps (ak st))
  (bd:∀(kV doc pm:Value) (an:Option Addr) (cdv ct:Value) (us:List Value),us.length=ps.length->bindArgs (PySem.W.fnOf x x (fG st) (bP st) (ak st) .none kV doc pm an cdv ct) ⟨us,[]⟩=pure (ps.zip us))
  (len:∀ vs H Q E,sp vs H Q E->vs.length=ps.length)
  (body:∀(f:Addr) (cdv:Value) (A:Around) (outer:List Env) (s:Shared) (H:Hp) (vs:List V) (Q:VK) (E:XK),dj k (A.deeper (envOfC x (ak st) s.heap.objs.size f cdv))->sp vs H Q E->
   ∃ t,PSs (eO CX0 P w K mg base N x (ak st) f cdv A outer s H E).nox (bP st) t/\t {nx:=λ_ H'=>Q .non H',rt:=Q} (start N vs) H) :
  Def P w K mg base (k+1) x ps sp:=by
 obtain ⟨f,fd,F,m⟩:=T.ex;exact ⟨f,fd,F.ok S len (body f),F.binds bd,F.kp,m⟩
section
variable {X:Cx} {n:Nat} {x:Str} {ps:List Str} {sp:Sp} {e a b:Expr} {es:List Expr} {t:TA} {ta tb:TE} {p pos:Pos}
theorem aI (D:Def X.prog X.w X.K X.mg X.base n x ps sp) (hr:dj n X.A) (hg:Gl X x) (ha:PA X (e::es) t) (hdb:(x == ("__debug__":Str))=false:=by decide)
  (he:starEach (e::es) X.env=(false,eval e X.env)::starEach es X.env:=by rfl) (hpl:(backTo pos (starEach es X.env)).any (·.1)=false:=by rfl) :
  PE X (.Call (.Name x p) (e::es) [] pos) (pM sp [] E0 t):=by
 obtain ⟨f,fd,F,b,kp,m⟩:=D.ex;exact tV F hr hg m kp b .nil vS ha hdb he hpl
theorem bH:OpR X (binaryOp .Mult) (rI IntMulOk λi j=>.int (i*j)):=opI λ_ _ _ _ _ _ _ hc q=>PyProof.Rows.mul_int q hc
def CDivK (_ j:Int):Prop:=j≠0/\j.natAbs.log2 < 9000
theorem iZ:OpR X (binaryOp .FloorDiv) (rI CDivK λi j=>.int (i.fdiv j)):=opI λ_ _ _ _ _ _ _ hc q=>PyProof.Rows.floordiv_int hc.1 q (.inl (PyProof.noPylong_of_log2 hc.2))
theorem qV:gR X (.builtin "isinstance") (λxs H Q=>∃(y:V) (c:V) (cv t:Value) (k:Bool),xs=[y,c]/\(∀ u,RelV c u->u=cv)/\kg X.K H y t/\PySem.W.kitOne X.K t cv=some k/\Q (.bl k) H):=by
 intro pins s σ H xs us Q I r h;obtain ⟨y,c,cv,t,k,rfl,hc,ty,kt,q⟩:=h;obtain ⟨u,w',rfl,r1,r2⟩:=vals2 r;have e:=hc _ r2;subst e;exact Br I r1 ty kt λtk=>⟨.bl k,H,I.tok tk,rfl,q⟩
end
open PySem.Calls PySem.W PySem.Builtin.Getset_descriptor
structure lL (K:Frag) (D:Addr):Prop where
 ga:findIn K (.ref D) "__getattribute__"=some (some (.builtin "BaseException.__getattribute__"))
 gt:findIn K (.ref D) "__getattr__"=some none
 cl:∃ cd,clsIn K D=some cd
 ha:findIn K (.ref D) "__class__"=some (some (.builtin "object.__class__"))
 hn:specialIn K (.builtin "object.__class__") "__get__"=some (some (.builtin "getset_descriptor.__get__"))
 tk:takesIn K (.builtin "object.__class__")=some true
 hb:mroIn K D (.type "BaseException")=some true
 hm:mroIn K D (.type "object")=some true
section
variable {prog:Program} {w:World} {A:Around} {E:Value->Shared->Prop} {s:Shared} {K:Frag} {x D:Addr}
def jD (x D:Addr) (h:Heap):Prop:=∃ ox,h.get? x=some ox/\ox.cls=.ref D
theorem jD.type {M:Model} {h:Heap} (I:jD x D h):Looks M h (typeOf (.ref x)) (.ref D):=by
 obtain ⟨ox,a,b⟩:=I;exact b ▸ (Looks.ld a).andThen .now
theorem EF {M:Model} {h:Heap} (c:lL K D) (X:K.In h) :
  Looks M h (Builtin.ObjectAttr.find (.ref x) (.ref D) "__class__") (.bind (.builtin "getset_descriptor.__get__") (.builtin "object.__class__")):=by
 have l1:=looks_findIn (M:=M) X c.ha;have l2:=looks_specialIn (M:=M) X c.hn;have l3:=looks_takesIn (M:=M) X c.tk;have l4:Looks M h (Builtin.ObjectAttr.dataDescriptor? (some (.builtin "object.__class__")) (some (.builtin "getset_descriptor.__get__"))) (some (.builtin "getset_descriptor.__get__",.builtin "object.__class__")):=l3.andThen .now;exact l1.andThen (Looks.andThen (show Looks M h (Builtin.ObjectAttr.getOf (some (.builtin "object.__class__"))) _ from l2) (l4.andThen (Looks.tag .now)))
theorem exc_get {R:Result->Shared->Prop} {tp:Value} (c:lL K D) (X:K.In s.heap) (I:jD x D s.heap) (h:R (.ok (.ret (.ref D))) s) :
  codeAny (model prog w) A (.call (.builtin "getset_descriptor.__get__") ⟨[.builtin "object.__class__",.ref x,tp],[]⟩) R s:=by
 obtain ⟨hh,g,dr,t,os⟩:=s;have l0:=I.type (M:=model prog w);have l1:=looks_mroIn (M:=model prog w) X c.hm;refine codeAny_call_builtin (KF.slot_gs).plain KF.entry_gs ?_;refine (KF.slot_gs).check _ _ _ _ _ _ _ _ KF.type_class (KF.args_gs _ _ _) ?_;unfold Builtin.«getset_descriptor.__get__» descrGet;rw [dga_obj];refine wpAny_bind (wpAny_pure ?_);unfold descrGetter descrCheckInstance descrNameAndClass isInstance;simp only [KF.owner_class]
 repeat lk
 refine ⟨Code.quiet_builtin _ (by decide+kernel),codeAny_builtin KF.entry_class ?_⟩;unfold Builtin.«object.__class__» shownTypeOf
 repeat lk
 exact h
theorem Bx {Q:Option Value->Shared->Prop} (c:lL K D) (X:K.In s.heap) (I:jD x D s.heap) (h:Q (some (.ref D)) {s with toks:=s.toks+1}) :
  wpAny (model prog w) A (getAttr? (.ref x) "__class__") Q E s:=by
 obtain ⟨hh,g,d,t,os⟩:=s;have L0:=I.type (M:=model prog w);have L1:=looks_findIn (M:=model prog w) X c.ga;have L2:=looks_findIn (M:=model prog w) X c.gt;have LB:=looks_mroIn (M:=model prog w) X c.hb;have L3:=EF (M:=model prog w) (x:=x) c X;unfold getAttr? getAttrBy? getAttrBy;refine wpAny_bind (wpAny_mkText (wpAny_bind (wpAny_attempt (wpAny_holding (wpAny_bind (L0.at (wpAny_bind (L1.at ?_))))))));show wpAny _ _ (getAttrByItsOwn (.ref x) _ (.ref D) (.builtin "BaseException.__getattribute__") false false) _ _ _;unfold getAttrByItsOwn;show wpAny _ _ (typeLookup (.ref D) "__getattr__" >>= _) _ _ _;refine wpAny_bind (L2.at ?_);refine wpAny_bind (wpAny_attempt (wpAny_holding ?_));show wpAny _ _ (boundAndCalled (.builtin "BaseException.__getattribute__") (.ref x) _) _ _ _;unfold boundAndCalled;have FB:=(F.attrBase_ValueError).ga;refine wpAny_bind (wpAny_of_eq (FB.bind (.ref x)) ?_);show wpAny _ _ (call (.builtin "BaseException.__getattribute__") [.ref x,_]) _ _ _;refine wpAny_call (codeAny_call_builtin FB.plain F.entry_bexc_ga ?_);have kd:builtinKind "BaseException.__getattribute__"=some .slot:=by decide+kernel
 have sp:splitId "BaseException.__getattribute__"=some ("BaseException","__getattribute__"):=by decide+kernel
 have ar:=F.args_bexc_ga (.ref x) (.str "__class__" t);simp only [checkBuiltinCall,kd,sp];unfold isInstance;refine wpAny_bind (wpAny_bind (L0.at (LB.at ?_)));rw [if_neg (by decide)];refine wpAny_of_eq ar ?_;unfold Builtin.«object.__getattribute__»;refine wpAny_bind (wpAny_pure (wpAny_bind (wpAny_pure (wpAny_bind (L0.at (wpAny_bind (L3.at ?_)))))));unfold Builtin.ObjectAttr.bindTo;refine wpAny_bind (wpAny_holding (wpAny_call (exc_get (s:=⟨hh,g,d,t+1,os⟩) c X I ?_)));refine wpAny_pure ?_;exact handed_on rfl (wpAny_pure h)
theorem Ei (c:lL K D):KitX K (.ref x) (.ref D) (jD x D) where
 ty:=λ_ _ _ I=>I.type
 it:=λ_ _ X _=>by
  obtain ⟨cd,hcd⟩:=c.cl;unfold clsIn at hcd;split at hcd
  ·rename_i c' d' cd' sl' ho;intro A' Q' E' s' k q;unfold isType loadHead;exact wpAny_bind (wpAny_loadPart (k _ _ (X _ _ ho)) (wpAny_pure q))
  ·cases hcd
 ne:=λh tp dd its n sl X htp=>by
  obtain ⟨cd,hcd⟩:=c.cl;refine Bool.eq_false_iff.mpr λq=>?_;have e:D=tp:=Value.ref.inj (beq_iff_eq.mp q);subst e;unfold clsIn at hcd;split at hcd
  ·rename_i c' d' cd' sl' ho;have z:=(X _ _ ho).symm.trans htp;cases z
  ·cases hcd
 ca:=λX I k=>Bx c X I k
end
section
variable {P:Program} {w:World} {H:Hp} {h:Heap} {a:Addr} {o:HO}
theorem cq.there (x:cq P w H h a o):∃ ob,h.get? a=some ob:=by
 cases o with
 | lst xs=>obtain ⟨_,_,_,_,e⟩:=x;exact ⟨_,e⟩
 | tup xs=>obtain ⟨_,_,_,⟨_,e,_⟩⟩:=x;exact ⟨_,e⟩
 | dK kvs=>obtain ⟨_,_,_,_,o,_,_,e,_⟩:=x;exact ⟨_,e⟩
 | dT kvs=>obtain ⟨_,_,_,_,o,_,_,e,_⟩:=x;exact ⟨_,e⟩
 | set S n=>obtain ⟨o,_,_,_,e,_⟩:=x;exact ⟨_,e⟩
 | ins C dx fs=>obtain ⟨_,_,_,e,_⟩:=x;exact ⟨_,e⟩
 | own y=>exact x
 | xd fs=>obtain ⟨_,⟨_,_,_,e,_⟩,_⟩:=x;exact ⟨_,e⟩
 | rng lo hi=>obtain ⟨_,_,_,e⟩:=x;exact ⟨_,e⟩
 | frz ob u=>obtain ⟨e,_⟩:=x;exact ⟨_,e⟩
 | tbl ps=>exact ⟨_,(show h.get? a=some _ from x)⟩
 | met f y=>exact ⟨_,(show h.get? a=some _ from x)⟩
 | ext φ=>obtain ⟨_,e,_⟩:=x;exact e
end
def Flies (P:Program) (w:World) (outer:List Env) (H:Hp) (s:Shared) (ea:Addr) (C:Value) (H':Hp) (s':Shared):Prop:=∃(t:Addr) (B:Heap),
 s'.os=s.os/\AllBare s'.gens/\Un (frs outer) [] H H' s.heap s'.heap/\HOk P w H' s'.heap/\Heap.FlyingW B outer ea C (.ref t) s'.heap/\H' ea=none/\s.heap.get? ea=none/\
 ∀ b o,s'.heap.get? b=some o->b ∉ frs outer->((∃ u,H' b=some u)\/∃ o',s.heap.get? b=some o')->B.get? b=some o
def CXr (P:Program) (w:World):CXT:=λouter H s E e s'=>∃(ea:Addr) (C:Value) (H':Hp),e=.ref ea/\Flies P w outer H s ea C H' s'/\E C none H'
theorem passr {P:Program} {w:World} {X:Cx}:Passes (CXr P w) X E0:=λ_ _ _ _ _ _ _ ⟨_,_,_,_,_,h⟩=>h.elim
section
variable {P:Program} {w:World} {K:W.Frag} {mg:Str->Option Value} {base:Heap} {N:List Str} {qual:Str} {scope:Scope} {f:Addr} {cd:Value} {A:Around} {outer:List Env} {s:Shared} {H:Hp} {E:XK}
theorem tL {pins:List (Addr×Obj)} {σ:St} {H1:Hp} {s₂:Shared} {h':Heap} {ea C:Addr} {vs:List Value} (I:Inv (eO (CXr P w) P w K mg base N qual scope f cd A outer s H E) pins σ H1 s₂)
  (hx:Heap.MadeExcOf s₂.heap h' ea (.ref C) vs) (q:E (.ref C) none H1):(eO (CXr P w) P w K mg base N qual scope f cd A outer s H E).xe (.ref ea) {s₂ with heap:=h' }:=by
 have hin:∀ en∈(envOfC qual scope s.heap.objs.size f cd::outer),∀ b,en.frame=some b->b∈frs (envOfC qual scope s.heap.objs.size f cd::outer):=λen he b hb=>List.mem_filterMap.mpr ⟨en,he,hb⟩;show wpAny (model P w) (A.deeper (envOfC qual scope s.heap.objs.size f cd)) (leaving (envOfC qual scope s.heap.objs.size f cd) (.ref ea)) _ _ _;refine wpAny_leaves_madeW (base:=PySem.W.hideAll s₂.heap (frs (envOfC qual scope s.heap.objs.size f cd::outer))) (h:=s₂.heap) I.ok.frames rfl (λb o z=>PySem.W.of_hideAll _ z) (PySem.W.funFrames_hide I.stack hin) hx λh'' t fl _ _ up=>?_;have keepB:∀ b o,s₂.heap.get? b=some o->b ∉ frs (envOfC qual scope s.heap.objs.size f cd::outer)->h''.get? b=some o:=λb o e n=>fl.1 b o (PySem.W.hideAll_get _ e n)
 have notF:∀ b o,s.heap.get? b=some o->b ∉ frs outer->b ∉ frs (envOfC qual scope s.heap.objs.size f cd::outer):=λb o e n z =>
  (List.mem_cons.mp (I.stkSub b z)).elim (λz=>absurd (Nat.lt_of_lt_of_le (Heap.lt_size e) I.ok.above) (by rw [z];exact Nat.lt_irrefl _)) n
 have trk:∀ b u,H1 b=some u->b ∉ frs (envOfC qual scope s.heap.objs.size f cd::outer):=λb u e z=>by
  have:=I.stkFree b z;rw [e] at this;cases this
 have ntrk:∀ b,s₂.heap.get? b=none->H1 b=none:=λb e=>by
  cases z:H1 b with
  | none=>rfl
  | some u=>obtain ⟨ob,e2⟩:=(I.hok b u z).there;rw [e] at e2;cases e2
 have hthere:∀ b o,s.heap.get? b=some o->∃ o',s₂.heap.get? b=some o':=λb o e=>I.base.there b o e (λz=>nomatch z);refine ⟨ea,.ref C,H1,rfl,⟨t,_,I.os,I.bare,⟨?_,?_,λb o e n z=>I.base.free b o e n z,?_,I.base.tups,I.base.frzs,I.base.tbls⟩,?_,fl,ntrk _ hx.new,?_,?_⟩,q⟩
 ·exact λb o e n hb z=>keepB b o (I.base.keep b o e n hb z) (notF b o e hb)
 ·intro b o e n hb z;obtain ⟨sl,e1⟩:=I.base.slot b o e n hb z;obtain ⟨_,o',e2,nf⟩:=I.ok.funs.mem hb;have e3:some o'=some o:=e2.symm.trans e;cases e3
  obtain ⟨sl',e4⟩:=up b _ (hx.keeps b _ e1) nf;exact ⟨sl',e4⟩
 ·intro b o e z
  by_cases hb:b∈frs outer
  ·obtain ⟨sl,e1⟩:=I.base.slot b o e (I.ok.frf b hb) hb z;obtain ⟨_,o',e2,nf⟩:=I.ok.funs.mem hb;have e3:some o'=some o:=e2.symm.trans e;cases e3
   obtain ⟨sl',e4⟩:=up b _ (hx.keeps b _ e1) nf;exact ⟨_,e4⟩
  ·obtain ⟨o',e1⟩:=hthere b o e;exact ⟨o',keepB b o' e1 (notF b o e hb)⟩
 ·intro b u e;exact (I.hok b u e).stay (λc v hc e'=>keepB c v e' (hc.elim (λz=>by subst z;exact trk _ _ e) λz=>trk _ _ z)) (λ_ z=>z) λ_ _ z=>z
 ·cases z:s.heap.get? ea with
  | none=>rfl
  | some o=>obtain ⟨o',e⟩:=hthere ea o z;rw [hx.new] at e;cases e
 ·intro b o e n hb
  have key:∃ o2,s₂.heap.get? b=some o2/\b ∉ frs (envOfC qual scope s.heap.objs.size f cd::outer):=by
   rcases hb with ⟨u,hu⟩ | ⟨o',ho⟩
   ·obtain ⟨ob,e2⟩:=(I.hok b u hu).there;exact ⟨ob,e2,trk b u hu⟩
   ·obtain ⟨o2,e2⟩:=hthere b o' ho;exact ⟨o2,e2,notF b o' ho n⟩
  obtain ⟨o2,e2,n2⟩:=key;have e3:=keepB b o2 e2 n2;rw [e] at e3;cases e3
  exact PySem.W.hideAll_get _ e2 n2
end
abbrev bmV:List Value:=[.type "ValueError",.type "Exception",.type "BaseException",.type "object"]
theorem exc_obj {K:Frag} {h:Heap} {C:Addr} {bmB:List Value} {newId:String} (X:K.In h) (q:excIn K C bmB newId=true) :
  ∃ bm N nm qn bs hd sn sub ab col dd k0 k1 k2 k3 k5 mN,h.get? C=some (excClassObj nm qn C N bs bm hd sn sub ab col dd k0 k1 k2 k3 k5 newId)/\h.Ns N mN/\mN "__init__"=none/\OwnTail h bmB bm:=by
 unfold excIn at q;split at q
 ·rename_i d0 c0 sl0 lk;split at q
  ·rename_i C1 bm1 j0 j1 j2 j3 n1 j5 em es;simp only [Bool.not_eq_true',beq_iff_eq,Bool.and_eq_true] at q;obtain ⟨⟨⟨⟨⟨e1,e2⟩,nodel⟩,tl⟩,ok⟩,ni⟩:=q;subst e1 e2;obtain ⟨nm1,bs1,mro1,ns1,qn1,hd1,sn1,sub1,ab1,col1,del1⟩:=c0;dsimp only at em nodel ok ni;subst em nodel
   have esl:sl0=#[j0,j1,j2,j3,some (.builtin n1),j5]:=by
    obtain ⟨l0⟩:=sl0;simp only at es;rw [es]
   subst esl;exact ⟨_,_,_,_,_,_,_,_,_,_,_,_,_,_,_,_,_,X _ _ lk,.of_isNs (isNs_of_in X ok),nsMap_none_of_in X ok ni,tail_of_in X tl⟩
  ·cases q
 ·cases q
def tRaise (C:Addr) (E:XK) (ta:TA):TS:=λ_ σ H=>ta σ H λvs H1=>vs.length<=sizeLine/\E (.ref C) none H1
section
variable {P:Program} {w:World} {K:Frag} {mg:Str->Option Value} {base:Heap} {N:List Str} {qual:Str} {scope:Scope} {f:Addr} {cd:Value} {A:Around} {outer:List Env} {s:Shared} {H:Hp} {E:XK}
theorem vO {x:Str} {C:Addr} {e₀:Expr} {es:List Expr} {ta:TA} {np cpos pos:Pos} (hg:Gl (eO (CXr P w) P w K mg base N qual scope f cd A outer s H E) x) (hm:mg x=some (.ref C)) (q:excIn K C bmV "ValueError.__new__"=true)
  (ha:PA (eO (CXr P w) P w K mg base N qual scope f cd A outer s H E) (e₀::es) ta) (hdb:(x == ("__debug__":Str))=false:=by decide)
  (he:starEach (e₀::es) (envOfC qual scope s.heap.objs.size f cd)=(false,eval e₀ (envOfC qual scope s.heap.objs.size f cd))::starEach es (envOfC qual scope s.heap.objs.size f cd):=by rfl)
  (hpl:(backTo cpos (starEach (e₀::es) (envOfC qual scope s.heap.objs.size f cd))).any (·.1)=false:=by rfl) :
  PS (eO (CXr P w) P w K mg base N qual scope f cd A outer s H E) (.Raise (some (.Call (.Name x np) (e₀::es) [] cpos)) none pos) (tRaise C E ta):=by
 intro pins s₁ σ H1 D I h;obtain ⟨bm,N1,nm,qn,bs,hd,sn,sub,ab,col,dd,k0,k1,k2,k3,k5,mN,gC,nN,ni,T⟩:=exc_obj I.mod.kin q
 refine wpAny_Raise_call_subT (C:=C) (nm:=nm) (q:=qn) (N:=N1) (bs:=bs) (bm:=bm) (hdct:=hd) (sn:=sn) (sub:=sub) (ab:=ab) (col:=col) (dd:=dd) (k0:=k0) (k1:=k1) (k2:=k2) (k3:=k3) (k5:=k5) F.excBase_ValueError (mN:=mN)
  (T.hasType F.excBase_ValueError.hasBase) (I.ok.hd rfl) hpl ni (gx I hg hm ⟨rfl,?_⟩ hdb)
 have hA:=ha cpos pins s₁ σ H1 _ I h;have he':starEach (e₀::es) (eO (CXr P w) P w K mg base N qual scope f cd A outer s H E).env=(false,eval e₀ (eO (CXr P w) P w K mg base N qual scope f cd A outer s H E).env)::starEach es (eO (CXr P w) P w K mg base N qual scope f cd A outer s H E).env:=he;rw [he'] at hA ⊢;refine Calls.evalArgs_plain (thn hA λus s₂ z=>?_);obtain ⟨vs,H2,I2,r,z,q2⟩:=z;exact ⟨rfl,by rw [<- r.length];exact z,I2.bk _ _ gC,nN.keeps I2.bk,T.keeps I2.bk,λh' e hx=>tL I2 hx q2⟩
end
structure cy (P:Program) (w:World) (K:Frag) (mg:Str->Option Value) (base:Heap) (n:Nat) (x:Str) (ps:List Str) (sp:Sp):Prop where
 ex:∃(f:Addr) (fd:FuncData),mP P w K mg base (CXr P w) n f fd ps sp/\Binds K fd ps []/\keepIn K (.ref f)=true/\mg x=some (.ref f)
theorem dG {P:Program} {w:World} {K:Frag} {mg:Str->Option Value} {base:Heap} {x:Str} {st:Stmt} {N ps:List Str} {k:Nat} {sp:Sp} (T:aF K mg x st) (S:aE N ps (ak st))
  (bd:∀(kV doc pm:Value) (an:Option Addr) (cdv ct:Value) (us:List Value),us.length=ps.length->bindArgs (fnOf x x (fG st) (bP st) (ak st) .none kV doc pm an cdv ct) ⟨us,[]⟩=pure (ps.zip us))
  (len:∀ vs H Q E,sp vs H Q E->vs.length=ps.length)
  (body:∀(f:Addr) (cdv:Value) (A:Around) (outer:List Env) (s:Shared) (H:Hp) (vs:List V) (Q:VK) (E:XK),dj k (A.deeper (envOfC x (ak st) s.heap.objs.size f cdv))->sp vs H Q E->
   ∃ t,PSs (eO (CXr P w) P w K mg base N x (ak st) f cdv A outer s H E) (bP st) t/\t {nx:=λ_ H'=>Q .non H',rt:=Q} (start N vs) H) :
  cy P w K mg base (k+1) x ps sp:=by
 obtain ⟨f,fd,F,m⟩:=T.ex;obtain ⟨oc,od,kV,doc,pm,an,cdv,ct,osl,rfl,lk,hcd⟩:=id F.ex;exact ⟨f,_,fn_of lk hcd S len λA outer s H vs Q E hr h=>body f cdv A outer s H vs Q E hr h,F.binds bd,F.kp,m⟩
theorem pD {X:Cx} {n:Nat} {x:Str} {ps:List Str} {sp:Sp} {e:Expr} {es:List Expr} {t:TA} {p pos:Pos} (D:cy X.prog X.w X.K X.mg X.base n x ps sp) (hr:dj n X.A) (hg:Gl X x) (ha:PA X (e::es) t)
  (hdb:(x == ("__debug__":Str))=false:=by decide) (he:starEach (e::es) X.env=(false,eval e X.env)::starEach es X.env:=by rfl) (hpl:(backTo pos (starEach es X.env)).any (·.1)=false:=by rfl) :
  PE X (.Call (.Name x p) (e::es) [] pos) (pM sp [] E0 t):=by
 obtain ⟨f,fd,F,b,kp,m⟩:=D.ex;exact tV F hr hg m kp b .nil passr ha hdb he hpl
structure iz (K:Frag) (D:Addr):Prop where
 cl:∃ cd,clsIn K D=some cd
 ty:typeIn K (.ref D)=some (.type "type")
 hb:mroIn K D (.type "BaseException")=some true
theorem oI {M:Model} {A:Around} {E:Value->Shared->Prop} {s:Shared} {K:Frag} {e C D:Addr} {Q:Bool->Shared->Prop} (X:K.In s.heap) (I:jD e C s.heap) (c:iz K D) {b:Bool} (hm:mroIn K C (.ref D)=some b) (hq:Q b s) :
  wpAny M A (excMatches (.ref e) (.ref D)) Q E s:=by
 obtain ⟨hh,g,d,t,os⟩:=s;have l0:=I.type (M:=M);obtain ⟨ob,ho,hc⟩:=Option.map_eq_some_iff.mp c.ty;have l1:Looks M hh (typeOf (.ref D)) (.type "type"):=hc ▸ (Looks.ld (X _ _ ho)).andThen .now
 have l2:Looks M hh (isType (.ref D)) true:=by
  obtain ⟨cd,hcd⟩:=c.cl;unfold clsIn at hcd;split at hcd
  ·rename_i c' d' cd' sl' lo;intro A' Q' E' s' k q;unfold isType loadHead;exact wpAny_bind (wpAny_loadPart (k _ _ (X _ _ lo)) (wpAny_pure q))
  ·cases hcd
 have l3:=looks_mroIn (M:=M) X c.hb;have l4:=looks_mroIn (M:=M) X hm;have l5:Looks M hh (isInstance (.ref D) (.type "tuple")) false:=l1.andThen (Looks.of_pure tc_notTuple);have l6:Looks M hh (isExcClass (.ref D)) true:=l2.andThen (by exact l3);unfold excMatches;refine wpAny_bind (l5.at ?_);rw [if_neg (by decide)];refine wpAny_bind (wpAny_pure ?_);simp only [List.forIn_cons,List.forIn_nil];refine wpAny_bind (wpAny_bind (wpAny_bind (l6.at ?_)));rw [if_neg (by decide)];refine wpAny_pure (wpAny_pure (wpAny_bind (l0.at (wpAny_bind (wpAny_bind (wpAny_bind (l4.at ?_)))))));cases b with
 | true=>exact wpAny_pure (wpAny_pure (wpAny_pure hq))
 | false=>exact wpAny_pure (wpAny_pure (wpAny_pure hq))
def Cx.mark (X:Cx) (ea:Addr):Cx:={X with A:=X.A.mark (some (.ref ea)),calm:=false}
section
variable {X:Cx} {pins:List (Addr×Obj)} {σ:St} {H H':Hp} {s s':Shared}
theorem Inv.mark (I:Inv X pins σ H s) (ea:Addr):Inv (X.mark ea) pins σ H s:=
 ⟨⟨I.ok.mod,I.ok.kind,I.ok.glob,I.ok.blt,I.ok.above,I.ok.inj,I.ok.has,I.ok.cab,(λz=>by cases z),I.ok.frames,I.ok.stk,I.ok.exf,I.ok.bs,I.ok.bsz,I.ok.noex,I.ok.exfs,I.ok.funs,I.ok.frf⟩,
  I.os,I.bare,I.base,I.loc,I.cell,I.free,I.freeC,I.pin,I.hok,I.len⟩
theorem Inv.unmark {ea:Addr} (I:Inv (X.mark ea) pins σ H s) (ok:X.Ok):Inv X pins σ H s:=
 ⟨ok,I.os,I.bare,I.base,I.loc,I.cell,I.free,I.freeC,I.pin,I.hok,I.len⟩
theorem Inv.track {a:Addr} {φ:Heap->Prop} (I:Inv X pins σ H s) (n:H a=none) (new:X.s₀.heap.get? a=none) (hL:a≠X.env.locals) (hc:∀ x c,X.env.cells.lookup x=some c->c≠a) (hp:∀ p∈X.pn++pins,p.1≠a)
  (p:φ s.heap) (there:∃ o,s.heap.get? a=some o) (st:∀ h1 h2:Heap,φ h1->(∀ o,h1.get? a=some o->h2.get? a=some o)->φ h2):Inv X pins σ (upd H a (.ext φ)) s:=
 ⟨I.ok,I.os,I.bare,⟨I.base.keep,I.base.slot,λb o e z hx=>by rw [aB (λq=>by rw [q,new] at e;cases e)];exact I.base.free b o e z hx,I.base.there,
   λb xs e=>by have q:=I.base.tups b xs e;rw [aB (aA q n)];exact q,λb o u e=>by have q:=I.base.frzs b o u e;rw [aB (aA q n)];exact q,
   λb ps e=>by obtain ⟨m,q⟩:=I.base.tbls b ps e;exact ⟨m,by rw [aB (aA q n)];exact q⟩⟩,
  I.loc,I.cell,by rw [aB (Ne.symm hL)];exact I.free,λx c e=>by rw [aB (hc x c e)];exact I.freeC x c e,
  λq hq=>by obtain ⟨a1,a2,a3⟩:=I.pin q hq;exact ⟨a1,by rw [aB (hp q hq)];exact a2,a3⟩,
  λb u e=>by
   by_cases hb:b=a
   ·subst hb;rw [af] at e;cases e
    exact ⟨p,there,st⟩
   ·rw [aB hb] at e;exact (I.hok b u e).stay (λ_ _ _ z=>z) (λc z=>by rw [aB (aA z n)];exact z) λc xs z=>by rw [aB (aA z n)];exact z,
  I.len⟩
theorem Inv.unname {i:Nat} {x:Str} {v:Option Value} {m:Str->Option Value} {h':Heap} {tk:Nat} (I:Inv X pins σ H s) (hN:X.N.Nodup) (hi:X.N[i]?=some x)
  (hm:s.heap.Ns X.env.locals m) (hn:h'.Ns X.env.locals λy=>if y=x then v else m y) (hs:Heap.SameBut X.env.locals s.heap h'):Inv X pins (σ.set i none) H {s with heap:=h',toks:=tk}:=by
 have old:∀ b o,X.s₀.heap.get? b=some o->b≠X.env.locals:=λb o e=>Nat.ne_of_lt (Nat.lt_of_lt_of_le (Heap.lt_size e) I.ok.above);have cellK:∀ y c,X.env.cells.lookup y=some c->∀ u,s.heap.IsCell c u->h'.IsCell c u:=λy c e u z=>z.sameBut hs (I.cne y c e)
 refine ⟨I.ok,I.os,I.bare,⟨λb o e n hb hx=>(hs.2 b (old b o e)).trans (I.base.keep b o e n hb hx),λb o e n hb hx=>?_,I.base.free,λb o e hx=>?_,I.base.tups,I.base.frzs,I.base.tbls⟩,⟨_,hn,λj y u e1 e2 e3=>?_⟩,
  λy c e=>?_,I.free,I.freeC,λp hp=>?_,λb u e=>?_,by simpa using I.len⟩
 ·obtain ⟨sl,z⟩:=I.base.slot b o e n hb hx;exact ⟨sl,(hs.2 b (old b o e)).trans z⟩
 ·obtain ⟨o',z⟩:=I.base.there b o e hx;exact ⟨o',(hs.2 b (old b o e)).trans z⟩
 ·by_cases hj:j=i
  ·subst hj;have e4:(σ.set j none)[j]?=some (some u):=e2
   by_cases hl:j < σ.length
   ·rw [List.getElem?_set_self hl] at e4;cases e4
   ·rw [List.getElem?_eq_none (by rw [List.length_set];omega)] at e4;cases e4
  ·have e4:(σ.set i none)[j]?=some (some u):=e2;rw [List.getElem?_set_ne (Ne.symm hj)] at e4;obtain ⟨m0,hm0,hl⟩:=I.loc
   have em:m0=m:=by
    obtain ⟨o1,es1,ep1,g1,d1,_,r1⟩:=hm0;obtain ⟨o2,es2,ep2,g2,d2,_,r2⟩:=hm;rw [g1] at g2;cases g2
    rw [d1] at d2;cases d2
    funext z;exact (r1 z).symm.trans (r2 z)
   subst em;obtain ⟨u',r',q⟩:=hl j y u e1 e4 e3;refine ⟨u',r',?_⟩;rcases q with ⟨k,e⟩ | ⟨k,c,e,z⟩
   ·refine .inl ⟨k,?_⟩;have ne:y≠x:=λe=>hj (qr hN e1 (e ▸ hi));show (if y=x then v else m0 y)=some u';rw [if_neg ne];exact e
   ·exact .inr ⟨k,c,e,cellK y c e _ z⟩
 ·obtain ⟨u,z⟩:=I.cell y c e;exact ⟨u,cellK y c e u z⟩
 ·obtain ⟨a1,a2,a3,a4⟩:=I.pin p hp;exact ⟨(hs.2 _ a3).trans a1,a2,a3,a4⟩
 ·have nl:∀ c z,H c=some z->c≠X.env.locals:=λc z q e=>by rw [e,I.free] at q;cases q
  exact (I.hok b u e).stay (λc z hc q=>(hs.2 c (hc.elim (λk=>by rw [k];exact nl b u e) λk=>nl c _ k)).trans q) (λ_ z=>z) λ_ _ z=>z
theorem Inv.caught {ea:Addr} {C:Value} (I:Inv X pins σ H s) {t:Addr} {B:Heap} {h6:Heap} {tk:Nat} (ho:s'.os=s.os) (hg:AllBare s'.gens) (un:Un (frs X.stack) [] H H' s.heap s'.heap) (hok:HOk X.prog X.w H' s'.heap)
  (cov:∀ b o,s'.heap.get? b=some o->b ∉ frs X.stack->((∃ u,H' b=some u)\/∃ o',s.heap.get? b=some o')->B.get? b=some o) (st:B.StaysIn h6) (up:s'.heap.UpToSlots h6):Inv X pins σ H' {s' with heap:=h6,toks:=tk}:=by
 have fr:=I.stack
 have frf:∀ b u,H' b=some u->b ∉ frs X.stack:=λb u e z=>by
  obtain ⟨_,o,e2,_⟩:=fr.mem z;have q:=un.free b o e2 (I.stkFree b z) (by simp);rw [e] at q;cases q
 have slotK:∀ b o,s.heap.get? b=some o->b∈frs X.stack->∃ sl,h6.get? b=some {o with slots:=sl}:=λb o e hb=>by
  obtain ⟨_,o',e2,nf⟩:=fr.mem hb;have e3:some o'=some o:=e2.symm.trans e;cases e3
  obtain ⟨sl,e4⟩:=un.slot b _ e (I.stkFree b hb) hb (by simp);obtain ⟨sl',e5⟩:=up b _ e4 nf;exact ⟨sl',e5⟩
 have u6:Un (frs X.stack) [] H H' s.heap h6:=by
  refine ⟨λb o e n hb hx=>st b o (cov b o (un.keep b o e n hb hx) hb (.inr ⟨o,e⟩)),λb o e n hb hx=>slotK b o e hb,un.free,λb o e hx=>?_,un.tups,un.frzs,un.tbls⟩
  by_cases hb:b∈frs X.stack
  ·obtain ⟨sl,z⟩:=slotK b o e hb;exact ⟨_,z⟩
  ·obtain ⟨o',z⟩:=un.there b o e hx;exact ⟨o',st b o' (cov b o' z hb (.inr ⟨o,e⟩))⟩
 have k6:HOk X.prog X.w H' h6:=λb u e=>(hok b u e).stay (λc z hc q=>by
  have tr:∃ v,H' c=some v:=hc.elim (λk=>⟨u,by rw [k];exact e⟩) λk=>⟨_,k⟩;obtain ⟨v,hv⟩:=tr;exact st c z (cov c z q (frf c v hv) (.inl ⟨v,hv⟩))) (λ_ z=>z) λ_ _ z=>z
 exact I.call' (s':={s' with heap:=h6,toks:=tk}) (ch:=[]) ho u6 k6 hg λb hb=>nomatch hb
end
def tTry (K:Frag) (i:Nat) (Dc:Addr) (sp:Sp) (ta:TA) (ts:TS):TS:=λD σ H=>ta σ H λvs H1=>sp vs H1 (λ_ H2=>D.nx σ H2) λC _ H2=>∃ Cn,C=.ref Cn/\mroIn K Cn (.ref Dc)=some true/\
 ∀ ea,H2 ea=none->ts {nx:=λσ' H3=>D.nx (σ'.set i none) H3,rt:=D.rt,bk:=λσ' H3=>D.bk (σ'.set i none) H3,ct:=λσ' H3=>D.ct (σ'.set i none) H3} (σ.set i (some (.ref ea))) (upd H2 ea (.ext (jD ea Cn)))
theorem ps_try {X:Cx} {m i:Nat} {x y n:Str} {ps:List Str} {sp:Sp} {e:Expr} {es:List Expr} {ta:TA} {ts:TS} {p pos pos' np hpos tpos:Pos} {b₀:Stmt} {suite:List Stmt} {Dc:Addr}
  (hxe:X.xe=λ_ _=>False) (hstk:X.stack=X.env::X.outer) (hfr:X.env.frame=some X.env.locals) (hex:X.ex=[])
  (Df:cy X.prog X.w X.K X.mg X.base m x ps sp) (hr:dj m X.A) (hg:Gl X x) (ha:PA X (e::es) ta) (hgy:Gl X y) (hmy:X.mg y=some (.ref Dc)) (cc:iz X.K Dc)
  (hN:X.N.Nodup) (hi:X.N[i]?=some n) (hl:X.env.scope.names.lookup n=some .local) (hs:∀ ea,PSs (X.mark ea) (b₀::suite) ts)
  (hdb:(x == ("__debug__":Str))=false:=by decide) (hdy:(y == ("__debug__":Str))=false:=by decide) (he:starEach (e::es) X.env=(false,eval e X.env)::starEach es X.env:=by rfl)
  (hpl:(backTo pos (starEach es X.env)).any (·.1)=false:=by rfl) (hsw:swapsWith (.Call (.Name x p) (e::es) [] pos) none pos'.line X.env=pure false:=by rfl) :
  PS X (.Try [.Expr (.Call (.Name x p) (e::es) [] pos) pos'] [.ExceptHandler (some (.Name y np)) (some n) (b₀::suite) hpos] [] [] tpos) (tTry X.K i Dc sp ta ts):=by
 intro pins s σ H D I h;obtain ⟨f,fd,F,b,kp,mf⟩:=Df.ex;refine wpAny_Try_except (wpAny_execs_cons (wpAny_Expr_any ?_ I.quiet hsw));refine wpAny_Call_Name_kw (gx I hg mf ?_ hdb);refine callWith_K (h₀:=X.base) I.ok.mod.kin kp (wpAny_mono (ha pos pins s σ H _ I h) (λus s1 z=>?_) (λ_ _ z=>by rw [hxe] at z;exact z.elim)) he hpl;obtain ⟨vs,H1,I1,r,q⟩:=z;refine ⟨I1.kIn,?_⟩;have hlen:us.length=ps.length:=by rw [<- r.length];exact F.len _ _ _ _ q
 have bnd:BindsTo s1 fd ⟨us,[]⟩ (ps.zip us):=by
  have z:=b s1 us I1.kIn (by rw [List.append_nil];exact hlen);rw [List.append_nil] at z;exact z
 refine wpAny_call (codeAny_mono (F.run X.A X.stack s1 H1 ⟨us,[]⟩ us vs _ _ hr I1.env0 bnd r q) λres s' hq=>?_);cases res with
 | ok fl =>
  cases fl with
  | ret u =>
   obtain ⟨v,H2,I2,_,q2⟩:=I1.after hq;exact wpAny_execs_nil (wpAny_execs_nil ⟨σ,H2,I2,q2⟩)
  | next=>exact False.elim hq
  | brk=>exact False.elim hq
  | cont=>exact False.elim hq
 | error ex =>
  obtain ⟨ea,C,H2,rfl,⟨t,B,ho,hgn,un,hok,fl,h0,h1,cov⟩,Cn,rfl,hm,q3⟩:=hq;have hfrm:X.A.frames=some (X.env::X.outer):=by rw [<- hstk];exact I.ok.frames
  rw [hstk] at fl;refine wpAny_looks_onW (L:=X.env.locals) hfrm hfr fl λh4 held up4=>?_;refine wpAny_landsW held λh5 fl5 up5'=>?_;have up5:=up4.trans up5';have I5:Inv X pins σ H2 {s' with heap:=h5}:=I1.caught (C:=.ref Cn) (ea:=ea) (t:=t) (tk:=s'.toks) ho hgn un hok cov fl5.1 up5
  refine wpAny_handleBy_cons (codeAny_handlers_test (gx (X:=X.mark ea) (I5.mark ea) hgy hmy ?_ hdy)) (by intro z;cases z)
  refine oI (K:=X.K) I5.kIn fl5.there cc hm ?_;show codeAny _ _ (.handlers (.ref ea) [.ExceptHandler none (some n) (b₀::suite) hpos] X.env) _ _;refine codeAny_handlers_suite_as ?_;refine lands_againW fl5 λh6 fl6 up6=>?_;have I6:Inv X pins σ H2 {s' with heap:=h6}:=I1.caught (C:=.ref Cn) (ea:=ea) (t:=t) (tk:=s'.toks) ho hgn un hok cov fl6.1 (up5.trans up6)
  have new:X.s₀.heap.get? ea=none:=by
   cases z:X.s₀.heap.get? ea with
   | none=>rfl
   | some o=>obtain ⟨o',e'⟩:=I1.base.there ea o z (by rw [hex];simp);rw [h1] at e';cases e'
  have nl:ea≠X.env.locals:=λz=>by
   obtain ⟨mm,⟨o,_,_,g,_⟩,_⟩:=I1.loc;rw [<- z,h1] at g;cases g
  have nc:∀ z c,X.env.cells.lookup z=some c->c≠ea:=λz c k q=>by
   obtain ⟨v,o,g,_⟩:=I1.cell z c k;rw [q,h1] at g;cases g
  have np':∀ z∈X.pn++pins,z.1≠ea:=λz hz q=>by
   obtain ⟨g,_⟩:=I1.pin z hz;rw [q,h1] at g;cases g
  have I7:=I6.track (a:=ea) (φ:=jD ea Cn) h0 new nl nc np' fl6.there (let ⟨o,z,_⟩:=fl6.there;⟨o,z⟩) λh1' h2' ⟨o,z1,z2⟩ k=>⟨o,k o z1,z2⟩;refine jK (X:=X.mark ea) (I7.mark ea) hN hi (.inl hl) (v:=.ref ea) rfl (λs7 I8=>?_) (.inr hl)
  refine wpAny_mono (hs ea pins s7 _ _ _ I8 (q3 ea h0)) (λfl8 s8 q8=>?_) (λee ss z=>by
   have z':X.xe ee ss:=z;rw [hxe] at z';exact z'.elim)
  have hcls:(X.env.scope.kind == .class || (X.env.scope.kind == .module && X.env.locals != X.env.globals))=false:=by rw [I.ok.kind];rfl
  cases fl8 with
  | next =>
   obtain ⟨σ8,H8,J,n8⟩:=q8;have J':=J.unmark I.ok;obtain ⟨mm,hn,_⟩:=id J'.loc;exact wpAny_nameGoes_keeps hl hn hcls λh9 v9 hn9 hs9=>⟨_,H8,J'.unname hN hi hn hn9 hs9,n8⟩
  | brk =>
   obtain ⟨σ8,H8,J,n8⟩:=q8;have J':=J.unmark I.ok;obtain ⟨mm,hn,_⟩:=id J'.loc;exact wpAny_nameGoes_keeps hl hn hcls λh9 v9 hn9 hs9=>⟨_,H8,J'.unname hN hi hn hn9 hs9,n8⟩
  | cont =>
   obtain ⟨σ8,H8,J,n8⟩:=q8;have J':=J.unmark I.ok;obtain ⟨mm,hn,_⟩:=id J'.loc;exact wpAny_nameGoes_keeps hl hn hcls λh9 v9 hn9 hs9=>⟨_,H8,J'.unname hN hi hn hn9 hs9,n8⟩
  | ret u =>
   obtain ⟨v,σ8,H8,J,rv,n8⟩:=q8;have J':=J.unmark I.ok;obtain ⟨mm,hn,_⟩:=id J'.loc;exact wpAny_nameGoes_keeps hl hn hcls λh9 v9 hn9 hs9=>⟨v,_,H8,J'.unname hN hi hn hn9 hs9,rv,n8⟩
theorem nU {X:Cx}:gR X (.builtin "isinstance") (λxs H Q=>∃(ea:Addr) (c:V) (cv:Value) (C:Addr) (k:Bool),xs=[.ref ea,c]/\(∀ u,RelV c u->u=cv)/\H ea=some (.ext (jD ea C))/\lL X.K C/\kitOne X.K (.ref C) cv=some k/\Q (.bl k) H):=by
 intro pins s σ H xs us Q I r h;obtain ⟨ea,c,cv,C,k,rfl,hc,he,ec,kt,q⟩:=h;obtain ⟨u,w',rfl,r1,r2⟩:=vals2 r;have e:=hc _ r2;subst e;cases (show u=Value.ref ea from r1)
 obtain ⟨p,_,_⟩:=(show cq X.prog X.w H s.heap ea (.ext (jD ea C)) from I.hok ea _ he);exact kia_one (Ei ec) I.kIn p kt (λz=>nomatch z) λtk=>⟨.bl k,H,I.tok tk,rfl,q⟩
section
variable {X:Cx}
theorem uC {env:Env}:∀(names:List (Str×NameKind)) (acc:List (Str×Addr)),(∀ y,(y,NameKind.free)∈names->∃ c,env.cells.lookup y=some c)->
  ∃ cl:List (Str×Addr),(forIn names acc (λx r=>match x with
    | (name,kind)=>if (kind == NameKind.free)=true then do let a <- cellOf env name;pure (ForInStep.yield ((name,a)::r)) else pure (ForInStep.yield r)):Sem _)=pure cl/\
   (∀ y c,cl.lookup y=some c->acc.lookup y=some c\/env.cells.lookup y=some c)/\(∀ y,(y,NameKind.free)∈names->∃ c,cl.lookup y=some c)/\∀ y,(∃ c,acc.lookup y=some c)->∃ c,cl.lookup y=some c
 | [],acc,_=>⟨acc,rfl,λ_ _ h=>.inl h,(λ_ h=>nomatch h),λ_ h=>h⟩
 | (nm,kd)::r,acc,h=>by
  by_cases hk:kd=.free
  ·subst hk;obtain ⟨c,hc⟩:=h nm List.mem_cons_self;obtain ⟨cl,e,p1,p2,p3⟩:=uC r ((nm,c)::acc) λy hy=>h y (List.mem_cons_of_mem _ hy);refine ⟨cl,?_,λy d hd=>?_,λy hy=>?_,λy hy=>?_⟩
   ·rw [List.forIn_cons];have z:cellOf env nm=pure c:=by unfold cellOf;rw [hc]
    simp only [z,beq_self_eq_true,if_true];exact e
   ·rcases p1 y d hd with q | q
    ·rw [List.lookup_cons] at q;cases hy:y == nm with
     | true =>
      rw [hy] at q;have e1:=beq_iff_eq.mp hy;subst e1;cases q
      exact .inr hc
     | false=>rw [hy] at q;exact .inl q
    ·exact .inr q
   ·rcases List.mem_cons.mp hy with q | q
    ·cases q
     exact p3 nm ⟨c,by rw [List.lookup_cons,beq_self_eq_true]⟩
    ·exact p2 y q
   ·obtain ⟨d,hd⟩:=hy;refine p3 y ?_;rw [List.lookup_cons];cases y == nm with
    | true=>exact ⟨c,rfl⟩
    | false=>exact ⟨d,hd⟩
  ·obtain ⟨cl,e,p1,p2,p3⟩:=uC r acc λy hy=>h y (List.mem_cons_of_mem _ hy);refine ⟨cl,?_,p1,λy hy=>?_,p3⟩
   ·rw [List.forIn_cons];have z:(kd == NameKind.free)=false:=by simpa using hk
    simp only [z,Bool.false_eq_true,if_false];exact e
   ·rcases List.mem_cons.mp hy with q | q
    ·cases q;exact absurd rfl hk
    ·exact p2 y q
theorem uB {scope:Scope} {env:Env} (h:∀ y,(y,NameKind.free)∈scope.names->∃ c,env.cells.lookup y=some c) :
  ∃ cl,closureFor scope env=pure cl/\(∀ y c,cl.lookup y=some c->env.cells.lookup y=some c)/\∀ y,(y,NameKind.free)∈scope.names->∃ c,cl.lookup y=some c:=by
 obtain ⟨cl,e,p1,p2,_⟩:=uC (env:=env) scope.names [] h;refine ⟨cl,?_,λy c hc=>(p1 y c hc).elim (λz=>by cases z) λz=>z,p2⟩;unfold closureFor;show (forIn scope.names [] _ >>= λs=>pure s)=pure cl;rw [bind_pure];exact e
theorem pH {scope:Scope} {js:List Nat} {pins:List (Addr×Obj)} {σ:St} {H:Hp} {s:Shared} (I:Inv X pins σ H s) (hf:∀ y,(y,NameKind.free)∈scope.names->X.env.kindOf y=some .cell\/X.env.kindOf y=some .free) :
  ∀ y,(y,NameKind.free)∈scope.names->∃ c,X.env.cells.lookup y=some c:=λy hy=>I.ok.has y (hf y hy)
variable {elt iter:Expr} {x:Str} {px pos:Pos} {ifs:List Expr} {scope:Scope} {wi:TI} {tc:TT} {te:TE} {js:List Nat}
theorem fE (hc:X.calm=true) (hi:PI X (.Name x px) iter wi) (hk:scope.kind=.function) (hcell:∀ y∈scope.names,y.2≠.cell) (hnames:∀ y∈scope.names,y.2=.local->scope.names.lookup y.1=some .local) (hx:(relabel scope X.env).names.lookup x=some .local)
  (hf:∀ p∈scope.names,p.2=.free->X.env.kindOf p.1=some .cell\/X.env.kindOf p.1=some .free) (hjs:fL X scope js) (hnd:(bQ X x js).Nodup)
  (ht:∀ cl s' H' fp,PIf (bC X scope cl (bQ X x js) s' H' fp) ifs tc) (he:∀ cl s' H' fp,PE (bC X scope cl (bQ X x js) s' H' fp) elt te)
  (hs:∀ x,foldedSetIterable iter X.env x=pure x:=by intro _;rfl):PE X (.ListComp elt [⟨.Name x px,iter,ifs,0⟩] scope pos) (jy wi tc te js):=by
 intro pins s σ H Q I h;obtain ⟨cl,e,p1,p2⟩:=uB (pH (js:=js) I λy hy=>hf (y,.free) hy rfl);exact pe_comp hc hi hk hcell hnames hx e p1 p2 hjs hnd (ht cl) (he cl) hs pins s σ H Q I h
theorem zH {y:Str} {i:Nat} {py spos:Pos} (hN:X.N.Nodup) (hy:X.N[i]?=some y) (hyl:Loc X.env.scope y) (hyf:X.fn y=true\/X.env.scope.names.lookup y=some .local)
  (hsw:swapsWith (.ListComp elt [⟨.Name x px,iter,ifs,0⟩] scope pos) (some (.Name y py)) spos.line X.env=pure true)
  (hc:X.calm=true) (hi:PI X (.Name x px) iter wi) (hk:scope.kind=.function) (hcell:∀ y∈scope.names,y.2≠.cell) (hnames:∀ y∈scope.names,y.2=.local->scope.names.lookup y.1=some .local) (hx:(relabel scope X.env).names.lookup x=some .local)
  (hf:∀ p∈scope.names,p.2=.free->X.env.kindOf p.1=some .cell\/X.env.kindOf p.1=some .free) (hjs:fL X scope js) (hnd:(bQ X x js).Nodup)
  (ht:∀ cl s' H' fp,PIf (bC X scope cl (bQ X x js) s' H' fp) ifs tc) (he:∀ cl s' H' fp,PE (bC X scope cl (bQ X x js) s' H' fp) elt te)
  (hs:∀ x,foldedSetIterable iter X.env x=pure x:=by intro _;rfl) :
  PS X (.Assign [.Name y py] (.ListComp elt [⟨.Name x px,iter,ifs,0⟩] scope pos) spos) (rM i (jy wi tc te js)):=by
 intro pins s σ H D I h;obtain ⟨cl,e,p1,p2⟩:=uB (pH (js:=js) I λy hy=>hf (y,.free) hy rfl);exact ps_setC hN hy hyl hyf hsw hc hi hk hcell hnames hx e p1 p2 hjs hnd (ht cl) (he cl) hs pins s σ H D I h
end
theorem pJ:∀{ns:List Int} {n:Int},n∈ns->WData.weight (.int n)<=WData.weightAll (ns.map WData.int)
 | [],_,h=>nomatch h
 | m::r,n,h=>by
  show _<=WData.weight (.int m)+1+WData.weightAll (r.map WData.int);rcases List.mem_cons.mp h with e | e
  ·subst e;omega
  ·have:=pJ (ns:=r) e;omega
theorem wW (n:Int):Builtin.Int.intBits n=WData.weight (.int n):=by
 show _=if n == 0 then 0 else n.natAbs.log2+1
 unfold Builtin.Int.intBits
 by_cases h:n=0
 ·subst h;rfl
 ·simp [h]
theorem vh {ns:List Int} (h:WData.layableAll [.list (ns.map .int)]=true):∀ n∈ns,Builtin.Int.intBits n<=1048576:=λn hn=>by
 have h1:WData.layable (.list (ns.map .int))=true:=by
  simpa [WData.layableAll] using h
 have h2:WData.weight (.list (ns.map .int))<=2 ^ 20:=by
  unfold WData.layable at h1;rw [Bool.and_eq_true,Bool.and_eq_true] at h1;exact of_decide_eq_true h1.2
 have h3:WData.weightAll (ns.map WData.int)<=2 ^ 20:=h2;have h4:=pJ hn;rw [wW];omega
theorem Am {l:OpenLaw} {n k:Nat} {q:Program} {loose:List Str} {XP:(Str->Option Value)->Heap->Prop} {YP:World->Heap->Prop} {d:DefRec} {K:Params->Frag} {CX:CXT} {sp:Frag->Sp} {x:Str}
  (hn:l.most=some n) (hn2:n<=sizeLine) (hdf:d.params.defaults=[]) (hr:dj k callerA) (hY:∀(w:World) (h:Heap),YP w h->(K w.params).In h)
  (F:∀(w:World) (mg:Str->Option Value) (fa:Addr) (h:Heap),(K w.params).In h->h.Ns mainGlobals mg->mg d.name=some (.ref fa)->
   ∃ fd:FuncData,(∀(s:Shared) (u:Value),BindsTo s fd ⟨[u],[]⟩ [(x,u)])/\∀ base:Heap,(K w.params).In base->base.Ns mainGlobals mg->mP l.prog w (K w.params) mg base CX k fa fd [x] (sp (K w.params)))
  (hsp:∀(K:Frag) (H:Hp) (a:Addr) (ns:List Int),ns.length<=n->(∀ m∈ns,Builtin.Int.intBits m<=1048576)->Only H->SqL K H a (ns.map V.int)->sp K [.ref a] H (λv _=>v=.bl true) λ_ _ _=>False)
  (hCX:∀(H:Hp) (s:Shared) (e:Value) (s':Shared),CX [] H s (λ_ _ _=>False) e s'->False):WalkO q loose XP YP l.row.toRowW d [] (λf vs=>PySem.call f vs):=by
 intro w s₀ s₁ mg mb G Y fa o pm cd doc dV kV ho hd hcd hD hmg hg args vals as hpre hlay hrd hwl hlo;obtain rfl:dV=.none:=Dflts.none hD hdf;obtain rfl:kV=.none:=Dflts.noKw hD;obtain ⟨a,vs,ns,rfl,rfl,hobj,hints,hlen⟩:=Att.AD hn hpre hwl;have KX:=hY w _ Y;obtain ⟨fd,hb,hF⟩:=F w mg fa _ KX G.T.g hmg;have c:=Eg KX G.T.g G.T.b G.T.builtins G.T.nolimit hg hobj hints (Nat.le_trans hlen hn2) hr hF hb (λH hO hS=>hsp (K w.params) H a ns hlen (vh hlay) hO hS) λH e s'=>hCX H s₁ e s';refine enter_call (codeAny_mono c λr s' hq=>?_);obtain ⟨rfl,h2,h3,h4⟩:=hq;exact ⟨.inl ⟨.bool true,.bool true,[],rfl,λ_=>rfl,.bool true,Att.AJ l _,λ_=>⟨List.Pairwise.nil,λ_ hm=>(nomatch hm)⟩⟩,h2,h3,h4⟩
section
variable {κ:Type} [DecidableEq κ]
def gS (kvs:List (κ×V)) (k:κ):Option V:=(kvs.find? λkv=>decide (kv.1=k)).map (·.2)
def putK (kvs:List (κ×V)) (k:κ) (v:V):List (κ×V):=
 if (kvs.any λkv=>decide (kv.1=k))=true then kvs.map (λkv=>if kv.1=k then (kv.1,v) else kv) else kvs++[(k,v)]
theorem dI {p:κ×V} {r:List (κ×V)} {k:κ} (e:p.1=k):gS (p::r) k=some p.2:=by simp [gS,List.find?_cons,e]
theorem dJ {p:κ×V} {r:List (κ×V)} {k:κ} (e:¬p.1=k):gS (p::r) k=gS r k:=by simp [gS,List.find?_cons,e]
theorem jG (k:κ):∀ kvs:List (κ×V),(kvs.any λkv=>decide (kv.1=k))=(gS kvs k).isSome
 | []=>rfl
 | p::r=>by
  rw [List.any_cons]
  by_cases e:p.1=k
  ·simp only [dI e,decide_eq_true e,Bool.true_or,Option.isSome_some]
  ·rw [dJ e,decide_eq_false e,Bool.false_or];exact jG k r
theorem uP (k j:κ) (y:V):∀ kvs:List (κ×V),gS (kvs.map λkv=>if kv.1=k then (kv.1,y) else kv) j=(gS kvs j).map λx=>if j=k then y else x
 | []=>rfl
 | p::r=>by
  have ih:=uP k j y r;rw [List.map_cons]
  by_cases h:p.1=k
  ·rw [if_pos h]
   by_cases e:p.1=j
   ·rw [dI (p:=(p.1,y)) e,dI e,Option.map_some,if_pos (e.symm.trans h)]
   ·rw [dJ (p:=(p.1,y)) e,dJ e,ih]
  ·rw [if_neg h]
   by_cases e:p.1=j
   ·rw [dI (p:=p) e,dI e,Option.map_some,if_neg (λz=>h (e.trans z))]
   ·rw [dJ (p:=p) e,dJ e,ih]
theorem rL (k j:κ) (y:V):∀ kvs:List (κ×V),gS kvs k=none->gS (kvs++[(k,y)]) j=if j=k then some y else gS kvs j
 | [],_=>by
  by_cases e:k=j
  ·rw [if_pos e.symm];exact dI (p:=(k,y)) e
  ·rw [if_neg (λz=>e z.symm)];exact dJ (p:=(k,y)) e
 | p::r,hn=>by
  rw [List.cons_append];have hk:¬p.1=k:=λz=>by rw [dI z] at hn;cases hn
  rw [dJ hk] at hn;have ih:=rL k j y r hn
  by_cases e:p.1=j
  ·rw [dI e,dI e,if_neg (λz=>hk (e.trans z))]
  ·rw [dJ e,dJ e,ih]
theorem uO (kvs:List (κ×V)) (k j:κ) (y:V):gS (putK kvs k y) j=if j=k then some y else gS kvs j:=by
 unfold putK
 by_cases a:(kvs.any λkv=>decide (kv.1=k))=true
 ·rw [if_pos a,uP];rw [jG] at a
  by_cases e:j=k
  ·obtain ⟨x,hx⟩:=Option.isSome_iff_exists.mp a;rw [if_pos e,e,hx,Option.map_some,if_pos rfl]
  ·rw [if_neg e];cases gS kvs j with
   | none=>rfl
   | some x=>rw [Option.map_some,if_neg e]
 ·rw [if_neg a];refine rL k j y kvs ?_;rw [jG] at a;cases q:gS kvs k with
  | none=>rfl
  | some x=>rw [q] at a;exact (a rfl).elim
theorem oF (kvs:List (κ×V)) (k:κ) (v:V):(putK kvs k v).length<=kvs.length+1:=by
 unfold putK;split
 ·rw [List.length_map];omega
 ·rw [List.length_append,List.length_cons,List.length_nil];omega
theorem Dm {kvs:List (κ×V)} {k:κ} (v:V) (h:gS kvs k=none):putK kvs k v=kvs++[(k,v)]:=by
 unfold putK;rw [jG,h];exact if_neg (by decide)
theorem kM.isSome_eq {o:Option V} {u:Option Value} (r:kM o u):o.isSome=u.isSome:=by
 cases o with
 | none=>cases u with
  | none=>rfl
  | some _=>exact (show False from r).elim
 | some _=>cases u with
  | none=>exact (show False from r).elim
  | some _=>rfl
theorem KV.val {kvs:List (κ×V)} {vs:List (κ×Value)} (r:KV kvs vs) (k:κ):kM (gS kvs k) (valueAt vs k):=by
 unfold KV at r
 induction r with
 | nil=>exact True.intro
 | @cons p q ps qs h t ih =>
  obtain ⟨h1,h2⟩:=h
  by_cases e:p.1=k
  ·have e':q.1=k:=h1.symm.trans e;have b:valueAt (q::qs) k=some q.2:=by simp [valueAt,List.find?_cons,e']
   rw [dI e,b];exact h2
  ·have e':¬q.1=k:=λz=>e (h1.trans z);have b:valueAt (q::qs) k=valueAt qs k:=by simp [valueAt,List.find?_cons,e']
   rw [dJ e,b];exact ih
theorem KV.any {kvs:List (κ×V)} {vs:List (κ×Value)} (r:KV kvs vs) (k:κ):(kvs.any λkv=>decide (kv.1=k))=vs.any λkv=>decide (kv.1=k):=by
 unfold KV at r
 induction r with
 | nil=>rfl
 | cons h t ih=>rw [List.any_cons,List.any_cons,ih,h.1]
theorem KV.repl {kvs:List (κ×V)} {vs:List (κ×Value)} (r:KV kvs vs) (k:κ) {y:V} {u:Value} (ry:RelV y u) :
  KV (kvs.map λkv=>if kv.1=k then (kv.1,y) else kv) (vs.map λkv=>if kv.1=k then (kv.1,u) else kv):=by
 unfold KV at r ⊢
 induction r with
 | nil=>exact .nil
 | @cons p q ps qs h t ih =>
  rw [List.map_cons,List.map_cons];refine .cons ?_ ih;obtain ⟨h1,h2⟩:=h
  by_cases e:p.1=k
  ·rw [if_pos e,if_pos (h1.symm.trans e)];exact ⟨h1,ry⟩
  ·rw [if_neg e,if_neg (λz=>e (h1.trans z))];exact ⟨h1,h2⟩
theorem KV.put {kvs:List (κ×V)} {vs:List (κ×Value)} (r:KV kvs vs) (k:κ) {y:V} {u:Value} (ry:RelV y u):KV (putK kvs k y) (stored vs k u):=by
 unfold putK stored;rw [r.any k]
 by_cases e:(vs.any λkv=>decide (kv.1=k))=true
 ·rw [if_pos e,if_pos e];exact r.repl k ry
 ·rw [if_neg e,if_neg e];exact Paired.snoc r ⟨rfl,ry⟩
theorem KV.length {kvs:List (κ×V)} {vs:List (κ×Value)} (r:KV kvs vs):kvs.length=vs.length:=Paired.length r
end
theorem zW {P:Program} {w:World} {k:Key} {u:Value} (r:RelV (kV k) u):(dF P w).is k u=true:=by
 cases k with
 | inl i=>obtain ⟨t,e⟩:=(show ∃ t,u=Value.int i t from r);subst e;exact wy P w i t
 | inr x=>obtain ⟨t,e⟩:=(show ∃ t,u=Value.str x t from r);subst e;exact wx P w x t
theorem sJ {P:Program} {w:World}:∀{ks:List Key} {us:List Value},Vals (ks.map kV) us->ItemsAre (dF P w) ks us
 | [],_,r=>by rw [List.map_nil] at r;cases r;exact .nil
 | k::ks,_,r=>by
  rw [List.map_cons] at r;cases r with
  | cons h t=>exact .cons (zW h) (sJ t)
abbrev KT (H:Hp):List (List Key×V)->List (List Key×Addr×Value)->Prop:=Paired λp q=>p.1=q.1/\H q.2.1=some (.tup (p.1.map kV))/\RelV p.2 q.2.2
theorem KT.val {H:Hp} {kvs:List (List Key×V)} {xs:List (List Key×Addr×Value)} (r:KT H kvs xs) (k:List Key):kM (gS kvs k) ((atKey xs k).map (·.2)):=by
 induction r with
 | nil=>exact True.intro
 | @cons p q ps qs h t ih =>
  obtain ⟨h1,_,h2⟩:=h
  by_cases e:p.1=k
  ·have e':q.1=k:=h1.symm.trans e;have b:atKey (q::qs) k=some q.2:=by simp [atKey,List.find?_cons,e']
   rw [dI e,b];exact h2
  ·have e':¬q.1=k:=λz=>e (h1.trans z);have b:atKey (q::qs) k=atKey qs k:=by simp [atKey,List.find?_cons,e']
   rw [dJ e,b];exact ih
theorem KT.repl {H:Hp} {kvs:List (List Key×V)} {xs:List (List Key×Addr×Value)} (r:KT H kvs xs) (k:List Key) {y:V} {u:Value} (ry:RelV y u) :
  KT H (kvs.map λkv=>if kv.1=k then (kv.1,y) else kv) (xs.map (putAt k u)):=by
 induction r with
 | nil=>exact .nil
 | @cons p q ps qs h t ih =>
  rw [List.map_cons,List.map_cons];refine .cons ?_ ih;obtain ⟨h1,h2,h3⟩:=h;unfold putAt
  by_cases e:p.1=k
  ·rw [if_pos e,if_pos (h1.symm.trans e)];exact ⟨h1,h2,ry⟩
  ·rw [if_neg e,if_neg (λz=>e (h1.trans z))];exact ⟨h1,h2,h3⟩
theorem KT.put {H:Hp} {kvs:List (List Key×V)} {xs:List (List Key×Addr×Value)} (r:KT H kvs xs) (k:List Key) {b:Addr} {y:V} {u:Value} (hb:H b=some (.tup (k.map kV))) (ry:RelV y u) :
  KT H (putK kvs k y) (storedH xs k b u):=by
 have e:(kvs.any λkv=>decide (kv.1=k))=(atKey xs k).isSome:=by
  rw [jG,(r.val k).isSome_eq,Option.isSome_map]
 unfold putK storedH;rw [e]
 by_cases q:(atKey xs k).isSome=true
 ·rw [if_pos q,if_pos q];exact r.repl k ry
 ·rw [if_neg q,if_neg q];exact Paired.snoc r ⟨rfl,hb,ry⟩
theorem KT.keeps {H H':Hp} {kvs:List (List Key×V)} {xs:List (List Key×Addr×Value)} (r:KT H kvs xs) (ht:∀ b ys,H b=some (.tup ys)->H' b=some (.tup ys)):KT H' kvs xs:=
 Paired.mapP r λ_ _ z=>⟨z.1,ht _ _ z.2.1,z.2.2⟩
section
variable {P:Program} {w:World} {H:Hp} {h:Heap} {a:Addr}
theorem rd_of {u:HO} (ok:HOk P w H h) (e:Rd H a u):cq P w H h a u:=e.ok ok
theorem zZ {kvs:List (Key×V)} (ok:HOk P w H h) (e:Rd H a (.dK kvs)):kvs.length<=sizeLine/\(a == sysModules)=false/\∃ vs,KV kvs vs/\h.DictOf (dF P w) a vs:=
 show cq P w H h a (.dK kvs) from rd_of ok e
theorem dk_of {kvs:List (Key×V)} (ok:HOk P w H h) (e:H a=some (.dK kvs)):kvs.length<=sizeLine/\(a == sysModules)=false/\∃ vs,KV kvs vs/\h.DictOf (dF P w) a vs:=zZ ok (.inl e)
theorem um {ks:List Key} (ok:HOk P w H h) (e:H a=some (.tup (ks.map kV))):(tupleKind (dF P w)).is h ks a:=by
 obtain ⟨_,its,r,o,h1,h2,n,h3⟩:=(show cq P w H h a (.tup (ks.map kV)) from ok a _ e);exact ⟨o,its.toArray,n,h1,h2,h3,by simpa using sJ r⟩
theorem zX {kvs:List (List Key×V)} (ok:HOk P w H h) (e:Rd H a (.dT kvs)):kvs.length<=sizeLine/\(a == sysModules)=false/\
  ∃ xs,KT H kvs xs/\h.DictOfH (tupleKind (dF P w)) a xs:=by
 obtain ⟨z,y,xs,r,o,es,ep,h1,h2,h3,h4,h5⟩:=(show cq P w H h a (.dT kvs) from rd_of ok e);refine ⟨z,y,xs,r,o,es,ep,h1,h2,h3,h4,λx hx=>?_,h5⟩
 have all:∀{l:List (List Key×V)} {m:List (List Key×Addr×Value)},KT H l m->∀ x∈m,(tupleKind (dF P w)).is h x.1 x.2.1:=by
  intro l m q
  induction q with
  | nil=>intro x hx;exact nomatch hx
  | @cons p q ps qs hq t ih =>
   intro x hx;rcases List.mem_cons.mp hx with e | hx
   ·subst e;exact um ok (by rw [<- hq.1];exact hq.2.1)
   ·exact ih x hx
 exact all r x hx
theorem dt_of {kvs:List (List Key×V)} (ok:HOk P w H h) (e:H a=some (.dT kvs)):kvs.length<=sizeLine/\(a == sysModules)=false/\
  ∃ xs,KT H kvs xs/\h.DictOfH (tupleKind (dF P w)) a xs:=zX ok (.inl e)
end
def rH (H:Hp) (a:Addr) (y:V) (r:Option V):Prop:=
 (∃ kvs k,Rd H a (.dK kvs)/\y=kV k/\r=gS kvs k)\/∃ kvs k b,Rd H a (.dT kvs)/\y=.ref b/\H b=some (.tup (k.map kV))/\r=gS kvs k
def Fl (H:Hp) (a:Addr) (y v:V) (H':Hp):Prop:=
 (∃ kvs k,H a=some (.dK kvs)/\y=kV k/\kvs.length < sizeLine/\H'=upd H a (.dK (putK kvs k v)))\/
 ∃ kvs k b,H a=some (.dT kvs)/\y=.ref b/\H b=some (.tup (k.map kV))/\kvs.length < sizeLine/\H'=upd H a (.dT (putK kvs k v))
theorem rH.t {H:Hp} {a b:Addr} {kvs:List (List Key×V)} {k:List Key} (e:H a=some (.dT kvs)) (eb:H b=some (.tup (k.map kV))):rH H a (.ref b) (gS kvs k):=.inr ⟨kvs,k,b,.inl e,rfl,eb,rfl⟩
theorem Fl.t {H:Hp} {a b:Addr} {kvs:List (List Key×V)} {k:List Key} {v:V} (e:H a=some (.dT kvs)) (eb:H b=some (.tup (k.map kV))) (hl:kvs.length < sizeLine) :
  Fl H a (.ref b) v (upd H a (.dT (putK kvs k v))):=.inr ⟨kvs,k,b,e,rfl,eb,hl,rfl⟩
section
variable {X:Cx} {pins:List (Addr×Obj)} {σ:St} {H:Hp} {s:Shared} {a:Addr} {y v:V} {u r:Value} {o:Option V} {A:Around} {E:Value->Shared->Prop}
theorem Inv.big (I:Inv X pins σ H s):sysModules < s.heap.objs.size:=by
 have h:mainGlobals < s.heap.objs.size:=(I.mod.glob.keeps I.bk).lt;exact Nat.lt_trans (by decide) h
theorem Bz {Q:Value->Shared->Prop} (hu:A.units+1 < cLine) (I:Inv X pins σ H s) (g:rH H a y (some v)) (ry:RelV y u) (h:∀ w' s',Inv X pins σ H s'->RelV v w'->Q w' s') :
  wpAny (model X.prog X.w) A (getItem (.ref a) u) Q E s:=by
 rcases g with ⟨kvs,k,e,ey,l⟩ | ⟨kvs,k,b,e,ey,eb,l⟩
 ·subst ey;obtain ⟨z,hd,vs,rel,dd⟩:=zZ I.hok e;obtain ⟨w',hw,rw'⟩:=kM.some_of (v:=v) (o:=valueAt vs k) (by rw [l];exact rel.val k);exact wpAny_getItem_of (zW ry) dd.mapOf hw (h w' _ (I.tok _) rw')
 ·subst ey;cases (show u=Value.ref b from ry)
  obtain ⟨z,hd,xs,rel,dd⟩:=zX I.hok e;obtain ⟨w',hw,rw'⟩:=kM.some_of (v:=v) (o:=(atKey xs k).map (·.2)) (by rw [l];exact rel.val k);obtain ⟨p,hp,hp2⟩:=Option.map_eq_some_iff.mp hw;refine wpAny_getItem_heap (tupleKind_room_in1 hu) (um I.hok eb) dd hp ?_;rw [hp2];exact h w' _ (I.tok _) rw'
theorem d_notIn {Q:Value->Shared->Prop} (hu:A.units+1 < cLine) (I:Inv X pins σ H s) (g:rH H a y o) (ry:RelV y u) (h:∀ s',Inv X pins σ H s'->Q (.bool (!o.isSome)) s') :
  wpAny (model X.prog X.w) A (compareOp .NotIn u (.ref a)) Q E s:=by
 rcases g with ⟨kvs,k,e,ey,l⟩ | ⟨kvs,k,b,e,ey,eb,l⟩
 ·subst ey;obtain ⟨z,hd,vs,rel,dd⟩:=zZ I.hok e;refine wpAny_notIn_of (zW ry) hd dd.mapOf ?_;rw [<- (rel.val k).isSome_eq,<- l];exact h _ (I.tok _)
 ·subst ey;cases (show u=Value.ref b from ry)
  obtain ⟨z,hd,xs,rel,dd⟩:=zX I.hok e;refine wpAny_notIn_heap (tupleKind_room_in1 hu) (um I.hok eb) hd dd ?_;have q:=(rel.val k).isSome_eq;rw [Option.isSome_map] at q;rw [<- q,<- l];exact h _ (I.tok _)
theorem Ad {h':Heap} {t':Nat} {ob:HO} (I:Inv X pins σ H s) (mu:Mut (H a)) (hs:Heap.SameBut a s.heap h') (he:∃ q,h'.get? a=some q) (new:cq X.prog X.w (upd H a ob) h' a ob) :
  Inv X pins σ (upd H a ob) {s with heap:=h',toks:=t' }:=
 I.write (x:=a) (e:=a) mu (.inl rfl) (λb q hb z=>(hs.2 b hb).trans z) he new
theorem dk_new {P:Program} {w:World} {H':Hp} {h':Heap} {kvs:List (Key×V)} {vs:List (Key×Value)} (z:kvs.length<=sizeLine) (hd:(a == sysModules)=false) (rel:KV kvs vs) (dd:h'.DictOf (dF P w) a vs) :
  cq P w H' h' a (.dK kvs):=⟨z,hd,vs,rel,dd⟩
theorem By {H':Hp} {Q:Unit->Shared->Prop} (hu:A.units+1 < cLine) (I:Inv X pins σ H s) (g:Fl H a y v H') (ry:RelV y u) (rv:RelV v r) (h:∀ s',Inv X pins σ H' s'->Q () s') :
  wpAny (model X.prog X.w) A (setItem (.ref a) u r) Q E s:=by
 rcases g with ⟨kvs,k,e,ey,l,eH⟩ | ⟨kvs,k,b,e,ey,eb,l,eH⟩
 ·subst ey eH;obtain ⟨z,hd,vs,rel,dd⟩:=dk_of I.hok e;have hz:vs.length<=sizeLine:=by rw [<- rel.length];exact z
  have hl:(putK kvs k v).length<=sizeLine:=by have:=oF kvs k v;omega
  refine wpAny_setItem_pairs (hsz:=hz) (zW ry) dd λh' dd' hs=>h _ ?_;have he:∃ q,h'.get? a=some q:=let ⟨q,_,_,hq,_⟩:=dd';⟨q,hq⟩;exact Ad I (by rw [e];exact True.intro) hs he (dk_new hl hd (rel.put k rv) dd')
 ·subst ey eH;cases (show u=Value.ref b from ry)
  obtain ⟨z,hd,xs,rel,dd⟩:=dt_of I.hok e;have hz:xs.length<=sizeLine:=by rw [<- Paired.length rel];exact z
  have hl:(putK kvs k v).length<=sizeLine:=by have:=oF kvs k v;omega
  refine wpAny_setItem_heap (hsz:=hz) (tupleKind_room_in1 hu) (um I.hok eb) dd λh' dd' hs=>h _ ?_;obtain ⟨q,es,ep,hq,h2,h3,h4,_,h5⟩:=dd';refine Ad I (by rw [e];exact True.intro) hs ⟨q,hq⟩ ⟨hl,hd,_,(rel.put k eb rv).keeps λc ys ec=>?_,q,es,ep,hq,h2,h3,h4,h5⟩;rw [aB (sA ec e (λz=>nomatch z))];exact ec
end
section
variable {X:Cx} {pins:List (Addr×Obj)} {σ:St} {H:Hp} {s:Shared} {a:Addr} {kvs:List (Key×V)} {k:Key} {u:Value} {A:Around} {E:Value->Shared->Prop}
end
def NoSl (i:Expr):Prop:=∀ ov iv,subscripted i false ov iv=operate [ov,iv] (getItem ov iv)
theorem subD_of {prog:Program} {w:World} {A:Around} {E:Value->Shared->Prop} {s:Shared} {env:Env} {value slice:Expr} {pos:Pos} {T id:String} {Q:Value->Shared->Prop}
  (hl:typeLookup (.type T) "__getitem__"=pure (some (.builtin id))) (hs:NoSl slice)
  (h:wpAny (model prog w) A (eval value env) (λo s₁=>wpAny (model prog w) A (eval slice env) (λi s₂=>s₂.TypeIs o T/\wpAny (model prog w) A (getItem o i) Q E s₂) E s₁) E s) :
  wpAny (model prog w) A (eval (.Subscript value slice pos) env) Q E s:=by
 refine Subscript_ (wpAny_mono h (λo s₁ h₁=>wpAny_mono h₁ (λi s₂ h₂=>?_) λ_ _ x=>x) λ_ _ x=>x);obtain ⟨hT,h₂⟩:=h₂;unfold subscriptTail;refine wpAny_bind ?_;rw [getitemInPython_of_ne hT.not_modules];refine wpAny_bind (wpAny_specialOf hT hl ?_)
 have fin:wpAny (model prog w) A (subscripted slice false o i) (λr s₃=>wpAny (model prog w) A (letTemporaryGo value o r >>= λ_=>pure r) Q E s₃) E s₂:=by
  rw [hs o i];exact wpAny_operating (wpAny_mono h₂ (λr s₃ h₃=>wpAny_bind (wpAny_letTemporaryGo (wpAny_pure h₃))) λ_ _ x=>x)
 first
  | exact wpAny_pure (wpAny_bind fin)
  | exact wpAny_bind (wpAny_pure (wpAny_bind fin))
  | exact wpAny_bind fin
theorem wJ {X:Cx} {pins:List (Addr×Obj)} {σ:St} {H:Hp} {s:Shared} {a:Addr} {y:V} {o:Option V} (I:Inv X pins σ H s) (g:rH H a y o):s.TypeIs (.ref a) "dict":=by
 rcases g with ⟨kvs,k,e,_,_⟩ | ⟨kvs,k,b,e,_,_,_⟩
 ·obtain ⟨_,_,vs,_,dd⟩:=zZ I.hok e;exact dd.typeIs
 ·obtain ⟨_,_,xs,_,dd⟩:=zX I.hok e;exact dd.typeIs
def tDGet (td ty:TE):TE:=λσ H Q=>td σ H λx H1=>ty σ H1 λy H2=>∃ a v,x=.ref a/\rH H2 a y (some v)/\Q v H2
def tDNotIn (ty td:TE):TE:=λσ H Q=>ty σ H λy H1=>td σ H1 λx H2=>∃ a o,x=.ref a/\rH H2 a y o/\Q (.bl (!o.isSome)) H2
def sDPut (td ty tv:TE):TS:=λD σ H=>tv σ H λv H1=>td σ H1 λx H2=>ty σ H2 λy H3=>∃ a H4,x=.ref a/\Fl H3 a y v H4/\D.nx σ H4
section
variable {X:Cx} {o i e value:Expr} {pos pos' tpos:Pos} {td ty tv:TE}
theorem pe_dget (hu:X.A.units+1 < cLine) (ho:PE X o td) (hi:PE X i ty) (hs:NoSl i):PE X (.Subscript o i pos) (tDGet td ty):=by
 intro pins s σ H Q I h;refine subD_of PySem.F.slot_dict_getitem.lookup hs (thn (ho pins s σ H _ I h) λu s1 zz=>?_);obtain ⟨x,H1,I1,rx,q1⟩:=zz;refine thn (hi pins s1 σ H1 _ I1 q1) λiv s2 zz=>?_;obtain ⟨y,H2,I2,ry,a,v,ex,g,q2⟩:=zz;subst ex;obtain rfl:u=Value.ref a:=rx;exact ⟨wJ I2 g,Bz hu I2 g ry λw' s3 I3 rw'=>⟨v,H2,I3,rw',q2⟩⟩
theorem AL (hu:X.A.units+1 < cLine) (hi:PE X i ty) (ho:PE X o td):PC X .NotIn i o (tDNotIn ty td):=by
 intro pins s σ H Q I h;refine thn (hi pins s σ H _ I h) λiv s1 zz=>?_;obtain ⟨y,H1,I1,ry,q1⟩:=zz;refine thn (ho pins s1 σ H1 _ I1 q1) λu s2 zz=>?_;obtain ⟨x,H2,I2,rx,a,ov,ex,g,q2⟩:=zz;subst ex;obtain rfl:u=Value.ref a:=rx;exact d_notIn hu I2 g ry λs3 I3=>⟨.bl (!ov.isSome),H2,I3,rfl,q2⟩
theorem ps_dput (hu:X.A.units+1 < cLine) (ho:PE X o td) (hi:PE X i ty) (hv:PE X value tv) (hs:swapsWith value (some (.Subscript o i pos')) pos.line X.env=pure false) :
  PS X (.Assign [.Subscript o i pos'] value pos) (sDPut td ty tv):=by
 intro pins s σ H D I h;refine wpAny_Assign_Subscript (thn (hv pins s σ H _ I h) λr s1 zz=>?_) hs;obtain ⟨v,H1,I1,rv,q1⟩:=zz;refine thn (ho pins s1 σ H1 _ I1 q1) λu s2 zz=>?_;obtain ⟨x,H2,I2,rx,q2⟩:=zz;refine thn (hi pins s2 σ H2 _ I2 q2) λiv s3 zz=>?_;obtain ⟨y,H3,I3,ry,a,H4,ex,g,q3⟩:=zz;subst ex;obtain rfl:u=Value.ref a:=rx;exact By hu I3 g ry rv λs4 I4=>⟨σ,H4,I4,q3⟩
end
theorem EL {P:Program} {w:World} {H:Hp} (h:Heap) (hb:sysModules < h.objs.size):cq P w H (h.push {cls:=.type "dict",data:=.dict #[] }) h.objs.size (.dK []):=
 ⟨Nat.zero_le _,beq_eq_false_iff_ne.mpr (Ne.symm (Nat.ne_of_lt hb)),[],.nil,Heap.DictOf.new h⟩
theorem EK {P:Program} {w:World} {H:Hp} (h:Heap) (hb:sysModules < h.objs.size):cq P w H (h.push {cls:=.type "dict",data:=.dict #[] }) h.objs.size (.dT []):=
 ⟨Nat.zero_le _,beq_eq_false_iff_ne.mpr (Ne.symm (Nat.ne_of_lt hb)),[],.nil,_,#[],0,Heap.get?_push_size _ rfl,⟨rfl,rfl,rfl⟩,rfl,rfl,List.nodup_nil⟩
def Cj:TE:=λ_ H Q=>∀ p,H p=none->Q (.ref p) (upd H p (.dK []))
def tDNewT:TE:=λ_ H Q=>∀ p,H p=none->Q (.ref p) (upd H p (.dT []))
section
variable {X:Cx} {pos:Pos}
theorem Dv:PE X (.Dict [] [] pos) Cj:=λpins s σ H Q I h =>
 wpAny_Dict_empty ⟨.ref s.heap.objs.size,_,I.laid (a:=s.heap.objs.size) (o:=.dK []) (t':=s.toks) (λ_ _ q=>Heap.get?_push_of_some _ q) (Nat.le_refl _) (EL s.heap I.big),rfl,h _ (I.hok.fresh (Nat.le_refl _))⟩
theorem Du:PE X (.Dict [] [] pos) tDNewT:=λpins s σ H Q I h =>
 wpAny_Dict_empty ⟨.ref s.heap.objs.size,_,I.laid (a:=s.heap.objs.size) (o:=.dT []) (t':=s.toks) (λ_ _ q=>Heap.get?_push_of_some _ q) (Nat.le_refl _) (EK s.heap I.big),rfl,h _ (I.hok.fresh (Nat.le_refl _))⟩
end
section
variable {X:Cx} {pins:List (Addr×Obj)} {σ:St} {H:Hp} {s:Shared} {a:Addr} {y d:V} {u r:Value} {o:Option V} {A:Around} {E:Value->Shared->Prop}
end
section
variable {X:Cx} {o e f:Expr} {apos cpos:Pos} {td ty tx:TE}
end
section
variable {X:Cx} {pins:List (Addr×Obj)} {σ:St} {H:Hp} {s:Shared} {a:Addr} {kvs:List (Key×V)} {A:Around} {E:Value->Shared->Prop}
end
section
variable {X:Cx} {pins:List (Addr×Obj)} {σ:St} {H:Hp} {s:Shared} {a:Addr} {y:V} {u:Value} {A:Around} {E:Value->Shared->Prop}
end
section
variable {prog:Program} {w:World} {A:Around} {E:Value->Shared->Prop} {s:Shared} {R:Result->Shared->Prop} {l it S:Addr} {items:Array Value}
end
structure aQ (P:Program) (w:World) (K:W.Frag) (mg:Str->Option Value) (base:Heap) (C:Addr) (m:Str) (k:Nat) (ps:List Str) (sp:Sp):Prop where
 cl:Cls K C
 ex:∃(f:Addr) (fd:FuncData),Meth K C m f/\mP P w K mg base CX0 k f fd ps sp/\Binds K fd ps []
section
variable {X:Cx} {o e:Expr} {es:List Expr} {ta te:TE} {t:TA} {m x:Str} {k:Nat} {p pos apos p2 pos2:Pos} {C:Addr}
def Ci (X:Cx) (k:Nat) (m:Str) (ta:TE) (t:TA):TE:=λσ H Q=>ta σ H λx H1=>∃(a C dx:Addr) (fs:List (Str×V)) (ps:List Str) (sp:Sp),x=.ref a/\H1 a=some (.ins C dx fs)/\fs.lookup m=none/\
 aQ X.prog X.w X.K X.mg X.base C m k ps sp/\t σ H1 λvs H2=>sp (.ref a::vs) H2 Q E0
theorem bF {pl:Sem Bool} (he:PE X o ta) (hr:dj k X.A)
  (ht:eval (.Call (.Attribute o m apos) [] [] pos) X.env=(do
   let ov <- eval o X.env
   standAt apos.atName
   let (f,first) <- holding [ov] (getMethod ov m pl)
   callWith pos f first (backTo pos (starEach [] X.env)) (backToKw pos (keywordEach [] X.env))):=by rfl) :
  PE X (.Call (.Attribute o m apos) [] [] pos) (Ci X k m ta jE):=by
 intro pins s σ H Q I h;refine PySem.W.methodCall_KW (pl:=pl) (thn (he pins s σ H _ I h) λu s1 zz=>?_) ht;obtain ⟨y,H1,I1,ry,a,C,dx,fs,ps,sp,ey,ea,lo,M,q⟩:=zz;subst ey;have eu:u=Value.ref a:=ry;subst eu;obtain ⟨f,fd,hm,G,hb⟩:=M.ex;refine qJ I1 ea M.cl hm lo ?_;exact PySem.W.callWith_K0 (first:=[.ref a]) I1.kIn hm.kp (tJ (us:=[.ref a]) (vs:=[.ref a]) G hr hb .nil vS I1 (.cons rfl .nil) q)
theorem qp {pl:Sem Bool} (he:PE X o ta) (hr:dj k X.A) (ha:PA X (e::es) t)
  (hst:starEach (e::es) X.env=(false,eval e X.env)::starEach es X.env:=by rfl) (hpl:(backTo pos (starEach es X.env)).any (·.1)=false:=by rfl)
  (ht:eval (.Call (.Attribute o m apos) (e::es) [] pos) X.env=(do
   let ov <- eval o X.env
   standAt apos.atName
   let (f,first) <- holding [ov] (getMethod ov m pl)
   callWith pos f first (backTo pos (starEach (e::es) X.env)) (backToKw pos (keywordEach [] X.env))):=by rfl) :
  PE X (.Call (.Attribute o m apos) (e::es) [] pos) (Ci X k m ta t):=by
 intro pins s σ H Q I h;refine PySem.W.methodCall_KW (pl:=pl) (thn (he pins s σ H _ I h) λu s1 zz=>?_) ht;obtain ⟨y,H1,I1,ry,a,C,dx,fs,ps,sp,ey,ea,lo,M,q⟩:=zz;subst ey;have eu:u=Value.ref a:=ry;subst eu;obtain ⟨f,fd,hm,G,hb⟩:=M.ex;refine qJ I1 ea M.cl hm lo ?_;refine PySem.W.callWith_K (first:=[.ref a]) (h₀:=X.base) I.ok.mod.kin hm.kp (thn (ha pos pins s1 σ H1 _ I1 q) λus s2 zz=>?_) hst hpl;obtain ⟨vs,H2,I2,r2,q2⟩:=zz;refine ⟨I2.kIn,?_⟩;refine tJ (us:=.ref a::us) (vs:=.ref a::vs) (dvs:=[]) G hr hb .nil vS I2 (.cons rfl r2) ?_;rw [List.append_nil];exact q2
structure Mk0 (K:W.Frag) (C:Addr):Prop where
 makes:PySem.W.makesIn K C=true
 init:PySem.W.findIn K (.ref C) "__init__"=some (some (.builtin "object.__init__"))
 kp:PySem.W.keepIn K (.ref C)=true
def tMakeN (C:Addr):TE:=λ_ H Q=>∀ a dx,H a=none->H dx=none->dx≠a->Q (.ref a) (upd (upd H dx (.own a)) a (.ins C dx []))
theorem vQ (M:Mk0 X.K C) (hg:Gl X x) (hm:X.mg x=some (.ref C)) (hdb:(x == ("__debug__":Str))=false:=by decide):PE X (.Call (.Name x p) [] [] pos) (tMakeN C):=by
 intro pins s σ H Q I h;refine wpAny_Call_Name_kw (gx I hg hm ?_ hdb);refine PySem.W.callWith_K0 I.kIn M.kp (wpAny_call ?_);have Y:=PySem.W.makes_of (M:=model X.prog X.w) I.kIn M.makes;refine Bk I.kIn M.makes M.init (λself=>PySem.W.Looks.of_pure (PySem.W.oi_bind self)) ?_;have I2:=Inv.made (C:=C) I
 have e2:((s.heap.push PySem.W.emptyDict).push (PySem.W.instObj C s.heap.objs.size)).get? (s.heap.objs.size+1)=some (PySem.W.instObj C s.heap.objs.size):=by
  have z:=Heap.get?_push_size (s.heap.push PySem.W.emptyDict) (o:=PySem.W.instObj C s.heap.objs.size) rfl
  rwa [Heap.size_push] at z
 have t1:PySem.W.Looks (model X.prog X.w) ((s.heap.push PySem.W.emptyDict).push (PySem.W.instObj C s.heap.objs.size)) (typeOf (.ref (s.heap.objs.size+1))) (.ref C):=(PySem.W.Looks.ld e2).andThen .now
 have t2:PySem.W.Looks (model X.prog X.w) ((s.heap.push PySem.W.emptyDict).push (PySem.W.instObj C s.heap.objs.size)) (isInstance (.ref (s.heap.objs.size+1)) (.type "object")) true:=
  t1.andThen (Y.top.keeps λb q z=>Heap.get?_push_of_some _ (Heap.get?_push_of_some _ z))
 have z:=h (s.heap.objs.size+1) s.heap.objs.size (I.hok.fresh (Nat.le_succ _)) (I.hok.fresh (Nat.le_refl _)) (Nat.ne_of_lt (Nat.lt_succ_self _));refine codeAny_call_builtin PySem.W.oi_plain PySem.W.entry_oi (PySem.W.check_slot (i:="object.__init__") (owner:="object") (n:="__init__") (self:=.ref (s.heap.objs.size+1)) (rest:=[]) (kw:=[]) PySem.W.oi_kind PySem.W.oi_split t2 (PySem.W.oi_args _) ?_);rw [PySem.W.oi_run];exact wpAny_pure (And.intro rfl ⟨V.ref (s.heap.objs.size+1),_,I2,rfl,z⟩)
end
end L2
namespace Mine
open PySem
inductive W5 where
 | more | less | greater | lesser | leads
def W5.str:W5->Str
 | .more=>"more" | .less=>"less" | .greater=>"greater" | .lesser=>"lesser" | .leads=>"leads"
inductive Tr where
 | never | always | lp | lq
 | no (t:Tr)
 | fold (w:W5) (a b:Tr)
def Tr.size:Tr->Nat
 | .no t=>t.size+1
 | .fold _ a b=>a.size+b.size+1
 | _=>1
theorem Tr.size_pos:∀ t:Tr,1<=t.size
 | .never | .always | .lp | .lq=>Nat.le_refl _
 | .no _=>Nat.le_add_left _ _
 | .fold _ _ _=>Nat.le_add_left _ _
def W5.worth (w:W5) (n a b:Int):Int:=match w with
 | .more=>min (a+b) n
 | .less=>max (a+b - n) 0
 | .greater=>max a b
 | .lesser=>min a b
 | .leads=>min (n - a+b) n
structure Alg (α:Type) where
 leaf:Tr->α
 no:α->α
 fold:W5->α->α->α
def Alg.val {α:Type} (G:Alg α):Tr->α
 | .no t=>G.no (G.val t)
 | .fold w a b=>G.fold w (G.val a) (G.val b)
 | t=>G.leaf t
def Tr.post:Tr->List Tr
 | .no t=>t.post++[.no t]
 | .fold w a b=>a.post++b.post++[.fold w a b]
 | t=>[t]
theorem fB:∀ t:Tr,t.post.length=t.size
 | .no t=>by simp [Tr.post,Tr.size,fB t]
 | .fold w a b=>by simp [Tr.post,Tr.size,fB a,fB b];omega
 | .never=>rfl
 | .always=>rfl
 | .lp=>rfl
 | .lq=>rfl
def Alg.step {α:Type} (G:Alg α):List α->Tr->Option (List α)
 | a::R,.no _=>some (G.no a::R)
 | b::a::R,.fold w _ _=>some (G.fold w a b::R)
 | [],.no _=>none
 | [],.fold _ _ _=>none
 | [_],.fold _ _ _=>none
 | R,t=>some (G.leaf t::R)
def Alg.run {α:Type} (G:Alg α):List α->List Tr->Option (List α)
 | R,[]=>some R
 | R,t::r=>(G.step R t).bind λR'=>G.run R' r
theorem mn {α:Type} (G:Alg α):∀(t:Tr) (R:List α) (r:List Tr),G.run R (t.post++r)=G.run (G.val t::R) r
 | .no t,R,r=>by
  show G.run R (t.post++[.no t]++r)=_;rw [List.append_assoc,mn G t R];cases R <;> rfl
 | .fold w a b,R,r=>by
  show G.run R (a.post++b.post++[.fold w a b]++r)=_;rw [List.append_assoc,List.append_assoc,mn G a R,mn G b _];cases R <;> rfl
 | .never,R,r=>by cases R with
  | nil=>rfl
  | cons a R=>cases R <;> rfl
 | .always,R,r=>by cases R with
  | nil=>rfl
  | cons a R=>cases R <;> rfl
 | .lp,R,r=>by cases R with
  | nil=>rfl
  | cons a R=>cases R <;> rfl
 | .lq,R,r=>by cases R with
  | nil=>rfl
  | cons a R=>cases R <;> rfl
theorem run_all {α:Type} (G:Alg α) (t:Tr):G.run [] t.post=some [G.val t]:=by
 have h:=mn G t [] [];rw [List.append_nil] at h;rw [h];rfl
def hV (n x y:Int):Alg Int where
 leaf:=λt=>match t with
  | .always=>n
  | .lp=>x
  | .lq=>y
  | _=>0
 no:=λa=>n - a
 fold:=λw a b=>w.worth n a b
abbrev Tr.worth (n x y:Int) (t:Tr):Int:=(hV n x y).val t
end Mine
namespace L2
open PySem PySem.Spec PyProof.Rows
mutual
def Dat (K:W.Frag) (H:Hp):PyData->V->Prop
 | .none,v=>v=.non
 | .bool b,v=>v=.bl b
 | .int i,v=>v=.int i
 | .str x,v=>v=.str x
 | .tuple ds,v=>∃ a xs,v=.ref a/\SqT K H a xs/\DatAll K H ds xs
 | .list _,_=>False
 | .dict _,_=>False
def DatAll (K:W.Frag) (H:Hp):List PyData->List V->Prop
 | [],xs=>xs=[]
 | d::ds,xs=>∃ x r,xs=x::r/\Dat K H d x/\DatAll K H ds r
end
structure Tst (H H':Hp):Prop where
 t:∀ b xs,H b=some (.tup xs)->H' b=some (.tup xs)
 f:∀ b o u,H b=some (.frz o u)->H' b=some (.frz o u)
theorem aH.ts {H H':Hp} (e:aH H H'):Tst H H':=⟨λb xs h=>e b _ h,λb o u h=>e b _ h⟩
theorem dM {H:Hp} {l:Addr} {xs:List V} {o:HO} (e:H l=some (.lst xs)):Tst H (upd H l o):=
 ⟨λb ys h=>by rw [aB (sA h e (by intro z;cases z))];exact h,λb o u h=>by rw [aB (sA h e (by intro z;cases z))];exact h⟩
theorem SqT.ts {K:W.Frag} {H H':Hp} {a:Addr} {xs:List V} (h:SqT K H a xs) (e:Tst H H'):SqT K H' a xs:=by
 rcases h with (h | ⟨o,h⟩) | h
 ·exact .inl (.inl (e.t _ _ h))
 ·exact .inl (.inr ⟨o,e.f _ _ _ h⟩)
 ·exact .inr h
mutual
theorem Dat.ts {K:W.Frag} {H H':Hp} (e:Tst H H'):∀{d:PyData} {v:V},Dat K H d v->Dat K H' d v
 | .none,_,h=>h
 | .bool _,_,h=>h
 | .int _,_,h=>h
 | .str _,_,h=>h
 | .tuple _,_,⟨a,xs,h1,h2,h3⟩=>⟨a,xs,h1,h2.ts e,DatAll.ts e h3⟩
 | .list _,_,h=>h
 | .dict _,_,h=>h
theorem DatAll.ts {K:W.Frag} {H H':Hp} (e:Tst H H'):∀{ds:List PyData} {xs:List V},DatAll K H ds xs->DatAll K H' ds xs
 | [],_,h=>h
 | _::_,_,⟨x,r,h1,h2,h3⟩=>⟨x,r,h1,Dat.ts e h2,DatAll.ts e h3⟩
end
theorem DatAll.len {K:W.Frag} {H:Hp}:∀{ds:List PyData} {xs:List V},DatAll K H ds xs->xs.length=ds.length
 | [],_,h=>by subst h;rfl
 | _::_,_,⟨x,r,h1,_,h3⟩=>by subst h1;simp [h3.len]
theorem DatAll.get {K:W.Frag} {H:Hp}:∀{ds:List PyData} {xs:List V} {i:Nat} {d:PyData},DatAll K H ds xs->ds[i]?=some d->∃ x,xs[i]?=some x/\Dat K H d x
 | [],_,_,_,_,e=>by cases e
 | _::_,_,0,_,⟨x,r,h1,h2,_⟩,e=>by subst h1;cases e;exact ⟨x,rfl,h2⟩
 | _::_,_,i+1,_,⟨x,r,h1,_,h3⟩,e=>by
  subst h1;obtain ⟨y,e1,e2⟩:=h3.get (i:=i) (by simpa using e);exact ⟨y,by simpa using e1,e2⟩
theorem DatAll.get' {K:W.Frag} {H:Hp} {ds:List PyData} {xs:List V} {i:Nat} {x:V} (h:DatAll K H ds xs) (e:xs[i]?=some x):∃ d,ds[i]?=some d/\Dat K H d x:=by
 have hl:=h.len;have hi:=(List.getElem?_eq_some_iff.mp e).1;have hd:ds[i]?=some (ds[i]'(by omega)):=List.getElem?_eq_getElem (by omega);obtain ⟨y,e1,e2⟩:=h.get hd;rw [e] at e1;cases e1
 exact ⟨_,hd,e2⟩
theorem DatAll.append {K:W.Frag} {H:Hp}:∀{ds es:List PyData} {xs ys:List V},DatAll K H ds xs->DatAll K H es ys->DatAll K H (ds++es) (xs++ys)
 | [],_,_,_,h,g=>by subst h;exact g
 | _::_,_,_,_,⟨x,r,h1,h2,h3⟩,g=>by subst h1;exact ⟨x,_,rfl,h2,h3.append g⟩
theorem DatAll.snoc {K:W.Frag} {H:Hp} {ds:List PyData} {xs:List V} {d:PyData} {x:V} (h:DatAll K H ds xs) (g:Dat K H d x):DatAll K H (ds++[d]) (xs++[x]):=h.append ⟨x,[],rfl,g,rfl⟩
mutual
theorem Dat.reads {X:Cx} {pins:List (Addr×Obj)} {σ:St} {H:Hp} {s:Shared} (I:Inv X pins σ H s):∀(d:PyData) {v:V} {u:Value},Dat X.K H d v->RelV v u->∃ as,Reads s.heap u d as
 | .none,_,_,h,r=>by
  cases (show _=V.non from h)
  cases (show _=Value.none from r)
  exact ⟨[],.none⟩
 | .bool b,_,_,h,r=>by
  cases (show _=V.bl b from h)
  cases (show _=Value.bool b from r)
  exact ⟨[],.bool b⟩
 | .int i,_,_,h,r=>by
  cases (show _=V.int i from h)
  obtain ⟨t,q⟩:=(show ∃ t,_=Value.int i t from r);cases q
  exact ⟨[],.int i t⟩
 | .str x,_,_,h,r=>by
  cases (show _=V.str x from h)
  obtain ⟨t,q⟩:=(show ∃ t,_=Value.str x t from r);cases q
  exact ⟨[],.str x t⟩
 | .tuple ds,_,_,⟨a,xs,h1,h2,h3⟩,r=>by
  cases h1
  cases (show _=Value.ref a from r)
  obtain ⟨its,rv,⟨o,ho,hc,n,hd⟩,_⟩:=I.tuple h2;obtain ⟨as,ra⟩:=DatAll.reads I ds h3 rv;exact ⟨as,.tuple ho hc hd (by simpa using ra)⟩
 | .list _,_,_,h,_=>False.elim h
 | .dict _,_,_,h,_=>False.elim h
theorem DatAll.reads {X:Cx} {pins:List (Addr×Obj)} {σ:St} {H:Hp} {s:Shared} (I:Inv X pins σ H s):∀(ds:List PyData) {xs:List V} {us:List Value},DatAll X.K H ds xs->Vals xs us->∃ as,ReadsAll s.heap us ds as
 | [],_,_,h,r=>by
  cases (show _=([]:List V) from h)
  cases r
  exact ⟨[],.nil⟩
 | d::ds,_,_,⟨x,t,h1,h2,h3⟩,r=>by
  cases h1
  cases r with
  | cons r1 r2 =>
   obtain ⟨as,a1⟩:=Dat.reads I d h2 r1;obtain ⟨bs,b1⟩:=DatAll.reads I ds h3 r2;exact ⟨as++bs,.cons a1 b1⟩
end
def DatX (K:W.Frag) (H:Hp) (d:PyData) (v:V):Prop:=Dat K H d v\/∃ ds a xs,d=.list ds/\v=.ref a/\SqL K H a xs/\DatAll K H ds xs
theorem DatX.reads {X:Cx} {pins:List (Addr×Obj)} {σ:St} {H:Hp} {s:Shared} {d:PyData} {v:V} {u:Value} (I:Inv X pins σ H s) (h:DatX X.K H d v) (r:RelV v u):∃ as,Reads s.heap u d as:=by
 rcases h with h | ⟨ds,a,xs,rfl,rfl,h2,h3⟩
 ·exact Dat.reads I d h r
 ·cases (show _=Value.ref a from r)
  obtain ⟨its,rv,⟨o,n,ho,hc,_,hd⟩,_⟩:=I.list h2;obtain ⟨as,ra⟩:=DatAll.reads I ds h3 rv;exact ⟨a::as,.list ho hc hd (by simpa using ra)⟩
section
variable {X:Cx}
def rEqD (K:W.Frag):R2:=λx y H Q=>∃ d e,DatX K H d x/\DatX K H e y/\SeqAt.shaped d=true/\SeqAt.shaped e=true/\Q (.bl (PyData.eqv d e)) H
theorem DB (hu:X.A.units+64 < cLine):OpR X (compareOp .Eq) (rEqD X.K):=by
 intro pins s σ H x y v u Q I rx ry h;obtain ⟨d,e,hd,he,sd,se,q⟩:=h;obtain ⟨as,ra⟩:=hd.reads I rx;obtain ⟨bs,rb⟩:=he.reads I ry;exact eq_dataH ra rb sd se hu ⟨.bl _,H,I,rfl,q⟩
theorem BE:gR X (.builtin "isinstance") (λxs H Q=>∃(a:Addr) (ys:List V) (c:V) (cv:Value) (k:Bool),xs=[.ref a,c]/\(∀ u,RelV c u->u=cv)/\SqT X.K H a ys/\PySem.W.kitOne X.K (.type "tuple") cv=some k/\Q (.bl k) H):=by
 intro pins s σ H xs us Q I r h;obtain ⟨a,ys,c,cv,k,rfl,hc,hq,kt,q⟩:=h;obtain ⟨u,w',rfl,r1,r2⟩:=vals2 r;have e:=hc _ r2;subst e;cases (show u=Value.ref a from r1)
 obtain ⟨its,rv,⟨o,h1,h2,_⟩,_⟩:=I.tuple hq;exact PySem.W.kia_one PySem.W.kitx_tuple I.kIn ⟨o,h1,h2⟩ kt (λz=>nomatch z) λtk=>⟨.bl k,H,I.tok tk,rfl,q⟩
theorem wV {bs:List Bool}:∀{us:List Value},Vals (bs.map V.bl) us->LSm.BoolsAre us bs:=by
 induction bs with
 | nil=>intro us r;cases r;exact .nil
 | cons b r ih =>
  intro us q;cases q with
  | cons a t =>
   cases (show _=Value.bool b from a)
   exact .cons b (ih t)
theorem mH (hc:X.calm=true):gR X (.builtin "all") (λxs H Q=>∃(l:Addr) (bs:List Bool),xs=[.ref l]/\SqL X.K H l (bs.map V.bl)/\Q (.bl (bs.all id)) H):=by
 intro pins s σ H xs us Q I r h;obtain ⟨l,bs,rfl,hq,q⟩:=h;obtain ⟨u,rfl,rx⟩:=vals1 r;cases rx
 obtain ⟨its,rv,pl,_⟩:=I.list hq;have hl:=pl.isList;have hb:=wV rv;have hlt:l < s.heap.objs.size:=by obtain ⟨_,e,_⟩:=hl;exact Heap.lt_size e
 refine call_all_walk (wpAny_pyIter_list hl ?_)
 refine ⟨s.heap.objs.size,[s.heap.objs.size,l],[s.heap.objs.size],its.toArray.size,_,_,λi=>(bs[i]?).getD true,rfl,Walks.list (A:=X.A.in1) (I.ok.hd hc) _ l (Nat.ne_of_lt hlt) its.toArray,
  ⟨⟨_,Heap.get?_push_size _ rfl,rfl,rfl⟩,hl.push _⟩,λi v s' Q' E' hP hQ=>?_,λh' tk hk=>?_⟩
 ·obtain ⟨b,e,rfl⟩:=hb.get i v (by simpa using hP);simp only [e,Option.getD_some] at hQ;exact wpAny_truthy_bool hQ
 ·have e:((List.range its.toArray.size).all λi=>(bs[i]?).getD true)=bs.all id:=by
   rw [List.size_toArray,hb.length];exact LSm.range_all bs
  rw [e];exact ⟨.bl _,H,I.kept (t':=tk) (LSm.kept_iter hk),rfl,q⟩
theorem wU (hc:X.calm=true):gR X (.builtin "any") (λxs H Q=>∃(l:Addr) (bs:List Bool),xs=[.ref l]/\SqL X.K H l (bs.map V.bl)/\Q (.bl (bs.any id)) H):=by
 intro pins s σ H xs us Q I r h;obtain ⟨l,bs,rfl,hq,q⟩:=h;obtain ⟨u,rfl,rx⟩:=vals1 r;cases rx
 obtain ⟨its,rv,pl,_⟩:=I.list hq;have hl:=pl.isList;have hb:=wV rv;have hlt:l < s.heap.objs.size:=by obtain ⟨_,e,_⟩:=hl;exact Heap.lt_size e
 refine call_any_walk (wpAny_pyIter_list hl ?_)
 refine ⟨s.heap.objs.size,[s.heap.objs.size,l],[s.heap.objs.size],its.toArray.size,_,_,λi=>(bs[i]?).getD false,rfl,Walks.list (A:=X.A.in1) (I.ok.hd hc) _ l (Nat.ne_of_lt hlt) its.toArray,
  ⟨⟨_,Heap.get?_push_size _ rfl,rfl,rfl⟩,hl.push _⟩,λi v s' Q' E' hP hQ=>?_,λh' tk hk=>?_⟩
 ·obtain ⟨b,e,rfl⟩:=hb.get i v (by simpa using hP);simp only [e,Option.getD_some] at hQ;exact wpAny_truthy_bool hQ
 ·have e:((List.range its.toArray.size).any λi=>(bs[i]?).getD false)=bs.any id:=by
   rw [List.size_toArray,hb.length];exact LSm.range_any bs
  rw [e];exact ⟨.bl _,H,I.kept (t':=tk) (LSm.kept_iter hk),rfl,q⟩
end
section
variable {X:Cx} {K:W.Frag}
theorem gY (e:X.K=K):IxR X (rIxT K):=e ▸ aL
theorem qG (e:X.K=K):IxR X (rIxL K):=e ▸ bY
theorem BF (e:X.K=K):gR X (.builtin "isinstance") (λxs H Q=>∃(y:V) (c:V) (cv t:Value) (k:Bool),xs=[y,c]/\(∀ u,RelV c u->u=cv)/\kg K H y t/\PySem.W.kitOne K t cv=some k/\Q (.bl k) H):=e ▸ qV
theorem op_eqDK (e:X.K=K) (hu:X.A.units+64 < cLine):OpR X (compareOp .Eq) (rEqD K):=e ▸ DB hu
end
structure eG (K:W.Frag) (mg:Str->Option Value) (x:Str) (ns:List Int):Prop where
 ex:∃ a,mg x=some (.ref a)/\∀ H,SqT K H a (ns.map V.int)
theorem iM {K:W.Frag} {h:Heap} {mg:Str->Option Value} {x:Str} {a:Addr} {od:Option Addr} {its:Array Value} {n:Nat} {osl:Array (Option Value)} {ns:List Int} (X:K.In h) (G:h.Ns mainGlobals mg)
  (e:PySem.W.nsIn K mainGlobals x=some (some (.ref a))) (l:K.lookup a=some ⟨.type "tuple",od,.seq its n,osl⟩) (hz:its.size<=sizeLine) (v:Vals (ns.map V.int) its.toList):eG K mg x ns:=
 ⟨a,PySem.W.mg_of X G e,λ_=>.inr ⟨_,its,n,l,rfl,rfl,hz,v⟩⟩
theorem As {K:W.Frag} {h:Heap} {mg:Str->Option Value} {x:Str} {v:Value} {n:Int} (X:K.In h) (G:h.Ns mainGlobals mg) (e:PySem.W.nsIn K mainGlobals x=some (some v)) (q:∃ t,v=.int n t):∃ t,mg x=some (.int n t):=by
 obtain ⟨t,rfl⟩:=q;exact ⟨t,PySem.W.mg_of X G e⟩
end L2
namespace Mine
namespace Lo
def gc (a b:Int):Int:=(Int.gcd a b:Nat)
theorem sL (a b:Int):0<=gc a b:=Int.natCast_nonneg _
theorem yo {a b:Int} (h:b≠0):0 < gc a b:=by
 have:=Int.gcd_pos_of_ne_zero_right a h;unfold gc;omega
theorem gc_zero {a:Int} (h:0<=a):gc a 0=a:=by
 unfold gc;rw [Int.gcd_zero_right];omega
theorem Bw (a b:Int):gc a.natAbs b.natAbs=gc a b:=by
 unfold gc Int.gcd;simp
theorem gc_turn (g l:Int):gc l (g.fmod l)=gc g l:=by
 unfold gc;congr 1;rw [Int.fmod_def];rw [Int.gcd_comm g l];have:g - l*g.fdiv l=g+l*(-(g.fdiv l)):=by rw [Int.mul_neg];omega
 rw [this];exact Int.gcd_add_mul_left_right ..
theorem dQ (a b:Int):gc a b∣a:=Int.gcd_dvd_left ..
theorem dW (a b:Int):gc a b∣b:=Int.gcd_dvd_right ..
def sg (t b:Int):Int:=if b < 0 then -(gc t b) else gc t b
def rz (t b:Int):Int:=t.fdiv (sg t b)
def rA (t b:Int):Int:=b.fdiv (sg t b)
theorem rS {t b:Int} (h:b≠0):sg t b≠0:=by
 have:=yo (a:=t) h;unfold sg;split <;> omega
theorem ve (t b:Int):sg t b∣t:=by
 unfold sg;split
 ·exact Int.neg_dvd.mpr (dQ t b)
 ·exact dQ t b
theorem vg (t b:Int):sg t b∣b:=by
 unfold sg;split
 ·exact Int.neg_dvd.mpr (dW t b)
 ·exact dW t b
theorem zR (t b:Int):sg t b*rz t b=t:=by
 unfold rz;rw [Int.fdiv_eq_ediv_of_dvd (ve t b)];exact Int.mul_ediv_cancel' (ve t b)
theorem zU (t b:Int):sg t b*rA t b=b:=by
 unfold rA;rw [Int.fdiv_eq_ediv_of_dvd (vg t b)];exact Int.mul_ediv_cancel' (vg t b)
theorem yp (f t b:Int):gc (f*t) (f*b)=f.natAbs*gc t b:=by
 unfold gc;rw [Int.gcd_mul_left];rfl
theorem ja {s x n:Int} (hs:s≠0) (e:s*x=n):x.natAbs<=n.natAbs:=by
 rw [<- e,Int.natAbs_mul];have:1<=s.natAbs:=by omega
 exact Nat.le_mul_of_pos_left _ this
theorem zQ {t b:Int} (hb:b≠0):(rz t b).natAbs<=t.natAbs:=ja (rS hb) (zR t b)
theorem zT {t b:Int} (hb:b≠0):(rA t b).natAbs<=b.natAbs:=ja (rS hb) (zU t b)
theorem gc_le {t b:Int} (hb:b≠0):(gc t b).natAbs<=b.natAbs:=by
 have h:=Int.gcd_dvd_right (a:=t) (b:=b);have:=Nat.le_of_dvd (by omega) (Int.natAbs_dvd_natAbs.mpr h);unfold gc;exact this
theorem sg_le {t b:Int} (hb:b≠0):(sg t b).natAbs<=b.natAbs:=by
 have:=gc_le (t:=t) hb;unfold sg;split <;> omega
theorem low_gc {t b:Int} (hb:b≠0):gc (rz t b) (rA t b)=1:=by
 have h1:=zR t b;have h2:=zU t b;have h3:=yp (sg t b) (rz t b) (rA t b);rw [h1,h2] at h3;have h4:=yo (a:=t) hb
 have h5:((sg t b).natAbs:Int)=gc t b:=by
  unfold sg;split <;> omega
 rw [h5] at h3;have h6:gc t b*gc (rz t b) (rA t b)=gc t b*1:=by rw [<- h3,Int.mul_one]
 exact Int.eq_of_mul_eq_mul_left (by omega) h6
end Lo
namespace Ln
end Ln
open PySem L2
abbrev bits (x:Int):Nat:=Builtin.Int.intBits x
theorem Ag {x:Int} {m:Nat} (h:x.natAbs < 2 ^ m):bits x<=m:=intBits_le_iff.mpr h
theorem fH (i:Int):(if i < 0 then -i else i)=(i.natAbs:Int):=by split <;> omega
structure Scr (K:W.Frag) (H:Hp) (a:Addr) (ns:List Int):Prop where
 sq:(∃ o,H a=some (.frz o (.lst (ns.map V.int))))\/∃(o:Obj) (its:Array Value) (n:Nat),K.lookup a=some o/\o.cls=.type "list"/\o.dict=none/\o.data=.seq its n/\its.size<=sizeLine/\Vals (ns.map V.int) its.toList
 few:ns.length<=63
 bit:∀ n∈ns,bits n<=1048576
theorem Scr.l {K:W.Frag} {H:Hp} {a:Addr} {ns:List Int} (S:Scr K H a ns):SqL K H a (ns.map V.int):=S.sq.elim (λh=>.inl (.inr h)) .inr
theorem Scr.ts {K:W.Frag} {H H':Hp} {a:Addr} {ns:List Int} (S:Scr K H a ns) (e:Tst H H'):Scr K H' a ns:=⟨S.sq.elim (λ⟨o,h⟩=>.inl ⟨o,e.f _ _ _ h⟩) .inr,S.few,S.bit⟩
theorem scr_of {K:W.Frag} {H:Hp} {a:Addr} {ns:List Int} (O:Only H) (h:SqL K H a (ns.map V.int)) (few:ns.length<=63) (bit:∀ n∈ns,bits n<=1048576):Scr K H a ns:=by
 refine ⟨?_,few,bit⟩;rcases h with (h | h) | h
 ·exfalso;rcases O a with z | ⟨o,xs,z⟩
  ·rw [h] at z;cases z
  ·rw [h] at z;cases z
 ·exact .inl h
 ·exact .inr h
theorem az {H:Hp} {p:Addr} (h:H p=none) (o:HO):aH H (upd H p o):=λb u q=>by rw [aB (aA q h)];exact q
theorem bc {H H':Hp} {l:Addr} (e:aH H H') (h:H l=none) (o:HO):aH H (upd H' l o):=λb u q=>by rw [aB (aA q h)];exact e b u q
def frD (p q:Int):PyData:=.tuple [.int p,.int q]
section
variable {K:W.Frag} {H H':Hp} {a:Addr} {v e:V} {p q m h:Int} {s:St4} {L:List St4}
end
theorem fr_lay (p q:Int):(frD p q).canLay0=true:=by simp [frD,PyData.canLay0,PyData.canLayAll0]
theorem Ey (p q:Int):(frD p q).depth=1:=by simp [frD,PyData.depth,PyData.depthAll]
theorem sM (p q:Int):SeqAt.shaped (frD p q)=true:=by simp [SeqAt.shaped,fr_lay,Ey]
mutual
theorem EG:∀ d:PyData,d.canLay0=true->PyData.eqv d d=true
 | .none,_=>by simp [PyData.eqv]
 | .bool _,_=>by simp [PyData.eqv]
 | .int _,_=>by simp [PyData.eqv]
 | .str _,_=>by simp [PyData.eqv]
 | .list xs,h=>by simp only [PyData.eqv];exact jY xs (by simpa [PyData.canLay0] using h)
 | .tuple xs,h=>by simp only [PyData.eqv];exact jY xs (by simpa [PyData.canLay0] using h)
 | .dict _,h=>by simp [PyData.canLay0] at h
theorem jY:∀ xs:List PyData,PyData.canLayAll0 xs=true->PyData.eqvAll xs xs=true
 | [],_=>by simp [PyData.eqvAll]
 | x::xs,h=>by
  have h':x.canLay0=true/\PyData.canLayAll0 xs=true:=by simpa [PyData.canLayAll0] using h
  simp [PyData.eqvAll,EG x h'.1,jY xs h'.2]
end
def fixO:HO->Bool
 | .tup _=>true
 | .ins _ _ _=>true
 | .own _=>true
 | .frz _ _=>true
 | _=>false
def Kp (H H':Hp):Prop:=∀ b o,H b=some o->fixO o=true->H' b=some o
theorem Kp.trans {H H1 H2:Hp} (a:Kp H H1) (b:Kp H1 H2):Kp H H2:=λc o h f=>b c o (a c o h f) f
theorem Kp.of {H H':Hp} (e:aH H H'):Kp H H':=λb o h _=>e b o h
theorem kp_new {H:Hp} {p:Addr} (h:H p=none) (o:HO):Kp H (upd H p o):=Kp.of (λb u z=>by rw [aB (aA z h)];exact z)
theorem iJ {H:Hp} {l:Addr} {o u:HO} (h:H l=some o) (f:fixO o=false):Kp H (upd H l u):=λb z hb fz=>by
 rw [aB (sA hb h λe=>by rw [e,f] at fz;cases fz)]
 exact hb
theorem qE {K:W.Frag} {t:Value}:PySem.W.kitOne K t t=some true:=by unfold PySem.W.kitOne;rw [if_pos (beq_self_eq_true t)]
def SB (c:V) (H H':Hp):Prop:=∀ b o,H b=some o->V.ref b≠c->H' b=some o
theorem SB.refl (c:V) (H:Hp):SB c H H:=λ_ _ h _=>h
theorem SB.trans {c:V} {H H1 H2:Hp} (a:SB c H H1) (b:SB c H1 H2):SB c H H2:=λd o h n=>b d o (a d o h n) n
theorem SB.of {c:V} {H H':Hp} (e:aH H H'):SB c H H':=λb o h _=>e b o h
theorem SB.kp {c:V} {H H':Hp} (e:SB c H H') (hc:∀ a o,c=.ref a->H a=some o->fixO o=false):Kp H H':=λb o h f=>e b o h λz=>by
 rw [hc b o z.symm h] at f;cases f
theorem jO {a:Addr} (H:Hp) (u:HO):SB (.ref a) H (upd H a u):=λb o h n=>by
 rw [aB λz=>n (by rw [z])];exact h
inductive Tu (H:Hp):Addr->Tr->Prop where
 | never {a}:H a=some (.tup [.str "never"])->Tu H a .never
 | always {a}:H a=some (.tup [.str "always"])->Tu H a .always
 | lp {a}:H a=some (.tup [.str "p"])->Tu H a .lp
 | lq {a}:H a=some (.tup [.str "q"])->Tu H a .lq
 | no {a b t}:H a=some (.tup [.str "not",.ref b])->Tu H b t->Tu H a (.no t)
 | fold {a b d w x y}:H a=some (.tup [.str (W5.str w),.ref b,.ref d])->Tu H b x->Tu H d y->Tu H a (.fold w x y)
theorem Tu.to {H H':Hp} {a:Addr} {t:Tr} (h:Tu H a t) (e:Kp H H'):Tu H' a t:=by
 induction h with
 | never h=>exact .never (e _ _ h rfl)
 | always h=>exact .always (e _ _ h rfl)
 | lp h=>exact .lp (e _ _ h rfl)
 | lq h=>exact .lq (e _ _ h rfl)
 | no h _ ih=>exact .no (e _ _ h rfl) ih
 | fold h _ _ i1 i2=>exact .fold (e _ _ h rfl) i1 i2
structure CCs where
 (ne al le no mo ls gr lr ld:Addr)
def CCs.fold (c:CCs):W5->Addr
 | .more=>c.mo | .less=>c.ls | .greater=>c.gr | .lesser=>c.lr | .leads=>c.ld
def mC (x:V):List (Str×V):=[("name",x)]
def qO (x:V):List (Str×V):=[("part",x)]
def lG (x y:V):List (Str×V):=[("one",x),("other",y)]
inductive Ob (c:CCs) (H:Hp):Addr->Tr->Prop where
 | never {a dx}:H a=some (.ins c.ne dx [])->Ob c H a .never
 | always {a dx}:H a=some (.ins c.al dx [])->Ob c H a .always
 | lp {a dx}:H a=some (.ins c.le dx (mC (.str "p")))->Ob c H a .lp
 | lq {a dx}:H a=some (.ins c.le dx (mC (.str "q")))->Ob c H a .lq
 | no {a dx b t}:H a=some (.ins c.no dx (qO (.ref b)))->Ob c H b t->Ob c H a (.no t)
 | fold {a dx b d w x y}:H a=some (.ins (c.fold w) dx (lG (.ref b) (.ref d)))->Ob c H b x->Ob c H d y->Ob c H a (.fold w x y)
theorem Ob.to {c:CCs} {H H':Hp} {a:Addr} {t:Tr} (h:Ob c H a t) (e:Kp H H'):Ob c H' a t:=by
 induction h with
 | never h=>exact .never (e _ _ h rfl)
 | always h=>exact .always (e _ _ h rfl)
 | lp h=>exact .lp (e _ _ h rfl)
 | lq h=>exact .lq (e _ _ h rfl)
 | no h _ ih=>exact .no (e _ _ h rfl) ih
 | fold h _ _ i1 i2=>exact .fold (e _ _ h rfl) i1 i2
inductive cg {α β:Type} (R:α->β->Prop):List α->List β->Prop where
 | nil:cg R [] []
 | cons {a b as bs}:R a b->cg R as bs->cg R (a::as) (b::bs)
theorem cg.imp {α β:Type} {R R':α->β->Prop} (f:∀ a b,R a b->R' a b) {as:List α} {bs:List β} (h:cg R as bs):cg R' as bs:=by
 induction h with
 | nil=>exact .nil
 | cons r _ ih=>exact .cons (f _ _ r) ih
theorem cg.app {α β:Type} {R:α->β->Prop} {as cs:List α} {bs ds:List β} (h:cg R as bs) (k:cg R cs ds):cg R (as++cs) (bs++ds):=by
 induction h with
 | nil=>exact k
 | cons r _ ih=>exact .cons r ih
theorem cg.rev {α β:Type} {R:α->β->Prop} {as:List α} {bs:List β} (h:cg R as bs):cg R as.reverse bs.reverse:=by
 induction h with
 | nil=>exact .nil
 | cons r _ ih=>rw [List.reverse_cons,List.reverse_cons];exact ih.app (.cons r .nil)
theorem cg.len {α β:Type} {R:α->β->Prop} {as:List α} {bs:List β} (h:cg R as bs):as.length=bs.length:=by
 induction h with
 | nil=>rfl
 | cons _ _ ih=>rw [List.length_cons,List.length_cons,ih]
theorem cg.get {α β:Type} {R:α->β->Prop} {as:List α} {bs:List β} (h:cg R as bs):∀(i:Nat) (a:α),as[i]?=some a->∃ b,bs[i]?=some b/\R a b:=by
 induction h with
 | nil=>intro i a z;cases z
 | cons r _ ih =>
  intro i x z;cases i with
  | zero=>cases z;exact ⟨_,rfl,r⟩
  | succ i=>exact ih i x z
theorem cg.last {α β:Type} {R:α->β->Prop} {as:List α} {bs:List β} (h:cg R as bs) (n:as≠[]):∃ as' a bs' b,as=as'++[a]/\bs=bs'++[b]/\R a b/\cg R as' bs':=by
 have h':=h.rev;have n':as.reverse≠[]:=λz=>n (List.reverse_eq_nil_iff.mp z);have e1:as=as.reverse.reverse:=(List.reverse_reverse _).symm;have e2:bs=bs.reverse.reverse:=(List.reverse_reverse _).symm;rw [e1,e2]
 revert h' n'
 generalize as.reverse=u;generalize bs.reverse=v;intro h' n';cases h' with
 | nil=>exact absurd rfl n'
 | cons r k=>exact ⟨_,_,_,_,List.reverse_cons,List.reverse_cons,r,k.rev⟩
theorem hJ {α:Type} (ys:List α) (a:α):(ys++[a])[(ys++[a]).length - 1]?=some a:=by simp
abbrev ObV (c:CCs) (H:Hp) (v:V) (t:Tr):Prop:=∃ a,v=.ref a/\Ob c H a t
theorem ObV.to {c:CCs} {H H':Hp} (e:Kp H H') (v:V) (t:Tr) (h:ObV c H v t):ObV c H' v t:=by
 obtain ⟨a,r,o⟩:=h;exact ⟨a,r,o.to e⟩
def Tr.kids:Tr->List Tr
 | .no t=>[t]
 | .fold _ a b=>[a,b]
 | _=>[]
def dO (ts:List Tr):Nat:=(ts.map Tr.size).sum
theorem rR (a b:List Tr):dO (a++b)=dO a+dO b:=by simp [dO]
theorem Bo (t:Tr):dO t.kids+1=t.size:=by cases t <;> simp [dO,Tr.kids,Tr.size]
theorem Dq (t:Tr):t.post.reverse=t::(t.kids.reverse.flatMap λx=>x.post.reverse):=by
 cases t <;> simp [Tr.post,Tr.kids]
inductive Pc where
 | w (x:Str)
 | t (t:Tr)
def Tr.pieces:Tr->List Pc
 | .never=>[.w "never"]
 | .always=>[.w "always"]
 | .lp=>[.w "p"]
 | .lq=>[.w "q"]
 | .no t=>[.w "not",.t t]
 | .fold w a b=>[.w "(",.t a,.w w.str,.t b,.w ")"]
inductive PcV (c:CCs) (H:Hp):V->Pc->Prop where
 | w (x:Str):PcV c H (.str x) (.w x)
 | t {a:Addr} {t:Tr}:Ob c H a t->PcV c H (.ref a) (.t t)
theorem nL (i j:Int):(if j < i then j else i)=min i j:=by
 rw [Int.min_def];split <;> split <;> omega
theorem qC (i j:Int):(if j > i then j else i)=max i j:=by
 rw [Int.max_def];split <;> split <;> omega
end Mine
namespace L2
open PySem PySem.Spec PyProof.Rows
structure aU (K:W.Frag) (C:Addr) (m qual:Str) (st:Stmt):Prop where
 cl:Cls K C
 ex:∃(f:Addr) (fd:FuncData),Meth K C m f/\Fun K m qual st f fd
variable {P:Program} {w:World} {K:W.Frag} {mg:Str->Option Value} {base:Heap}
theorem bz {C:Addr} {m qual:Str} {st:Stmt} {N ps:List Str} {k:Nat} {sp:Sp} (T:aU K C m qual st) (S:aE N ps (ak st))
  (bd:∀(kV doc pm:Value) (an:Option Addr) (cdv ct:Value) (us:List Value),us.length=ps.length->bindArgs (PySem.W.fnOf m qual (fG st) (bP st) (ak st) .none kV doc pm an cdv ct) ⟨us,[]⟩=pure (ps.zip us))
  (len:∀ vs H Q E,sp vs H Q E->vs.length=ps.length)
  (body:∀(f:Addr) (cdv:Value) (A:Around) (outer:List Env) (s:Shared) (H:Hp) (vs:List V) (Q:VK) (E:XK),dj k (A.deeper (envOfC qual (ak st) s.heap.objs.size f cdv))->sp vs H Q E->
   ∃ t,PSs (eO CX0 P w K mg base N qual (ak st) f cdv A outer s H E).nox (bP st) t/\t {nx:=λ_ H'=>Q .non H',rt:=Q} (start N vs) H) :
  aQ P w K mg base C m (k+1) ps sp:=by
 obtain ⟨f,fd,hm,G⟩:=T.ex;exact ⟨T.cl,f,fd,hm,G.ok S len (body f),G.binds bd⟩
structure MkF (K:W.Frag) (mg:Str->Option Value) (x:Str) (C:Addr) (qual:Str) (st:Stmt):Prop where
 cl:Cls K C
 mg_:mg x=some (.ref C)
 ex:∃(f:Addr) (fd:FuncData),Mk K C f/\Fun K "__init__" qual st f fd
structure mL (P:Program) (w:World) (K:W.Frag) (mg:Str->Option Value) (base:Heap) (x:Str) (C:Addr) (k:Nat) (ps:List Str) (sp:Sp):Prop where
 mg_:mg x=some (.ref C)
 ex:∃(f:Addr) (fd:FuncData),Mk K C f/\mP P w K mg base CX0 k f fd ps sp/\Binds K fd ps []
theorem Eb {C:Addr} {x qual:Str} {st:Stmt} {N ps:List Str} {k:Nat} {sp:Sp} (T:MkF K mg x C qual st) (S:aE N ps (ak st))
  (bd:∀(kV doc pm:Value) (an:Option Addr) (cdv ct:Value) (us:List Value),us.length=ps.length->bindArgs (PySem.W.fnOf "__init__" qual (fG st) (bP st) (ak st) .none kV doc pm an cdv ct) ⟨us,[]⟩=pure (ps.zip us))
  (len:∀ vs H Q E,sp vs H Q E->vs.length=ps.length)
  (body:∀(f:Addr) (cdv:Value) (A:Around) (outer:List Env) (s:Shared) (H:Hp) (vs:List V) (Q:VK) (E:XK),dj k (A.deeper (envOfC qual (ak st) s.heap.objs.size f cdv))->sp vs H Q E->
   ∃ t,PSs (eO CX0 P w K mg base N qual (ak st) f cdv A outer s H E).nox (bP st) t/\t {nx:=λ_ H'=>Q .non H',rt:=Q} (start N vs) H) :
  mL P w K mg base x C (k+1) ps sp:=by
 obtain ⟨f,fd,hm,G⟩:=T.ex;exact ⟨T.mg_,f,fd,hm,G.ok S len (body f),G.binds bd⟩
section
variable {X:Cx} {x:Str} {C:Addr} {k:Nat} {ps:List Str} {sp:Sp} {e:Expr} {es:List Expr} {t:TA} {p pos:Pos}
theorem kQ (M:mL X.prog X.w X.K X.mg X.base x C k ps sp) (hr:dj (k+1) X.A) (hg:Gl X x) (ha:PA X (e::es) t) (hdb:(x == ("__debug__":Str))=false:=by decide)
  (he:starEach (e::es) X.env=(false,eval e X.env)::starEach es X.env:=by rfl) (hpl:(backTo pos (starEach es X.env)).any (·.1)=false:=by rfl) :
  PE X (.Call (.Name x p) (e::es) [] pos) (tMake C sp [] E0 t):=by
 obtain ⟨f,fd,hm,G,hb⟩:=M.ex;exact pe_make hm G hr hg M.mg_ hb .nil vS ha hdb he hpl
end
end L2
namespace Mine
open PySem L2
def CCs.of (c:CCs):Tr->Addr
 | .never=>c.ne
 | .always=>c.al
 | .lp=>c.le
 | .lq=>c.le
 | .no _=>c.no
 | .fold w _ _=>c.fold w
theorem kF (x:V):(mC x).lookup ("name":Str)=some x:=by unfold mC;rw [List.lookup_cons,beq_self_eq_true]
theorem sE (x:V):(qO x).lookup ("part":Str)=some x:=by unfold qO;rw [List.lookup_cons,beq_self_eq_true]
theorem wA (x y:V):(lG x y).lookup ("one":Str)=some x:=by unfold lG;rw [List.lookup_cons,beq_self_eq_true]
theorem qD (x y:V):(lG x y).lookup ("other":Str)=some y:=by
 unfold lG;rw [List.lookup_cons,show (("other":Str) == ("one":Str))=false by decide+kernel];show List.lookup ("other":Str) [("other",y)]=some y;rw [List.lookup_cons,beq_self_eq_true]
abbrev NoF (m:Str):Prop:=m≠"name"/\m≠"part"/\m≠"one"/\m≠"other"
theorem fX {m a:Str} {x:V} {r:List (Str×V)} (h:m≠a) (k:r.lookup m=none):((a,x)::r).lookup m=none:=by
 rw [List.lookup_cons,beq_eq_false_iff_ne.mpr h];exact k
theorem Ob.cls {c:CCs} {H:Hp} {a:Addr} {t:Tr} (h:Ob c H a t):∃ dx fs,H a=some (.ins (c.of t) dx fs)/\∀ m,NoF m->fs.lookup m=none:=by
 cases h with
 | never h=>exact ⟨_,_,h,λm _=>rfl⟩
 | always h=>exact ⟨_,_,h,λm _=>rfl⟩
 | lp h=>exact ⟨_,_,h,λm n=>fX n.1 rfl⟩
 | lq h=>exact ⟨_,_,h,λm n=>fX n.1 rfl⟩
 | no h _=>exact ⟨_,_,h,λm n=>fX n.2.1 rfl⟩
 | fold h _ _=>exact ⟨_,_,h,λm n=>fX n.2.2.1 (fX n.2.2.2 rfl)⟩
structure Fx (K:W.Frag) (c:CCs):Prop where
 cl:∀ t,Cls K (c.of t)
 ha:∀ t,PySem.W.findIn K (.ref (c.of t)) "__class__"=some (some (.builtin "object.__class__"))
 hm:∀ t,PySem.W.mroIn K (c.of t) (.type "object")=some true
 ks:∀ t,PySem.W.kitOne K (.ref (c.of t)) (.type "str")=some false
 hn:PySem.W.specialIn K (.builtin "object.__class__") "__get__"=some (some (.builtin "getset_descriptor.__get__"))
 tk:PySem.W.takesIn K (.builtin "object.__class__")=some true
 nName:fK K c.le "name"
 nPart:fK K c.no "part"
 nOne:∀ w,fK K (c.fold w) "one"
 nOther:∀ w,fK K (c.fold w) "other"
theorem Fx.ty {K:W.Frag} {c:CCs} (T:Fx K c) {H:Hp} {a:Addr} {t:Tr} (h:Ob c H a t):kg K H (.ref a) (.ref (c.of t)):=by
 obtain ⟨dx,fs,e,_⟩:=h.cls;exact .ins e (T.cl t) (T.ha t) T.hn T.tk (T.hm t)
def Tr.word:Tr->Str
 | .never=>"never"
 | .always=>"always"
 | .lp=>"p"
 | .lq=>"q"
 | .no _=>"not"
 | .fold u _ _=>u.str
def sZ (c:CCs) (t:Tr):Sp:=λvs H Q _=>∃ a,vs=[.ref a]/\Ob c H a t/\∀ l us,H l=none->cg (ObV c H) us t.kids->Q (.ref l) (upd H l (.lst us))
def lU (c:CCs) (t:Tr):Sp:=λvs H Q _=>∃ a,vs=[.ref a]/\Ob c H a t/\∀ l us,H l=none->cg (PcV c H) us t.pieces->Q (.ref l) (upd H l (.lst us))
def fg (c:CCs) (t:Tr):Sp:=λvs H Q _=>∃ a:Addr,vs=[.ref a]/\Ob c H a t/\Q (.str t.word) H
def hX (w:W5):Sp:=λvs H Q _=>∃(a:Addr) (n x y:Int),vs=[.ref a,.int n,.int x,.int y]/\Q (.int (w.worth n x y)) H
def jj (c:CCs) (t:Tr):Sp:=λvs H Q _=>∃(a l:Addr) (n x y:Int) (R R':List Int),vs=[.ref a,.ref l,.int n,.int x,.int y]/\Ob c H a t/\H l=some (.lst (R.reverse.map V.int))/\R.length<=1000/\(hV n x y).step R t=some R' /\
 ∀ H',SB (.ref l) H H'->H' l=some (.lst (R'.reverse.map V.int))->Q .non H'
def pQ (c:CCs) (t:Tr):Sp:=λvs H Q _=>∃ a,vs=[.ref a]/\Ob c H a t/\t.size<=1000/\∀ l us H',aH H H'->H l=none->H' l=some (.lst us)->cg (ObV c H') us t.post->Q (.ref l) H'
def Cy (c:CCs) (t:Tr):Sp:=λvs H Q _=>∃(a:Addr) (n x y:Int),vs=[.ref a,.int n,.int x,.int y]/\Ob c H a t/\t.size<=1000/\∀ H',aH H H'->Q (.int (t.worth n x y)) H'
def ko (C:Addr) (fl:V->List (Str×V)):Sp:=λvs H Q _=>∃(a dx:Addr) (x:V),vs=[.ref a,x]/\H a=some (.ins C dx [])/\Q .non (upd H a (.ins C dx (fl x)))
def kj (C:Addr):Sp:=λvs H Q _=>∃(a dx:Addr) (x y:V),vs=[.ref a,x,y]/\H a=some (.ins C dx [])/\Q .non (upd H a (.ins C dx (lG x y)))
theorem Dn (x y:V):jq "other" y (jq "one" x [])=lG x y:=by
 show (if ("one":Str)="other" then [(("one":Str),y)] else (("one":Str),x)::jq "other" y [])=_;rw [if_neg (by decide+kernel)];rfl
def W5.cls:W5->Str
 | .more=>"More" | .less=>"Less" | .greater=>"Greater" | .lesser=>"Lesser" | .leads=>"Leads"
theorem is_pp:decide (V.str "p"=V.str "p")=true:=decide_eq_true rfl
theorem is_qp:decide (V.str "q"=V.str "p")=false:=decide_eq_false (λz=>absurd (V.str.inj z) (by decide+kernel))
theorem fA (a:Int) (R:List Int):R.reverse.map V.int++[V.int a]=(a::R).reverse.map V.int:=by rw [List.reverse_cons,List.map_append];rfl
theorem lT {R:List Int} (h:R.length<=1000):(R.reverse.map V.int).length < sizeLine:=by
 rw [List.length_map,List.length_reverse];exact Nat.lt_of_le_of_lt h (by decide)
theorem iO {α:Type} {G:Alg α} {R R':List α} {t:Tr} (h:G.step R t=some R') (k:t.kids=[]):R'=G.leaf t::R:=by
 cases t with
 | no t=>cases k
 | fold w a b=>cases k
 | _=>cases R with
  | nil=>exact (Option.some.inj h).symm
  | cons a R=>cases R <;> exact (Option.some.inj h).symm
theorem yZ {α:Type} {G:Alg α} {R R':List α} {t:Tr} (h:G.step R (.no t)=some R'):∃ b R1,R=b::R1/\R'=G.no b::R1:=by
 cases R with
 | nil=>cases h
 | cons b R1=>cases R1 <;> exact ⟨b,_,rfl,(Option.some.inj h).symm⟩
theorem rP {α:Type} {G:Alg α} {R R':List α} {w:W5} {t t':Tr} (h:G.step R (.fold w t t')=some R'):∃ b2 b1 R1,R=b2::b1::R1/\R'=G.fold w b1 b2::R1:=by
 cases R with
 | nil=>cases h
 | cons b R1=>cases R1 with
  | nil=>cases h
  | cons b' R1=>exact ⟨b,b',R1,rfl,(Option.some.inj h).symm⟩
theorem jH {H:Hp} {l p:Addr} {o:HO} (h:upd H l o p=none):H p=none:=by
 by_cases e:p=l
 ·subst e;rw [af] at h;cases h
 ·rw [aB e] at h;exact h
theorem fT {H:Hp} {C z dz:Addr} {fs:List (Str×V)} (hz:H z=none) (hd:H dz=none) (ne:dz≠z):aH H (upd (upd (upd H dz (.own z)) z (.ins C dz [])) z (.ins C dz fs)):=λb o h=>by
 rw [aB (aA h hz),aB (aA h hz),aB (aA h hd)];exact h
theorem Bl {c:CCs} {H:Hp} {z dz b d:Addr} {u:W5} {t t':Tr} {Q:VK} (hz:H z=none) (hd:H dz=none) (ne:dz≠z) (o:Ob c H b t) (o':Ob c H d t') (q:∀ e H',aH H H'->Ob c H' e (.fold u t t')->Q (.ref e) H') :
  Q (.ref z) (upd (upd (upd H dz (.own z)) z (.ins (c.fold u) dz [])) z (.ins (c.fold u) dz (lG (.ref b) (.ref d)))):=by
 have sm:=fT (C:=c.fold u) (fs:=lG (.ref b) (.ref d)) hz hd ne;exact q z _ sm (.fold af (o.to (Kp.of sm)) (o'.to (Kp.of sm)))
theorem wG:∀ ts:List Tr,(ts.flatMap λx=>x.post.reverse).length=dO ts
 | []=>rfl
 | t::r=>by
  rw [List.flatMap_cons,List.length_append,List.length_reverse,fB,wG r];simp [dO]
theorem AB (ts:List Tr):dO ts.reverse=dO ts:=by simp [dO]
theorem sF:∀ ts:List Tr,ts.length<=dO ts
 | []=>Nat.le_refl _
 | t::r=>by
  have h:=sF r;have p:=t.size_pos;have e:dO (t::r)=t.size+dO r:=by simp [dO]
  rw [e,List.length_cons];omega
theorem qF (t:Tr):t.kids.length<=2:=by cases t <;> simp [Tr.kids]
theorem Cq {α:Type} {G:Alg α} {R R':List α} {t:Tr} (h:G.step R t=some R'):R'.length<=R.length+1:=by
 cases t with
 | no t=>obtain ⟨b,R1,rfl,rfl⟩:=yZ h;simp
 | fold w x y=>obtain ⟨b,b',R1,rfl,rfl⟩:=rP h;simp
 | _=>rw [iO h rfl];simp
theorem CV {α:Type} {G:Alg α} {R Z:List α} {t:Tr} {r:List Tr} (h:G.run R (t::r)=some Z):∃ R',G.step R t=some R'/\G.run R' r=some Z:=by
 unfold Alg.run at h;cases e:G.step R t with
 | none=>rw [e] at h;cases h
 | some R'=>rw [e] at h;exact ⟨R',rfl,h⟩
theorem zY {α:Type} {xs:List α} {i:Nat} {x:α} (h:xs[i]?=some x):xs.drop i=x::xs.drop (i+1):=by
 obtain ⟨hi,e⟩:=List.getElem?_eq_some_iff.mp h;rw [List.drop_eq_getElem_cons hi,e]
theorem ite_yes {a b:Str} {A B:Prop} (h:a=b) (k:A):if decide (V.str a=V.str b)=true then A else B:=by
 rw [decide_eq_true (congrArg V.str h),if_pos rfl];exact k
theorem ite_no {a b:Str} {A B:Prop} (h:a≠b) (k:B):if decide (V.str a=V.str b)=true then A else B:=by
 rw [decide_eq_false (λz=>h (V.str.inj z)),if_neg Bool.false_ne_true];exact k
theorem Ej {x:V} {xs:List V} {A B:Prop} (h:inV x xs=true) (k:A):if (if false=true then !inV x xs else inV x xs)=true then A else B:=by
 rw [if_neg Bool.false_ne_true,h,if_pos rfl];exact k
theorem in_no {x:V} {xs:List V} {A B:Prop} (h:inV x xs=false) (k:B):if (if false=true then !inV x xs else inV x xs)=true then A else B:=by
 rw [if_neg Bool.false_ne_true,h,if_neg Bool.false_ne_true];exact k
def Cel (m:Int):Prop:=0<=m/\Builtin.Int.intBits m<=1048576
theorem cel0:Cel 0:=⟨Int.le_refl _,by decide⟩
theorem EZ (z:Int):Builtin.Int.intBits (if z < 0 then -z else z)=Builtin.Int.intBits z:=by
 unfold Builtin.Int.intBits
 by_cases h:z < 0
 ·rw [if_pos h];simp
 ·rw [if_neg h]
theorem cel_abs {z:Int} (h:Builtin.Int.intBits z<=1048576):Cel (if z < 0 then -z else z):=⟨by split <;> omega,by rw [EZ];exact h⟩
theorem nQ {z:Int} (h0:0<=z) (h:z < 2 ^ 64):Cel z:=⟨h0,Nat.le_trans (intBits_le_64 (by omega) h) (by decide)⟩
theorem Scr.to {K:W.Frag} {H H':Hp} {a:Addr} {ns:List Int} (h:Scr K H a ns) (e:aH H H'):Scr K H' a ns:=h.ts e.ts
def zc (K:W.Frag):Sp:=λvs H Q _=>∃(a:Addr) (ns:List Int) (k:Int),vs=[.ref a,.int k]/\Scr K H a ns/\0<=k/\k<=100/\∀(D:Addr) (ms:List Int) (H':Hp),aH H H'->H D=none->H' D=some (.lst (ms.map V.int))->(∀ m∈ms,Cel m)->Q (.ref D) H'
def xG:Sp:=λvs H Q _=>∃(l:Addr) (ms:List Int),vs=[.ref l]/\H l=some (.lst (ms.map V.int))/\(∀ m∈ms,Cel m)/\∀(i:Int) (ms':List Int) (H':Hp),Cel i->(∀ m∈ms',Cel m)->SB (.ref l) H H'->H' l=some (.lst (ms'.map V.int))->Q (.int i) H'
def uW:Sp:=λvs H Q _=>∃ i:Int,vs=[.int i]/\Q (.bl true) H
end Mine
namespace L2
open PySem PySem.Spec PyProof.Rows
namespace HT
variable {prog:Program} {w:World} {A:Around} {E:Value->Shared->Prop} {s:Shared}
end HT
section
variable {X:Cx}
end
end L2
namespace Mine
open PySem L2
theorem cut_int (ms:List Int) (lo hi:Option Int):∃ ms':List Int,mD (ms.map V.int) lo hi=ms'.map V.int/\∀ m∈ms',m∈ms:=by
 refine ⟨(ms.drop (_root_.HT.sIx (ms.map V.int).length 0 lo)).take (_root_.HT.sIx (ms.map V.int).length (ms.map V.int).length hi - _root_.HT.sIx (ms.map V.int).length 0 lo),?_,λm h=>List.mem_of_mem_drop (List.mem_of_mem_take h)⟩;unfold mD;rw [List.map_take,List.map_drop]
theorem jb {a b:Int} (h:Builtin.Int.intBits b<=64):IntMulOk a b:=.of_right h
theorem qw {a b:Int} (h:Builtin.Int.intBits a<=64):IntMulOk a b:=.of_left h
abbrev wu:List Str:=["_law_script","_law_least","_law_as_they_stand","_law_made","_law_k","_law_cell"]
theorem yi {H:Hp} {l:Addr} {xs:List V} (e:H l=some (.lst xs)):∀ a o,V.ref l=.ref a->H a=some o->fixO o=false:=λa o z1 z2=>by cases z1;rw [e] at z2;cases z2;rfl
theorem pq_p:inV (.str "p") [V.str "p",.str "q"]=true:=by decide+kernel
theorem pq_q:inV (.str "q") [V.str "p",.str "q"]=true:=by decide+kernel
theorem pq_not:inV (.str "not") [V.str "p",.str "q"]=false:=by decide+kernel
theorem pq_w (u:W5):inV (.str u.str) [V.str "p",.str "q"]=false:=by cases u <;> decide+kernel
theorem w_ne (u:W5):u.str≠"never":=by cases u <;> decide+kernel
theorem w_al (u:W5):u.str≠"always":=by cases u <;> decide+kernel
theorem qh {H:Hp} {C z dz:Addr} (hz:H z=none) (hd:H dz=none):aH H (upd (upd H dz (.own z)) z (.ins C dz [])):=λb o h=>by
 rw [aB (aA h hz),aB (aA h hd)];exact h
theorem lQ {σ:St} {H:Hp} {A B:Hp->Prop} (h:A H):og σ H λb H4=>if b=true then A H4 else B H4:=by
 show if true=true then A H else B H
 rw [if_pos rfl];exact h
end Mine
namespace L2
open PySem PySem.Spec PyProof.Rows
end L2
namespace Mine
open PySem L2
def spLaw (K:W.Frag):Sp:=λvs H Q _=>∃(a:Addr) (ns:List Int),vs=[.ref a]/\Scr K H a ns/\∀ H',Q (.bl true) H'
theorem nP {wi:TI} {tc:TT} {te:TE} {js:List Nat} {σ:St} {H:Hp} {Q:VK} (h:wi σ H λJ H1=>jy (λ_ H R=>R J H) tc te js σ H1 Q):jy wi tc te js σ H Q:=h
theorem nO {K:W.Frag} {wi:TI} {te:TE} {js:List Nat} {σ:St} {H0:Hp} {Q:VK} {xs:List V} (Src:Addr->Hp->Prop) (hwi:∀ R:It->Hp->Prop,(∀ l H,Src l H->R (Itl K l) H)->wi σ H0 R) (hsrc:∀ l H,Src l H->H l=some (.lst xs)) (hx:xs.length<=1000)
  (Pv:Addr->Addr->Nat->List V->Hp->Prop) (h0:∀ l H D,Src l H->H D=none->Pv l D 0 [] (upd H D (.lst [])))
  (hs:∀ l D i v ys H',xs[i]?=some v->l≠D->H' l=some (.lst xs)->H' D=some (.lst ys)->Pv l D i ys H'->∀ N:VK,(∀ y H'',H'' l=some (.lst xs)->H'' D=some (.lst ys)->Pv l D (i+1) (ys++[y]) (upd H'' D (.lst (ys++[y])))->N y H'')->te (some v::ck js σ) H' N)
  (hd:∀ l D ys H',H' l=some (.lst xs)->H' D=some (.lst ys)->Pv l D xs.length ys H'->Q (.ref D) H'):jy wi og te js σ H0 Q:=by
 refine hwi _ λl H src=>?_;intro D hD;have e:=hsrc l H src;have nl:l≠D:=aA e hD;refine ⟨λi m H'=>m=xs.length - i/\i<=xs.length/\H' l=some (.lst xs)/\∃ ys,ys.length=i/\H' D=some (.lst ys)/\Pv l D i ys H',⟨xs.length,rfl,Nat.zero_le _,by rw [aB nl];exact e,[],rfl,af,h0 l H D src hD⟩,?_⟩;rintro i m H2 ⟨rfl,hi,e2,ys,hy,eD,p⟩
 by_cases hlt:i < xs.length
 ·refine .inr ⟨⟨xs,xs[i],SqL.of e2,by simp [hlt]⟩,λv H3 y=>?_⟩;obtain ⟨eh,y⟩:=y;subst eh;refine lQ ?_;refine hs l D i v ys _ (y xs (SqL.of e2)) nl e2 eD p _ λy H5 z1 z2 z3=>?_;exact ⟨ys,z2,Nat.lt_of_le_of_lt (show ys.length<=1000 by omega) (by decide),xs.length - (i+1),by omega,rfl,hlt,by rw [aB nl];exact z1,ys++[y],by rw [List.length_append,hy];rfl,af,z3⟩
 ·have ei:i=xs.length:=by omega
  subst ei;exact .inl ⟨⟨xs,SqL.of e2,Nat.le_refl _⟩,hd l D ys H2 e2 eD p⟩
theorem comp_map {α:Type} {K:W.Frag} {wi:TI} {te:TE} {js:List Nat} {σ:St} {H:Hp} {Q:VK} {xs:List V} {ts:List α} {R:Hp->V->α->Prop} (g:α->V) (hR:∀ H H' v t,aH H H'->R H v t->R H' v t) (Src:Addr->Hp->Prop)
  (hwi:∀ R:It->Hp->Prop,(∀ l H,Src l H->R (Itl K l) H)->wi σ H R) (hsrc:∀ l H',Src l H'->H' l=some (.lst xs)/\aH H H') (hx:xs.length<=1000) (o:cg (R H) xs ts)
  (hs:∀ v t H' (N:VK),t∈ts->R H' v t->(∀ H'',aH H' H''->N (g t) H'')->te (some v::ck js σ) H' N) (hd:∀ D H',aH H H'->H D=none->H' D=some (.lst (ts.map g))->Q (.ref D) H'):jy wi og te js σ H Q:=by
 refine nO Src hwi (λl H src=>(hsrc l H src).1) hx (λl D i ys H'=>H D=none/\aH H H'/\ys=(ts.take i).map g) (λl H' D src hD=>⟨(hsrc l H' src).2.free hD,(hsrc l H' src).2.trans (az hD _),rfl⟩) (λl D i v ys H' hv nl el eD h N hN=>?_) (λl D ys H' el eD h=>?_)
 ·obtain ⟨hD,sm,rfl⟩:=h;obtain ⟨t,ht,hr⟩:=o.get i v hv;refine hs v t H' N (List.mem_of_getElem? ht) (hR _ _ _ _ sm hr) λH'' s2=>hN _ _ (s2 _ _ el) (s2 _ _ eD) ⟨hD,λd u z=>?_,?_⟩
  ·rw [aB (aA z hD)];exact s2 _ _ (sm _ _ z)
  ·rw [List.take_add_one,ht,List.map_append];rfl
 ·obtain ⟨hD,sm,rfl⟩:=h;refine hd D H' sm hD ?_;rw [o.len,List.take_length] at eD;exact eD
theorem w_not (u:W5):u.str≠"not":=by cases u <;> decide+kernel
abbrev Rw:=List Key
def eZ (x:Str) (is:List Nat):Rw:=.inr x::is.map λi:Nat=>.inl (i:Int)
def idx (rs:List Rw) (r:Rw):Option Nat:=match rs with
 | []=>none
 | x::t=>if x=r then some 0 else (idx t r).map (·+1)
def bg (rs:List Rw) (r:Rw):List Rw×Nat:=match idx rs r with
 | some i=>(rs,i)
 | none=>(rs++[r],rs.length)
theorem Ek:∀{rs:List Rw} {r:Rw} {i:Nat},idx rs r=some i->i < rs.length
 | [],_,_,h=>by cases h
 | x::t,r,i,h=>by
  unfold idx at h;split at h
  ·cases h;simp
  ·cases e:idx t r with
   | none=>rw [e] at h;cases h
   | some j=>rw [e] at h;cases h;have:=Ek e;simp;omega
theorem ym:∀{rs:List Rw} {r:Rw} {i:Nat},idx rs r=some i->rs[i]?=some r
 | [],_,_,h=>by cases h
 | x::t,r,i,h=>by
  unfold idx at h;split at h
  ·rename_i z;cases h;simp [z]
  ·cases e:idx t r with
   | none=>rw [e] at h;cases h
   | some j=>rw [e] at h;cases h;have:=ym e;simpa using this
theorem idx_app {rs:List Rw} {r s:Rw}:idx (rs++[r]) s=match idx rs s with | some i=>some i | none=>if r=s then some rs.length else none:=by
 induction rs with
 | nil =>
  show (if r=s then some 0 else (idx [] s).map (·+1))=if r=s then some 0 else none
  rfl
 | cons x t ih =>
  show (if x=s then some 0 else (idx (t++[r]) s).map (·+1))=_
  by_cases z:x=s
  ·rw [if_pos z];show _=match (if x=s then some 0 else (idx t s).map (·+1)) with | some i=>some i | none=>_
   rw [if_pos z]
  ·rw [if_neg z,ih];show _=match (if x=s then some 0 else (idx t s).map (·+1)) with | some i=>some i | none=>if r=s then some (t.length+1) else none
   rw [if_neg z];cases idx t s with
   | some i=>rfl
   | none =>
    show (if r=s then some t.length else none).map (·+1)=if r=s then some (t.length+1) else none
    split <;> rfl
theorem iW (rs:List Rw) (r:Rw):(bg rs r).1.length<=rs.length+1:=by
 unfold bg;cases idx rs r <;> simp
theorem kC (rs:List Rw) (r:Rw):(bg rs r).2 < (bg rs r).1.length:=by
 unfold bg;cases e:idx rs r with
 | none=>simp
 | some i=>exact Ek e
def Tr.putR:Tr->List Rw->List Rw×Nat
 | .no t,rs=>bg (t.putR rs).1 (eZ "not" [(t.putR rs).2])
 | .fold w a b,rs=>bg (b.putR (a.putR rs).1).1 (eZ w.str [(a.putR rs).2,(b.putR (a.putR rs).1).2])
 | .never,rs=>bg rs (eZ "never" [])
 | .always,rs=>bg rs (eZ "always" [])
 | .lp,rs=>bg rs (eZ "p" [])
 | .lq,rs=>bg rs (eZ "q" [])
def Tr.rows (t:Tr):List Rw:=(t.putR []).1
theorem ik:∀(t:Tr) (rs:List Rw),(t.putR rs).1.length<=rs.length+t.size
 | .no t,rs=>by
  have:=ik t rs;have:=iW (t.putR rs).1 (eZ "not" [(t.putR rs).2]);simp only [Tr.putR,Tr.size];omega
 | .fold w a b,rs=>by
  have:=ik a rs;have:=ik b (a.putR rs).1;have:=iW (b.putR (a.putR rs).1).1 (eZ w.str [(a.putR rs).2,(b.putR (a.putR rs).1).2]);simp only [Tr.putR,Tr.size];omega
 | .never,rs=>iW _ _
 | .always,rs=>iW _ _
 | .lp,rs=>iW _ _
 | .lq,rs=>iW _ _
theorem zG:∀(t:Tr) (rs:List Rw),(t.putR rs).2 < (t.putR rs).1.length
 | .no t,rs=>kC _ _
 | .fold w a b,rs=>kC _ _
 | .never,rs=>kC _ _
 | .always,rs=>kC _ _
 | .lp,rs=>kC _ _
 | .lq,rs=>kC _ _
def vF (s:List Rw×List Nat) (x:Tr):Option (List Rw×List Nat):=
 if s.2.length < x.kids.length then none else
  some ((bg s.1 (eZ x.word (s.2.take x.kids.length).reverse)).1,(bg s.1 (eZ x.word (s.2.take x.kids.length).reverse)).2::s.2.drop x.kids.length)
def rh:List Rw×List Nat->List Tr->Option (List Rw×List Nat)
 | s,[]=>some s
 | s,t::r=>(vF s t).bind λs'=>rh s' r
theorem kA:∀(t:Tr) (rs:List Rw) (st:List Nat) (r:List Tr),rh (rs,st) (t.post++r)=rh ((t.putR rs).1,(t.putR rs).2::st) r
 | .no t,rs,st,r=>by
  show rh (rs,st) (t.post++[.no t]++r)=_;rw [List.append_assoc,kA t rs st];rfl
 | .fold w a b,rs,st,r=>by
  show rh (rs,st) (a.post++b.post++[.fold w a b]++r)=_;rw [List.append_assoc,List.append_assoc,kA a rs st,kA b _ _];rfl
 | .never,rs,st,r=>rfl
 | .always,rs,st,r=>rfl
 | .lp,rs,st,r=>rfl
 | .lq,rs,st,r=>rfl
theorem CZ (t:Tr):rh ([],[]) t.post=some (t.rows,[(t.putR []).2]):=by
 have h:=kA t [] [] [];rw [List.append_nil] at h;rw [h];rfl
theorem AI {s Z:List Rw×List Nat} {t:Tr} {r:List Tr} (h:rh s (t::r)=some Z):∃ s',vF s t=some s'/\rh s' r=some Z:=by
 unfold rh at h;cases e:vF s t with
 | none=>rw [e] at h;cases h
 | some s'=>rw [e] at h;exact ⟨s',rfl,h⟩
theorem CY {s s':List Rw×List Nat} {x:Tr} (h:vF s x=some s'):x.kids.length<=s.2.length/\s'=((bg s.1 (eZ x.word (s.2.take x.kids.length).reverse)).1,(bg s.1 (eZ x.word (s.2.take x.kids.length).reverse)).2::s.2.drop x.kids.length):=by
 unfold vF at h;split at h
 ·cases h
 ·exact ⟨by omega,(Option.some.inj h).symm⟩
theorem EX {K:W.Frag} {H:Hp} {a b:Addr} {xs ys:List V} {Q:VK} (ea:H a=some (.tup xs)) (eb:H b=some (.tup ys)) (nx:xs≠[]) (hz:xs.length+ys.length<=sizeLine) (h:∀ p H',aH H H'->H' p=some (.tup (xs++ys))->Q (.ref p) H'):rCatT K (.ref a) (.ref b) H Q:=by
 refine ⟨a,b,xs,ys,rfl,rfl,SqT.of ea,SqT.of eb,nx,hz,λz=>?_,λ_ p hp=>h p _ (az hp _) af⟩;refine h a H (aH.refl _) ?_;rw [z,List.append_nil];exact ea
abbrev RwV (H:Hp) (v:V) (r:Rw):Prop:=∃ a,v=.ref a/\H a=some (.tup (r.map kV))
theorem RwV.to {H H':Hp} (e:Kp H H') (v:V) (r:Rw) (h:RwV H v r):RwV H' v r:=by
 obtain ⟨a,z,o⟩:=h;exact ⟨a,z,e _ _ o rfl⟩
theorem zC (x:Str) (is:List Nat):(eZ x is).map kV=V.str x::is.map λi:Nat=>V.int (i:Int):=by
 unfold eZ;rw [List.map_cons,List.map_map];rfl
def PlO (kvs:List (Rw×V)) (rs:List Rw):Prop:=kvs.length=rs.length/\∀ k,gS kvs k=(idx rs k).map λi:Nat=>V.int (i:Int)
theorem PlO.nil:PlO [] []:=⟨rfl,λ_=>rfl⟩
theorem PlO.put {kvs:List (Rw×V)} {rs:List Rw} {r:Rw} (h:PlO kvs rs) (n:idx rs r=none):PlO (putK kvs r (.int (rs.length:Int))) (rs++[r]):=by
 have hv:gS kvs r=none:=by rw [h.2 r,n];rfl
 refine ⟨by rw [Dm _ hv,List.length_append,List.length_append,h.1];rfl,λk=>?_⟩;rw [uO,idx_app]
 by_cases e:k=r
 ·subst e;rw [if_pos rfl,n];show _=(if k=k then some rs.length else none).map _;rw [if_pos rfl];rfl
 ·rw [if_neg e,h.2 k];cases idx rs k with
  | some i=>rfl
  | none =>
   show _=(if r=k then some rs.length else none).map _;rw [if_neg λz=>e z.symm]
def iP (c:CCs):Sp:=λvs H Q _=>∃(a:Addr) (t:Tr),vs=[.ref a]/\Ob c H a t/\t.size<=1000/\∀ l us H',aH H H'->H l=none->H' l=some (.lst us)->cg (RwV H') us t.rows->Q (.ref l) H'
end Mine
namespace L2
open PySem PySem.Spec PyProof.Rows
section
variable {X:Cx} {pins:List (Addr×Obj)} {σ:St} {H H':Hp} {s s':Shared} {h':Heap}
theorem Inv.turnedL {t':Nat} {fp:List Addr} (I:Inv X pins σ H s) (kp:∀ b o,b ∉ fp->s.heap.get? b=some o->h'.get? b=some o) (hf:∀ b∈fp,jg X pins H b):Inv X pins σ H {s with heap:=h',toks:=t' }:=by
 have far:∀ b u,H b=some u->b ∉ fp:=λb u e z=>by
  have:=(hf b z).1;rw [e] at this;cases this
 refine I.step (ch:=fp) (g':=s.gens) (d':=s.drawn) (λb hb=>⟨(hf b hb).2.2.2.1,(hf b hb).2.1,(hf b hb).2.2.2.2.1,(hf b hb).2.2.2.2.2⟩) (λb o _ _ hc e _=>kp b o hc e) (λb o _ _ hc e _=>⟨o.slots,kp b o hc e⟩) (λ_ _ _ _ n=>n)
  (λb o hc e=>⟨o,kp b o hc e⟩) (λ_ _ e=>e) (λ_ _ _ e=>e) (λb ps e=>⟨#[],by rw [e];simp⟩) (λm hm=>?_) (λb u e=>?_) I.bare
 ·obtain ⟨o,es,ep,ho,r⟩:=hm;exact ⟨o,es,ep,kp _ o (λz=>(hf _ z).2.1 rfl) ho,r⟩
 ·exact (I.hok b u e).stay (λc v hc q=>kp c v (hc.elim (λz=>by rw [z];exact far b u e) λz=>far c _ z) q) (λ_ q=>q) λ_ _ q=>q
theorem Inv.trackO {a:Addr} {o:HO} (I:Inv X pins σ H s) (n:H a=none) (new:X.s₀.heap.get? a=none) (hL:a≠X.env.locals) (hc:∀ x c,X.env.cells.lookup x=some c->c≠a) (hp:∀ p∈X.pn++pins,p.1≠a)
  (p:cq X.prog X.w (upd H a o) s.heap a o):Inv X pins σ (upd H a o) s:=
 ⟨I.ok,I.os,I.bare,⟨I.base.keep,I.base.slot,λb o e z hx=>by rw [aB (λq=>by rw [q,new] at e;cases e)];exact I.base.free b o e z hx,I.base.there,
   λb xs e=>by have q:=I.base.tups b xs e;rw [aB (aA q n)];exact q,λb o u e=>by have q:=I.base.frzs b o u e;rw [aB (aA q n)];exact q,
   λb ps e=>by obtain ⟨m,q⟩:=I.base.tbls b ps e;exact ⟨m,by rw [aB (aA q n)];exact q⟩⟩,
  I.loc,I.cell,by rw [aB (Ne.symm hL)];exact I.free,λx c e=>by rw [aB (hc x c e)];exact I.freeC x c e,
  λq hq=>by obtain ⟨a1,a2,a3⟩:=I.pin q hq;exact ⟨a1,by rw [aB (hp q hq)];exact a2,a3⟩,
  λb u e=>by
   by_cases hb:b=a
   ·subst hb;rw [af] at e;cases e
    exact p
   ·rw [aB hb] at e;exact (I.hok b u e).stay (λ_ _ _ z=>z) (λc z=>by rw [aB (aA z n)];exact z) λc xs z=>by rw [aB (aA z n)];exact z,
  I.len⟩
end
def ItT (go:Nat->Hp->Prop) (src:Nat->Hp->List V->Prop) (n:Nat->Hp->Prop):It:=
 ⟨go,λi H v H'=>∃(T:Addr) (vs:List V),H T=none/\v=.ref T/\H'=upd H T (.tup vs)/\src i H vs,n⟩
theorem mU {X:Cx} {elts:List Expr} {kk:Nat} {tpos:Pos} {I₀:Addr} {fp' wr fp:List Addr} {n:Nat} {Pt:Nat->Array Value->Prop} {St:Nat->Heap->Prop} {Mid:Nat->Addr->Heap->Prop} (W:WalksT X.prog X.w X.A I₀ fp' wr n Pt St Mid)
  {pins:List (Addr×Obj)} {s:Shared} {σ:L2.St} {H:Hp} {E:Value->Shared->Prop} {i:Nat} {vs:List V} {src:Nat->Hp->List V->Prop} {tn:Nat->Heap->Prop} (I:Inv X pins σ H s) (hf:∀ b∈fp,jg X pins H b) (hob:∀ b∈fp,∃ o,s.heap.get? b=some o) (hw:∀ b∈wr,b∈fp) (hi:i < n) (st:St i s.heap)
  (hv:∀ vals,Pt i vals->Vals vs vals.toList) (hz:vs.length<=sizeLine) (hsrc:src i H vs) (htn:∀ h,St (i+1) h->tn (i+1) h) {gop stp:Nat->Hp->Prop} :
  wpAny (model X.prog X.w) X.A (pyNext (.ref I₀)) (λr s1=>∃ u,r=some u/\
   wpAny (model X.prog X.w) X.A (letOwnedTupleGo (.Tuple elts kk tpos) (.ref I₀) u) (λ_ s2=>∃ x H',Inv X pins σ H' s2/\RelV x u/\(ItT gop src stp).yld i H x H'/\tn (i+1) s2.heap/\∀ b∈fp,H' b=none) E s1) E s:=by
 refine W.item i s _ _ hi st λT vals h1 tk hP hT hTup hM kp=>?_;refine ⟨.ref T,rfl,W.go elts kk tpos i T {s with heap:=h1,toks:=tk} _ _ hM λh2 hst kp2=>?_⟩
 have I1:Inv X pins σ H {s with heap:=h2,toks:=tk}:=I.turnedL (λb o hb e=>kp2 b o (λz=>hb (hw b z)) (kp b o (λz=>hb (hw b z)) e)) hf
 have nT:H T=none:=I.hok.fresh hT
 have tup:h2.IsTuple T vals:=by
  obtain ⟨o,e,r⟩:=hTup;exact ⟨o,kp2 T o (W.apart i T h1 hM) e,r⟩
 have new:X.s₀.heap.get? T=none:=by
  cases z:X.s₀.heap.get? T with
  | none=>rfl
  | some o=>exact absurd (Nat.lt_of_lt_of_le (Heap.lt_size z) (Nat.le_trans I.sz hT)) (Nat.lt_irrefl _)
 refine ⟨.ref T,upd H T (.tup vs),I1.trackO nT new (Nat.ne_of_gt (Nat.lt_of_lt_of_le I.lt hT)) (λx c e z=>?_) (λp hp z=>?_) ⟨hz,vals.toList,hv vals hP,(by rw [Array.toArray_toList];exact tup)⟩,rfl,⟨T,vs,nT,rfl,rfl,hsrc⟩,htn _ hst,λb hb=>?_⟩
 ·obtain ⟨v,o,ho,_⟩:=I.cell x c e;exact absurd (Nat.lt_of_lt_of_le (Heap.lt_size ho) (by rw [z];exact hT)) (Nat.lt_irrefl _)
 ·exact absurd (Nat.lt_of_lt_of_le (Heap.lt_size (I.pin p hp).1) (by rw [z];exact hT)) (Nat.lt_irrefl _)
 ·have e0:=(hf b hb).1;obtain ⟨o,ho⟩:=hob b hb;have bT:b≠T:=λz=>absurd (Nat.lt_of_lt_of_le (Heap.lt_size ho) (by rw [z];exact hT)) (Nat.lt_irrefl _);rw [aB bT];exact e0
def srcE (K:W.Frag) (a:Addr):Nat->Hp->List V->Prop:=λi H vs=>∃ x,vs=[.int i,x]/\∀ xs,SqL K H a xs->xs[i]?=some x
def ItE (K:W.Frag) (a:Addr):It:=ItT (λi H=>∃ xs x,SqL K H a xs/\xs[i]?=some x) (srcE K a) λi H=>∃ xs,SqL K H a xs/\xs.length<=i
theorem dA {h:Heap} {a b:Addr} {its:Array Value} {o:Obj} {T:String} (l:h.IsList a its) (e:h.get? b=some o) (c:o.cls=.type T) (n:T≠"list"):a≠b:=λz=>by
 obtain ⟨o',e',c',_⟩:=l;rw [z,e] at e';cases e'
 rw [c] at c';exact n (Value.type.inj c')
theorem Aq {P:Program} {w:World} {K:W.Frag} {elts:List Expr} {kk:Nat} {tpos:Pos} (a e it:Addr) (hei:e≠it) :
  Turn P w K (.Tuple elts kk tpos) (ItE K a) [e,it] e (λi h=>(∃ old,IsEnum h e it i old)/\h.IsListIter it a i) where
 mem:=by simp
 obj:=λi h st b hb=>by
  obtain ⟨⟨old,he⟩,o,ho,_,hd⟩:=st;rcases List.mem_cons.mp hb with rfl | hb
  ·exact ⟨_,he,λv z=>by cases z⟩
  ·rw [List.mem_singleton.mp hb];exact ⟨o,ho,λv z=>by rw [hd] at z;cases z⟩
 keep:=λi h h' st k=>by
  obtain ⟨⟨old,he⟩,l⟩:=st;exact ⟨⟨old,k e (by simp) _ he⟩,l.at λo z=>k it (by simp) o z⟩
 item:=by
  intro X hP hw hK hc i pins s σ H E I hf st hg;subst hP hw hK;obtain ⟨xs,x,hq,hx⟩:=hg;obtain ⟨its,rv,p,hz⟩:=I.list hq;obtain ⟨u,hu,ru⟩:=rv.get hx;obtain ⟨⟨old,he⟩,hit⟩:=st;have hL:=p.isList;have ne1:a≠e:=dA hL he rfl (by decide)
  have ne2:a≠it:=by
   obtain ⟨o,ho,hc',_⟩:=id hit;exact dA hL ho hc' (by decide)
  have W:=WalksT.enumerateD (A:=X.A) (Draws.list (prog:=X.prog) (w:=X.w) (A:=X.A.in1) (I.ok.hd hc) it a ne2 its.toArray) e hei (by simp;exact ⟨hei,Ne.symm ne1⟩) (by simp);refine mU (fp:=[e,it]) (vs:=[.int i,x]) (src:=srcE X.K a) (tn:=λi h=>(∃ old,IsEnum h e it i old)/\h.IsListIter it a i) W I hf (λb hb=>?_) (λb hb=>hb) (by have:=(List.getElem?_eq_some_iff.mp hu).1;simpa using this) ⟨⟨old,he⟩,hit,hL⟩ (λvals hP=>?_) (by show 2<=sizeLine;decide) ⟨x,rfl,λys hy=>by rw [I.list_inj hy hq];exact hx⟩ λh st=>⟨?_,st.2.1⟩
  ·rcases List.mem_cons.mp hb with rfl | hb
   ·exact ⟨_,he⟩
   ·rw [List.mem_singleton.mp hb];obtain ⟨o,ho,_⟩:=id hit;exact ⟨o,ho⟩
  ·obtain ⟨t,y,hy,rfl⟩:=hP
   have ey:y=u:=by
    have:its[i]?=some y:=by simpa using hy
    rw [hu] at this;exact (Option.some.inj this).symm
   subst ey;exact .cons ⟨t,rfl⟩ (.cons ru .nil)
  ·obtain ⟨old',z⟩:=st.1;exact ⟨old',z⟩
 done:=by
  intro X hP hw hK hc i pins s σ H E I hf st hg;subst hP hw hK;obtain ⟨xs,hq,hx⟩:=hg;obtain ⟨its,rv,p,hz⟩:=I.list hq;obtain ⟨⟨old,he⟩,hit⟩:=st;have hl:=rv.length;obtain ⟨f0,f1,f2,f3,f4,f5⟩:=hf it (by simp);exact wpAny_pyNext_enum_end (I.ok.hd hc) he hit p.isList (by simp;omega) λh' eb=>⟨rfl,I.turned (t':=s.toks) (λb o hb e=>eb b o hb e) f0 f1 f3 f4 f5⟩
 self:=λ_ _ _ _ _ st h=>by
  obtain ⟨⟨old,he⟩,_⟩:=st;exact wpAny_pyIter_enum he h
section
variable {X:Cx}
def iEnum (K:W.Frag) (tl:TE):TI:=λσ H R=>tl σ H λx H1=>∃ a,x=.ref a/\(∃ xs,SqL K H1 a xs)/\R (ItE K a) H1
theorem zJ {elts:List Expr} {kk:Nat} {tpos p pos:Pos} {e:Expr} {te:TE} (hg:Gl X "enumerate") (hm:X.mg "enumerate"=none) (he:PE X e te)
  (hs:starEach [e] X.env=[(false,eval e X.env)]:=by rfl):PI X (.Tuple elts kk tpos) (.Call (.Name "enumerate" p) [e] [] pos) (iEnum X.K te):=by
 intro pins s σ H R I h;have b1:bootBuiltins "enumerate"=some (.type "enumerate"):=by decide+kernel
 refine wpAny_Call_Name_kw (jX I hg hm b1 ?_ (by decide) (by decide));refine PyProof.Rows.callWith_type1 ?_ hs (by rfl);rw [hs];refine Calls.spliced_cons (thn (he pins s σ H _ I h) λu s1 zz=>?_);obtain ⟨y,H1,I1,ry,a,ey,⟨xs,hq⟩,q⟩:=zz;subst ey;have eu:u=Value.ref a:=ry;subst eu;refine Calls.spliced_nil ?_;obtain ⟨its,rv,pl,hz⟩:=I1.list hq;refine call_enumerate_list pl.isList λh' e1 e2 e3 kp=>?_;have I2:Inv X pins σ H1 {s1 with heap:=h' }:=I1.kept (t':=s1.toks) kp
 refine wpAny_pyIter_enum (s:={s1 with heap:=h' }) e1 ?_
 refine ⟨_,[s1.heap.objs.size+1,s1.heap.objs.size],_,ItE X.K a,H1,rfl,I2,Aq a _ _ (Nat.ne_of_gt (Nat.lt_succ_self _)),⟨⟨_,e1⟩,e2⟩,λb hb=>?_,q⟩
 have nb:s1.heap.objs.size<=b:=by
  rcases List.mem_cons.mp hb with rfl | hb
  ·exact Nat.le_succ _
  ·rw [List.mem_singleton.mp hb];exact Nat.le_refl _
 exact I1.fpOk nb (I1.hok.fresh nb)
end
theorem wF {K:W.Frag} {a:Addr} {xs:List V} {g:TG} {tb:TS} {D:Ends} {σ:St} {H:Hp} (Pv:Nat->St->Hp->Prop) (h0:Pv 0 σ H) (hl:∀ i σ H,i<=xs.length->Pv i σ H->SqL K H a xs)
  (hs:∀ i x T σ H,xs[i]?=some x->Pv i σ H->H T=none->g (.ref T) σ (upd H T (.tup [.int i,x])) λσ2 H2=>tb {D with nx:=Pv (i+1),ct:=Pv (i+1),bk:=D.nx} σ2 H2) (hd:∀ σ H,Pv xs.length σ H->D.nx σ H) :
  ∃ W:Nat->Nat->St->Hp->Prop,(∃ m,W 0 m σ H)/\∀ i m σ H,W i m σ H->
   ((ItE K a).stop i H/\D.nx σ H)\/((ItE K a).go i H/\∃ N:St->Hp->Prop,(∀ σ' H',N σ' H'->∃ m',m' < m/\W (i+1) m' σ' H')/\∀ x H',(ItE K a).yld i H x H'->g x σ H' λσ2 H2=>tb {D with nx:=N,ct:=N,bk:=D.nx} σ2 H2):=by
 refine ⟨λi m σ H=>m=xs.length - i/\i<=xs.length/\Pv i σ H,⟨xs.length,by simp,Nat.zero_le _,h0⟩,?_⟩;rintro i m σ H ⟨rfl,hi,p⟩
 have q:=hl i σ H hi p
 by_cases hlt:i < xs.length
 ·refine .inr ⟨⟨xs,xs[i],q,by simp [hlt]⟩,Pv (i+1),λσ' H' p'=>⟨xs.length - (i+1),by omega,rfl,hlt,p'⟩,λx H' y=>?_⟩;obtain ⟨T,vs,nT,rfl,rfl,x,rfl,hx⟩:=y;exact hs i x T σ H (hx xs q) p nT
 ·have e:i=xs.length:=by omega
  subst e;exact .inl ⟨⟨xs,q,Nat.le_refl _⟩,hd σ H p⟩
open PySem.AutoSeq1
abbrev xB (t:Addr):Obj:={cls:=.type "tuple_iterator",data:=.fields #[.ref t,.int 0 0] }
section
variable {prog:Program} {w:World} {A:Around} {E:Value->Shared->Prop} {s:Shared}
theorem qt {it t:Addr} {i:Nat} {ys:Array Value} {x:Value} {Q:Value->Shared->Prop} (st:s.heap.IsTupleIter it t i) (tp:s.heap.IsTuple t ys) (e:ys[i]?=some x)
  (k:∀ h',h'.IsTupleIter it t (i+1)->Heap.SameBut it s.heap h'->Q x {s with heap:=h' }):wpAny (model prog w) A (Builtin.SmallTypes.nextOf (.ref it)) Q E s:=by
 obtain ⟨ob,gb,cb,db⟩:=id st;obtain ⟨ot,gt,_,nt,dt⟩:=tp;unfold Builtin.SmallTypes.nextOf;refine wpAny_bind (wpAny_callSpecial?_slot (name:=Str.ofString "__next__") st.typeIs F.slot_tuple_iterator_next (wpAny_call_entry F.slot_tuple_iterator_next st.typeIs F.entry_tuple_iterator_next ?_ (F.args_tuple_iterator_next_1 _)));show wpAny _ _ (field (.ref it) 0 >>= _) _ _ s;refine wpAny_bind (wpAny_field gb db (x:=.ref t) rfl ?_);show wpAny _ _ (if (Value.ref t == Value.none)=true then _ else _) _ _ s;rw [if_neg (show ¬ ((Value.ref t == Value.none)=true) from Bool.false_ne_true)];show wpAny _ _ (field (.ref it) 1 >>= _) _ _ s;refine wpAny_bind (wpAny_field gb db (x:=.int i 0) rfl ?_);show wpAny _ _ (seqItems? (.ref t) >>= _) _ _ s;refine wpAny_bind (wpAny_seqItems gt dt ?_);simp only [Int.toNat_natCast,e];refine wpAny_bind (wpAny_setField gb db (by simp) (wpAny_pure ⟨x,rfl,wpAny_pure (k _ ?_ (Heap.SameBut.update ..))⟩));exact ⟨_,Heap.get?_update_self _ gb (Obj.isFreed_of_fields (Obj.data_mapFields db _)),(Obj.cls_mapFields ..).trans cb,by rw [Obj.data_mapFields db];simp [rawInt]⟩
theorem rj {it t:Addr} {i:Nat} {ys:Array Value} {Q:Value->Shared->Prop} (hd:A.handled=none) (st:s.heap.IsTupleIter it t i) (tp:s.heap.IsTuple t ys) (e:ys[i]?=none)
  (k:∀ h' x,Heap.ExtBut it s.heap h'->(∃ o,h'.get? x=some o/\o.cls=.type "StopIteration")->E (.ref x) {s with heap:=h' }):wpAny (model prog w) A (Builtin.SmallTypes.nextOf (.ref it)) Q E s:=by
 obtain ⟨ob,gb,cb,db⟩:=id st;obtain ⟨ot,gt,_,nt,dt⟩:=tp;unfold Builtin.SmallTypes.nextOf;refine wpAny_bind (wpAny_callSpecial?_slot (name:=Str.ofString "__next__") st.typeIs F.slot_tuple_iterator_next (wpAny_call_entry F.slot_tuple_iterator_next st.typeIs F.entry_tuple_iterator_next ?_ (F.args_tuple_iterator_next_1 _)));show wpAny _ _ (field (.ref it) 0 >>= _) _ _ s;refine wpAny_bind (wpAny_field gb db (x:=.ref t) rfl ?_);show wpAny _ _ (if (Value.ref t == Value.none)=true then _ else _) _ _ s;rw [if_neg (show ¬ ((Value.ref t == Value.none)=true) from Bool.false_ne_true)];show wpAny _ _ (field (.ref it) 1 >>= _) _ _ s;refine wpAny_bind (wpAny_field gb db (x:=.int i 0) rfl ?_);show wpAny _ _ (seqItems? (.ref t) >>= _) _ _ s;refine wpAny_bind (wpAny_seqItems gt dt ?_);simp only [Int.toNat_natCast,e];refine wpAny_bind (wpAny_rule (wpAny_bind (wpAny_setField gb db (by simp) ?_)));show wpAny _ _ (newExc (.type "StopIteration") [] >>= _) _ _ _;refine wpAny_bind ?_;simp only [newExc,newTuple];refine wpAny_bind (wpAny_newObj_type ?_ (by size_fits));refine wpAny_bind (m:=firstArgMember _ _) (wpAny_of_eq (a:=Value.none) (by first | rfl | (simp only [firstArgMember];rfl)) ?_);refine wpAny_newObj_type ?_ (by size_fits);simp only [raiseNew];refine wpAny_bind (wpAny_handled ?_);first | rw [show A.in1.handled=none from hd] | rw [hd]
 refine wpAny_bind (wpAny_pure (wpAny_throw ?_));exact k _ _ (((Heap.SameBut.update ..).extBut.push _).push _) ⟨_,Heap.get?_push_size _ rfl,rfl⟩
end
section
variable {X:Cx}
end
def srcZ (K:W.Frag) (a b:Addr):Nat->Hp->List V->Prop:=λi H vs=>∃ x y,vs=[x,y]/\(∀ xs,SqL K H a xs->xs[i]?=some x)/\∀ ys,SqL K H b ys->ys[i]?=some y
def ItZ (K:W.Frag) (a b:Addr):It:=ItT (λi H=>∃ xs ys x y,SqL K H a xs/\SqL K H b ys/\xs[i]?=some x/\ys[i]?=some y) (srcZ K a b) λi H=>∃ xs ys,SqL K H a xs/\SqL K H b ys/\(xs.length<=i\/ys.length<=i)
structure ZOwn (z TI TO i1 i2:Addr):Prop where
 a1:TI≠z
 a2:TO≠z
 a3:i1≠z
 a4:i2≠z
 a5:TI≠TO
 a6:TI≠i1
 a7:TI≠i2
 a8:TO≠i1
 a9:TO≠i2
 a10:i1≠i2
def tnZ (a b z TI TO i1 i2:Addr) (i:Nat) (h:Heap):Prop:=IsZip h z TI TO .none/\IsPair h TI (.ref i1) (.ref i2)/\(∃ u v,IsPair h TO u v)/\h.IsListIter i1 a i/\h.IsListIter i2 b i
theorem BV {h:Heap} {a b z TI TO i1 i2:Addr} {i:Nat} {xs ys:Array Value} (o:ZOwn z TI TO i1 i2) (st:tnZ a b z TI TO i1 i2 i h) (la:h.IsList a xs) (lb:h.IsList b ys):ZipApart z TI TO i1 i2 a b:=by
 obtain ⟨hz,hTI,⟨u,v,hTO⟩,h1,h2⟩:=st;obtain ⟨o1,g1,c1,_⟩:=h1;obtain ⟨o2,g2,c2,_⟩:=h2;refine ⟨o.a1,o.a2,o.a3,o.a4,o.a5,o.a6,o.a7,o.a8,o.a9,o.a10,?_,?_,?_,?_,?_,?_,?_,?_⟩
 all_goals first
  | exact dA la hz rfl (by decide)
  | exact dA la hTO rfl (by decide)
  | exact dA la g1 c1 (by decide)
  | exact dA la g2 c2 (by decide)
  | exact dA lb hz rfl (by decide)
  | exact dA lb hTO rfl (by decide)
  | exact dA lb g1 c1 (by decide)
  | exact dA lb g2 c2 (by decide)
theorem zobj {h:Heap} {a b z TI TO i1 i2:Addr} {i:Nat} (st:tnZ a b z TI TO i1 i2 i h):∀ c∈[z,TI,TO,i1,i2],∃ o,h.get? c=some o/\∀ v,o.data≠.cell v:=by
 intro c hc;obtain ⟨hz,hTI,⟨u,v,hTO⟩,⟨o1,g1,_,d1⟩,⟨o2,g2,_,d2⟩⟩:=st;simp only [List.mem_cons,List.not_mem_nil,or_false] at hc;rcases hc with rfl | rfl | rfl | rfl | rfl
 ·exact ⟨_,hz,λv z=>by cases z⟩
 ·exact ⟨_,hTI,λv z=>by cases z⟩
 ·exact ⟨_,hTO,λv z=>by cases z⟩
 ·exact ⟨_,g1,λv z=>by rw [d1] at z;cases z⟩
 ·exact ⟨_,g2,λv z=>by rw [d2] at z;cases z⟩
theorem BY {P:Program} {w:World} {K:W.Frag} {elts:List Expr} {kk:Nat} {tpos:Pos} (a b z TI TO i1 i2:Addr) (own:ZOwn z TI TO i1 i2) :
  Turn P w K (.Tuple elts kk tpos) (ItZ K a b) [z,TI,TO,i1,i2] z (tnZ a b z TI TO i1 i2) where
 mem:=by simp
 obj:=λi h st c hc=>zobj st c hc
 keep:=λi h h' st k=>by
  obtain ⟨hz,hTI,⟨u,v,hTO⟩,l1,l2⟩:=st;exact ⟨k z (by simp) _ hz,k TI (by simp) _ hTI,⟨u,v,k TO (by simp) _ hTO⟩,l1.at λo q=>k i1 (by simp) o q,l2.at λo q=>k i2 (by simp) o q⟩
 item:=by
  intro X hP hw hK hc i pins s σ H E I hf st hg;subst hP hw hK;obtain ⟨xs,ys,x,y,hq,hq2,hx,hy⟩:=hg;obtain ⟨its,rv,p,hz⟩:=I.list hq;obtain ⟨its2,rv2,p2,hz2⟩:=I.list hq2;obtain ⟨u,hu,ru⟩:=rv.get hx;obtain ⟨u2,hu2,ru2⟩:=rv2.get hy;have D:=BV own st p.isList p2.isList;have W:=WalksT.zip2 (prog:=X.prog) (w:=X.w) (A:=X.A) (I.ok.hd hc) z TI TO i1 i2 a b D its.toArray its2.toArray;have l1:=(List.getElem?_eq_some_iff.mp hu).1;have l2:=(List.getElem?_eq_some_iff.mp hu2).1;obtain ⟨s1,s2,s3,s4,s5⟩:=id st
  refine mU (fp:=[z,TI,TO,i1,i2]) (vs:=[x,y]) (src:=srcZ X.K a b) (tn:=tnZ a b z TI TO i1 i2) W I hf (λc hc=>let ⟨o,q,_⟩:=zobj st c hc;⟨o,q⟩) (λc hc=>?_) (by simp only [List.size_toArray];omega) ⟨s1,s2,s3,s4,s5,p.isList,p2.isList⟩ (λvals hP=>?_) (by show 2<=sizeLine;decide)
   ⟨x,y,rfl,λzs hzs=>by rw [I.list_inj hzs hq];exact hx,λzs hzs=>by rw [I.list_inj hzs hq2];exact hy⟩ λh st=>⟨st.1,st.2.1,st.2.2.1,st.2.2.2.1,st.2.2.2.2.1⟩
  ·simp only [List.mem_cons,List.not_mem_nil,or_false] at hc ⊢;rcases hc with q | q | q | q <;> simp [q]
  ·obtain ⟨v1,v2,e1,e2,rfl⟩:=hP
   have f1:v1=u:=by
    have q:its[i]?=some v1:=by simpa using e1
    rw [hu] at q;exact (Option.some.inj q).symm
   have f2:v2=u2:=by
    have q:its2[i]?=some v2:=by simpa using e2
    rw [hu2] at q;exact (Option.some.inj q).symm
   subst f1 f2;exact .cons ru (.cons ru2 .nil)
 done:=by
  intro X hP hw hK hc i pins s σ H E I hf st hg;subst hP hw hK;obtain ⟨xs,ys,hq,hq2,hend⟩:=hg;obtain ⟨its,rv,p,hz⟩:=I.list hq;obtain ⟨its2,rv2,p2,hz2⟩:=I.list hq2;have D:=BV own st p.isList p2.isList;obtain ⟨s1,s2,⟨u,v,s3⟩,s4,s5⟩:=id st;have e1:=rv.length;have e2:=rv2.length
  refine wpAny_pyNext_zip_end (I.ok.hd hc) D s1 s2 s3 s4 s5 p.isList p2.isList (by
   rcases hend with q | q
   ·exact .inl (by simp;omega)
   ·exact .inr (by simp;omega)) λh' kp=>⟨rfl,I.turnedL (t':=s.toks) (λc o hc q=>kp c o (λe=>hc (by simp [e])) (λe=>hc (by simp [e])) (λe=>hc (by simp [e])) (λe=>hc (by simp [e])) q) hf⟩
 self:=λ_ _ _ _ _ st h=>wpAny_pyIter_zip st.1 h
section
variable {X:Cx}
def iZip (K:W.Frag) (ta tb:TE):TI:=λσ H R=>ta σ H λx H1=>tb σ H1 λy H2=>∃ a b,x=.ref a/\y=.ref b/\(∃ xs,SqL K H2 a xs)/\(∃ ys,SqL K H2 b ys)/\R (ItZ K a b) H2
theorem Dr {elts:List Expr} {kk:Nat} {tpos p pos:Pos} {e f:Expr} {te tf:TE} (hg:Gl X "zip") (hm:X.mg "zip"=none) (he:PE X e te) (hf:PE X f tf)
  (hs:starEach [e,f] X.env=[(false,eval e X.env),(false,eval f X.env)]:=by rfl) (hs2:starEach [f] X.env=[(false,eval f X.env)]:=by rfl):PI X (.Tuple elts kk tpos) (.Call (.Name "zip" p) [e,f] [] pos) (iZip X.K te tf):=by
 intro pins s σ H R I h;have b1:bootBuiltins "zip"=some (.type "zip"):=by decide+kernel
 refine wpAny_Call_Name_kw (jX I hg hm b1 ?_ (by decide) (by decide));refine PyProof.Rows.callWith_type1 ?_ (by rw [hs,hs2]) (by rw [hs2];rfl);rw [hs];refine Calls.spliced_cons (thn (he pins s σ H _ I h) λu s1 zz=>?_);obtain ⟨x,H1,I1,rx,q1⟩:=zz;refine Calls.spliced_cons (thn (hf pins s1 σ H1 _ I1 q1) λu2 s2 zz=>?_);obtain ⟨y,H2,I2,ry,a,b,ex,ey,⟨xs,hq⟩,⟨ys,hq2⟩,q⟩:=zz;subst ex ey;have eu:u=Value.ref a:=rx;have eu2:u2=Value.ref b:=ry;subst eu eu2;refine Calls.spliced_nil ?_;obtain ⟨its,rv,pl,hz⟩:=I2.list hq;obtain ⟨its2,rv2,pl2,hz2⟩:=I2.list hq2;refine call_zip_2 pl.isList pl2.isList λh' z TI TO i1 i2 sz kp=>?_;have I3:Inv X pins σ H2 {s2 with heap:=h' }:=I2.kept (t':=s2.toks) kp
 refine wpAny_pyIter_zip (s:={s2 with heap:=h' }) z ?_
 have ne:∀ i j:Nat,i≠j->s2.heap.objs.size+i≠s2.heap.objs.size+j:=λi j hij e=>hij (Nat.add_left_cancel e)
 refine ⟨_,[s2.heap.objs.size+4,s2.heap.objs.size+2,s2.heap.objs.size+3,s2.heap.objs.size,s2.heap.objs.size+1],_,ItZ X.K a b,H2,rfl,I3,
  BY a b _ _ _ _ _ ⟨ne 2 4 (by decide),ne 3 4 (by decide),ne 0 4 (by decide),ne 1 4 (by decide),ne 2 3 (by decide),ne 2 0 (by decide),ne 2 1 (by decide),ne 3 0 (by decide),ne 3 1 (by decide),ne 0 1 (by decide)⟩,
  ⟨z,TI,⟨_,_,TO⟩,i1,i2⟩,λc hc=>?_,q⟩
 have nb:s2.heap.objs.size<=c:=by
  simp only [List.mem_cons,List.not_mem_nil,or_false] at hc;rcases hc with rfl | rfl | rfl | rfl | rfl
  ·exact Nat.le_add_right _ _
  ·exact Nat.le_add_right _ _
  ·exact Nat.le_add_right _ _
  ·exact Nat.le_refl _
  ·exact Nat.le_add_right _ _
 exact I2.fpOk nb (I2.hok.fresh nb)
end
section
variable {X:Cx}
end
section
variable {X:Cx}
end
section
variable {X:Cx}
end
end L2
namespace Mine
open PySem L2
inductive Gr where
 | ne | al | p | q
 | no (i:Nat)
 | fold (u:W5) (i j:Nat)
def Gr.word:Gr->Str
 | .ne=>"never" | .al=>"always" | .p=>"p" | .q=>"q" | .no _=>"not" | .fold u _ _=>u.str
def Gr.nums:Gr->List Nat
 | .no i=>[i]
 | .fold _ i j=>[i,j]
 | _=>[]
def Gr.rw (g:Gr):Rw:=eZ g.word g.nums
def GrOk (k:Nat) (g:Gr):Prop:=∀ i∈g.nums,i < k
def GrsOk (gs:List Gr):Prop:=∀ k g,gs[k]?=some g->GrOk k g
def GrT (ts:List Tr):Gr->Tr->Prop
 | .ne,.never=>True
 | .al,.always=>True
 | .p,.lp=>True
 | .q,.lq=>True
 | .no i,.no t=>ts[i]?=some t
 | .fold u i j,.fold v a b=>u=v/\ts[i]?=some a/\ts[j]?=some b
 | _,_=>False
theorem kJ {α:Type} {ts e:List α} {i:Nat} {t:α} (h:ts[i]?=some t):(ts++e)[i]?=some t:=by
 rw [List.getElem?_append_left (List.getElem?_eq_some_iff.mp h).1];exact h
theorem GrT.more {ts e:List Tr} {g:Gr} {t:Tr} (h:GrT ts g t):GrT (ts++e) g t:=by
 cases g <;> cases t <;> first | exact h | exact kJ h | exact ⟨h.1,kJ h.2.1,kJ h.2.2⟩
theorem mZ {α:Type} {o:Option α} {a b:α} (h:o=some a) (k:o=some b):a=b:=by rw [h] at k;exact Option.some.inj k
theorem GrT.uniq {ts:List Tr} {g:Gr} {t t':Tr} (h:GrT ts g t) (k:GrT ts g t'):t=t':=by
 cases g with
 | no i =>
  cases t <;> first | exact h.elim | skip
  cases t' <;> first | exact k.elim | skip
  exact congrArg Tr.no (mZ h k)
 | fold u i j =>
  cases t <;> first | exact h.elim | skip
  cases t' <;> first | exact k.elim | skip
  obtain ⟨rfl,h1,h2⟩:=h;obtain ⟨rfl,k1,k2⟩:=k;rw [mZ h1 k1,mZ h2 k2]
 | ne=>cases t <;> first | exact h.elim | (cases t' <;> first | exact k.elim | rfl)
 | al=>cases t <;> first | exact h.elim | (cases t' <;> first | exact k.elim | rfl)
 | p=>cases t <;> first | exact h.elim | (cases t' <;> first | exact k.elim | rfl)
 | q=>cases t <;> first | exact h.elim | (cases t' <;> first | exact k.elim | rfl)
theorem w5_inj {u v:W5} (h:u.str=v.str):u=v:=by
 cases u <;> cases v <;> first | rfl | exact absurd h (by decide+kernel)
theorem vZ:∀{a b:List Nat},(a.map λi:Nat=>(Sum.inl (i:Int):Key))=b.map (λi:Nat=>(Sum.inl (i:Int):Key))->a=b
 | [],[],_=>rfl
 | [],_::_,h=>nomatch h
 | _::_,[],h=>nomatch h
 | x::a,y::b,h=>by
  have e1:=(List.cons.inj h).1;have e2:=vZ (List.cons.inj h).2;have:(x:Int)=(y:Int):=Sum.inl.inj e1;rw [e2,show x=y by omega]
theorem CP {g k:Gr} (h:g.rw=k.rw):g=k:=by
 have e1:g.word=k.word:=Sum.inr.inj (List.cons.inj h).1;have e2:g.nums=k.nums:=vZ (List.cons.inj h).2;cases g with
 | no i =>
  cases k with
  | no j=>rw [show i=j from (List.cons.inj e2).1]
  | fold u a b=>exact absurd (congrArg List.length e2) (by show 1≠2;decide)
  | _=>exact nomatch e2
 | fold u a b =>
  cases k with
  | no j=>exact absurd (congrArg List.length e2) (by show 2≠1;decide)
  | fold v c d =>
   have z:=List.cons.inj e2;rw [w5_inj e1,z.1,(List.cons.inj z.2).1]
  | _=>exact nomatch e2
 | ne=>cases k <;> first | rfl | exact absurd e1 (by decide+kernel) | exact absurd (congrArg List.length e2) (by show 0≠1;decide) | exact absurd (congrArg List.length e2) (by show 0≠2;decide)
 | al=>cases k <;> first | rfl | exact absurd e1 (by decide+kernel) | exact absurd (congrArg List.length e2) (by show 0≠1;decide) | exact absurd (congrArg List.length e2) (by show 0≠2;decide)
 | p=>cases k <;> first | rfl | exact absurd e1 (by decide+kernel) | exact absurd (congrArg List.length e2) (by show 0≠1;decide) | exact absurd (congrArg List.length e2) (by show 0≠2;decide)
 | q=>cases k <;> first | rfl | exact absurd e1 (by decide+kernel) | exact absurd (congrArg List.length e2) (by show 0≠1;decide) | exact absurd (congrArg List.length e2) (by show 0≠2;decide)
inductive Tab:List Gr->List Tr->Prop where
 | nil:Tab [] []
 | snoc {gs:List Gr} {ts:List Tr} {g:Gr} {t:Tr}:Tab gs ts->GrT ts g t->Tab (gs++[g]) (ts++[t])
theorem Tab.len {gs:List Gr} {ts:List Tr} (h:Tab gs ts):gs.length=ts.length:=by
 induction h with
 | nil=>rfl
 | snoc _ _ ih=>rw [List.length_append,List.length_append,ih];rfl
theorem Tab.at {gs:List Gr} {ts:List Tr} (h:Tab gs ts):∀{i:Nat} {g:Gr},gs[i]?=some g->∃ t,ts[i]?=some t/\GrT ts g t:=by
 induction h with
 | nil=>intro i g e;cases e
 | @snoc gs ts g0 t0 h0 r ih =>
  intro i g e
  by_cases z:i < gs.length
  ·rw [List.getElem?_append_left z] at e;obtain ⟨t,e1,e2⟩:=ih e;exact ⟨t,kJ e1,e2.more⟩
  ·have z0:i=gs.length:=by
    have:=(List.getElem?_eq_some_iff.mp e).1;rw [List.length_append] at this;simp at this;omega
   subst z0;rw [List.getElem?_concat_length] at e;cases e
   refine ⟨t0,?_,r.more⟩;rw [h0.len,List.getElem?_concat_length]
theorem Tab.push {gs:List Gr} {ts:List Tr} {g:Gr} {t:Tr} (h:Tab gs ts) (r:GrT ts g t):∃ gs' ts',(bg (gs.map Gr.rw) g.rw).1=gs'.map Gr.rw/\Tab gs' ts'/\ts'[(bg (gs.map Gr.rw) g.rw).2]?=some t/\((t∈ts/\ts'=ts)\/ts'=ts++[t]):=by
 unfold bg;cases z:idx (gs.map Gr.rw) g.rw with
 | some i =>
  have e:=ym z;rw [List.getElem?_map] at e;cases y:gs[i]? with
  | none=>rw [y] at e;cases e
  | some k =>
   rw [y] at e;have ek:k=g:=CP (Option.some.inj e);subst ek;obtain ⟨t',e1,e2⟩:=h.at y;have et:=e2.uniq r;subst et;exact ⟨gs,ts,rfl,h,e1,.inl ⟨List.mem_of_getElem? e1,rfl⟩⟩
 | none =>
  refine ⟨gs++[g],ts++[t],by rw [List.map_append];rfl,.snoc h r,?_,.inr rfl⟩;show (ts++[t])[(gs.map Gr.rw).length]?=some t;rw [List.length_map,h.len,List.getElem?_concat_length]
theorem GrT.ok {ts:List Tr} {g:Gr} {t:Tr} (h:GrT ts g t):GrOk ts.length g:=by
 intro k hk;cases g with
 | no i =>
  cases t <;> first | exact h.elim | skip
  rw [show k=i by simpa [Gr.nums] using hk];exact (List.getElem?_eq_some_iff.mp h).1
 | fold u i j =>
  cases t <;> first | exact h.elim | skip
  obtain ⟨_,h1,h2⟩:=h;have z:k=i\/k=j:=by simpa [Gr.nums] using hk
  rcases z with rfl | rfl
  ·exact (List.getElem?_eq_some_iff.mp h1).1
  ·exact (List.getElem?_eq_some_iff.mp h2).1
 | ne=>exact nomatch hk
 | al=>exact nomatch hk
 | p=>exact nomatch hk
 | q=>exact nomatch hk
theorem Tab.ok {gs:List Gr} {ts:List Tr} (h:Tab gs ts):GrsOk gs:=by
 induction h with
 | nil=>intro k g e;cases e
 | @snoc gs ts g0 t0 h0 r ih =>
  intro k g e
  by_cases z:k < gs.length
  ·rw [List.getElem?_append_left z] at e;exact ih k g e
  ·have z0:k=gs.length:=by
    have:=(List.getElem?_eq_some_iff.mp e).1;rw [List.length_append] at this;simp at this;omega
   subst z0;rw [List.getElem?_concat_length] at e;cases e
   rw [h0.len];exact r.ok
theorem nF (t:Tr):t∈t.post:=by cases t <;> simp [Tr.post]
theorem cQ:∀(t x:Tr),x∈t.post->x.size<=t.size
 | .no t,x,h=>by
  rcases List.mem_append.mp (show x∈t.post++[.no t] from h) with h | h
  ·exact Nat.le_succ_of_le (cQ t x h)
  ·rw [List.mem_singleton.mp h];exact Nat.le_refl _
 | .fold u a b,x,h=>by
  rcases List.mem_append.mp (show x∈a.post++b.post++[.fold u a b] from h) with h | h
  ·rcases List.mem_append.mp h with h | h
   ·have:=cQ a x h;show _<=a.size+b.size+1;omega
   ·have:=cQ b x h;show _<=a.size+b.size+1;omega
  ·rw [List.mem_singleton.mp h];exact Nat.le_refl _
 | .never,x,h=>by rw [List.mem_singleton.mp h];exact Nat.le_refl _
 | .always,x,h=>by rw [List.mem_singleton.mp h];exact Nat.le_refl _
 | .lp,x,h=>by rw [List.mem_singleton.mp h];exact Nat.le_refl _
 | .lq,x,h=>by rw [List.mem_singleton.mp h];exact Nat.le_refl _
theorem qj:∀(t:Tr) {gs:List Gr} {ts:List Tr},Tab gs ts->∃ gs' e,(t.putR (gs.map Gr.rw)).1=gs'.map Gr.rw/\Tab gs' (ts++e)/\(ts++e)[(t.putR (gs.map Gr.rw)).2]?=some t/\(∀ x∈e,x∈t.post)/\(t ∉ ts->∃ e',e=e'++[t]):=by
 have leaf:∀(t:Tr) (g:Gr) {gs:List Gr} {ts:List Tr},Tab gs ts->GrT ts g t->∃ gs' e,(bg (gs.map Gr.rw) g.rw).1=gs'.map Gr.rw/\Tab gs' (ts++e)/\(ts++e)[(bg (gs.map Gr.rw) g.rw).2]?=some t/\(∀ x∈e,x∈t.post)/\(t ∉ ts->∃ e',e=e'++[t]):=by
  intro t g gs ts h r;obtain ⟨gs',ts',e1,e2,e3,e4⟩:=h.push r;rcases e4 with ⟨m,rfl⟩ | rfl
  ·exact ⟨gs',[],e1,by rw [List.append_nil];exact e2,by rw [List.append_nil];exact e3,(λ_ z=>by cases z),λz=>absurd m z⟩
  ·exact ⟨gs',[t],e1,e2,e3,λx z=>by rw [List.mem_singleton.mp z];exact nF t,λ_=>⟨[],rfl⟩⟩
 intro t
 induction t with
 | never=>intro gs ts h;exact leaf .never .ne h trivial
 | always=>intro gs ts h;exact leaf .always .al h trivial
 | lp=>intro gs ts h;exact leaf .lp .p h trivial
 | lq=>intro gs ts h;exact leaf .lq .q h trivial
 | no t ih =>
  intro gs ts h;obtain ⟨gs1,e,a1,a2,a3,a4,_⟩:=ih h;obtain ⟨gs2,ts2,b1,b2,b3,b4⟩:=a2.push (g:=.no (t.putR (gs.map Gr.rw)).2) (t:=.no t) a3;have key:(Tr.no t).putR (gs.map Gr.rw)=bg (gs1.map Gr.rw) (Gr.rw (.no (t.putR (gs.map Gr.rw)).2)):=by rw [<- a1];rfl
  rw [key];have up:∀ x∈t.post,x∈(Tr.no t).post:=λx z=>List.mem_append.mpr (.inl z);rcases b4 with ⟨m,rfl⟩ | rfl
  ·refine ⟨gs2,e,b1,b2,b3,λx z=>up x (a4 x z),λz=>?_⟩;rcases List.mem_append.mp m with m | m
   ·exact absurd m z
   ·exact absurd (cQ _ _ (a4 _ m)) (by show ¬t.size+1<=t.size;omega)
  ·refine ⟨gs2,e++[.no t],b1,by rw [<- List.append_assoc];exact b2,by rw [<- List.append_assoc];exact b3,λx z=>?_,λ_=>⟨e,rfl⟩⟩;rcases List.mem_append.mp z with z | z
   ·exact up x (a4 x z)
   ·rw [List.mem_singleton.mp z];exact nF _
 | fold u a b iha ihb =>
  intro gs ts h;obtain ⟨gs1,e,a1,a2,a3,a4,_⟩:=iha h;obtain ⟨gs2,f,c1,c2,c3,c4,_⟩:=ihb a2;have a3':=kJ (e:=f) a3;obtain ⟨gs3,ts3,b1,b2,b3,b4⟩:=c2.push (g:=.fold u (a.putR (gs.map Gr.rw)).2 (b.putR (gs1.map Gr.rw)).2) (t:=.fold u a b) ⟨rfl,a3',c3⟩
  have key:(Tr.fold u a b).putR (gs.map Gr.rw)=bg (gs2.map Gr.rw) (Gr.rw (.fold u (a.putR (gs.map Gr.rw)).2 (b.putR (gs1.map Gr.rw)).2)):=by
   show bg (b.putR (a.putR (gs.map Gr.rw)).1).1 (eZ u.str [(a.putR (gs.map Gr.rw)).2,(b.putR (a.putR (gs.map Gr.rw)).1).2])=_;rw [a1,c1];rfl
  rw [key];have ua:∀ x∈a.post,x∈(Tr.fold u a b).post:=λx z=>List.mem_append.mpr (.inl (List.mem_append.mpr (.inl z)));have ub:∀ x∈b.post,x∈(Tr.fold u a b).post:=λx z=>List.mem_append.mpr (.inl (List.mem_append.mpr (.inr z)))
  have sz:∀ x∈e++f,x.size<=a.size+b.size/\x∈(Tr.fold u a b).post:=λx z=>by
   rcases List.mem_append.mp z with z | z
   ·exact ⟨Nat.le_trans (cQ _ _ (a4 x z)) (Nat.le_add_right _ _),ua x (a4 x z)⟩
   ·exact ⟨Nat.le_trans (cQ _ _ (c4 x z)) (Nat.le_add_left _ _),ub x (c4 x z)⟩
  rw [List.append_assoc] at b4;rcases b4 with ⟨m,rfl⟩ | rfl
  ·refine ⟨gs3,e++f,b1,b2,b3,λx z=>(sz x z).2,λz=>?_⟩;rcases List.mem_append.mp m with m | m
   ·exact absurd m z
   ·exact absurd (sz _ m).1 (by show ¬a.size+b.size+1<=a.size+b.size;omega)
  ·refine ⟨gs3,e++f++[.fold u a b],b1,by rw [<- List.append_assoc];exact b2,by rw [<- List.append_assoc];exact b3,λx z=>?_,λ_=>⟨e++f,rfl⟩⟩;rcases List.mem_append.mp z with z | z
   ·exact (sz x z).2
   ·rw [List.mem_singleton.mp z];exact nF _
theorem Dd (t:Tr):∃ gs ts,t.rows=gs.map Gr.rw/\Tab gs (ts++[t])/\(∀ x∈ts++[t],x∈t.post)/\gs.length<=t.size:=by
 obtain ⟨gs,e,a1,a2,a3,a4,a5⟩:=qj t (gs:=[]) (ts:=[]) .nil;obtain ⟨e',rfl⟩:=a5 (λz=>nomatch z);have hl:=ik t [];rw [show (t.putR []).1=gs.map Gr.rw from a1,List.length_map] at hl;exact ⟨gs,e',a1,by simpa using a2,a4,by simpa using hl⟩
end Mine
namespace L2
open PySem PySem.Spec PyProof.Rows
variable {X:Cx}
theorem pe_bm0K {K:W.Frag} {T id:String} {name:Str} {r:V->List V->Hp->VK->Prop} {o:Expr} {to:TE} {apos cpos:Pos} (eK:X.K=K) (pa:PlainAttrs T) (slot:Slot T name id) (hty:typeOf (.builtin id)=pure (.type "method_descriptor")) (hm:MtR X id r) (ho:PE X o to)
  (hbase:attributeBase o name X.env (eval o X.env)=eval o X.env:=by rfl) (hline:(apos.endLine == cpos.line)=true:=by rfl):PE X (.Call (.Attribute o name apos) [] [] cpos) (tBM0 K T r to):=eK ▸ il pa slot hty hm ho hbase hline
def bW (X:Cx) (xs:List Str) (js:List Nat):List Str:=xs++js.map λj=>X.N.getD j ""
section
variable {X:Cx} {pins:List (Addr×Obj)} {σ:St} {H:Hp} {s:Shared} {scope:Scope} {cl:List (Str×Addr)} {xs:List Str} {js:List Nat} {fp:List Addr} {N:List Str}
theorem ET (I:Inv X pins σ H s) (hk:scope.kind=.function) (hcell:∀ y∈scope.names,y.2≠.cell)
  (hcl1:∀ y c,cl.lookup y=some c->X.env.cells.lookup y=some c) (hcl2:∀ y,(y,NameKind.free)∈scope.names->∃ c,cl.lookup y=some c)
  (hf:∀ b∈fp,jg X pins H b) (hlt:∀ b∈fp,b < s.heap.objs.size):(bC X scope cl N s H fp).Ok where
 mod:=I.ok.mod
 kind:=hk
 glob:=I.ok.glob
 blt:=I.ok.blt
 above:=Nat.le_refl _
 inj:=λy z c h1 h2=>I.ok.inj y z c (hcl1 y c h1) (hcl1 z c h2)
 has:=λy hy=>by
  have hy':(relabel scope X.env).names.lookup y=some .cell\/(relabel scope X.env).names.lookup y=some .free:=hy;rcases hy' with h | h
  ·obtain ⟨k',m,q⟩:=cR h;rcases q with q | ⟨_,q⟩
   ·exact absurd q (hcell _ m)
   ·subst q;exact hcl2 y m
  ·obtain ⟨k',m,q⟩:=cR h;rcases q with q | ⟨q,_⟩
   ·subst q;exact hcl2 y m
   ·cases q
 cab:=λy c h _=>by cases h
 hd:=I.ok.hd
 frames:=I.ok.frames
 stk:=.inl rfl
 exf:=λb hb=>⟨Nat.ne_of_lt (hlt b hb),λy c h=>(hf b hb).2.2.2.2.1 y c (hcl1 y c h)⟩
 bs:=I.bs
 bsz:=Nat.le_trans I.ok.bsz I.sz
 noex:=λb o e hb=>by
  rcases (hf b hb).2.2.2.1 with z | z
  ·exact I.ok.noex b o e z
  ·exact absurd (Nat.lt_of_lt_of_le (Heap.lt_size e) (Nat.le_trans I.ok.bsz z)) (Nat.lt_irrefl _)
 exfs:=λb hb hz=>(List.mem_cons.mp (I.stkSub b hz)).elim (hf b hb).2.1 (hf b hb).2.2.1
 funs:=I.stack
 frf:=I.stkFree
theorem wM {h₁:Heap} {tk:Nat} (I:Inv X pins σ H s) (hk:scope.kind=.function) (hcell:∀ y∈scope.names,y.2≠.cell)
  (hcl1:∀ y c,cl.lookup y=some c->X.env.cells.lookup y=some c) (hcl2:∀ y,(y,NameKind.free)∈scope.names->∃ c,cl.lookup y=some c) (hjs:fL X scope js)
  (hf:∀ b∈fp,jg X pins H b) (hlt:∀ b∈fp,b < s.heap.objs.size) {m:Str->Option Value} (hn:h₁.Ns s.heap.objs.size m) (hkeep:∀ b o,s.heap.get? b=some o->h₁.get? b=some o) :
  Inv (bC X scope cl (bW X xs js) s H fp) [] (List.replicate xs.length none++ck js σ) H {s with heap:=h₁,toks:=tk} where
 ok:=ET I hk hcell hcl1 hcl2 hf hlt
 os:=rfl
 bare:=I.bare
 base:=Un.kept hkeep
 loc:=by
  refine ⟨m,hn,λi y v h1 h2 h3=>?_⟩
  by_cases hik:i < xs.length
  ·rw [List.getElem?_append_left (by simpa using hik),List.getElem?_replicate_of_lt hik] at h2;cases h2
  ·generalize hkk:i - xs.length=k
   have h1':(js.map λj=>X.N.getD j "")[k]?=some y:=by
    have q:(xs++js.map λj=>X.N.getD j "")[i]?=some y:=h1;rw [List.getElem?_append_right (by omega),hkk] at q;exact q
   have h2':(js.map λj=>(σ[j]?).getD none)[k]?=some (some v):=by
    rw [List.getElem?_append_right (by simp;omega),List.length_replicate,hkk] at h2;exact h2
   rw [List.getElem?_map] at h1' h2';cases hj:js[k]? with
   | none=>rw [hj] at h1';cases h1'
   | some j =>
    rw [hj] at h1' h2';have e1:X.N.getD j ""=y:=Option.some.inj h1';have e2:(σ[j]?).getD none=some v:=Option.some.inj h2';obtain ⟨y',n1,n2,n3,n4⟩:=hjs.all j (List.mem_of_getElem? hj);have e3:y'=y:=by rw [<- e1,List.getD_eq_getElem?_getD,n1];rfl
    subst e3
    have e4:σ[j]?=some (some v):=by
     cases q:σ[j]? with
     | none=>rw [q] at e2;cases e2
     | some a=>rw [q] at e2;exact congrArg some e2
    obtain ⟨m0,_,hl⟩:=I.loc;obtain ⟨u,r,l⟩:=hl j y' v n1 e4 (n2.elim (λz=>Or.inr (Or.inl z)) λz=>Or.inr (Or.inr z));refine ⟨u,r,.inr ⟨n4,?_⟩⟩;rcases l with ⟨l,_⟩ | ⟨_,c,hc,hi⟩
    ·exfalso;rcases n2 with z | z <;> (rw [z] at l;cases l)
    ·obtain ⟨c',hc'⟩:=hcl2 y' n3;have e5:=hcl1 y' c' hc';rw [hc] at e5;have e6:=Option.some.inj e5;subst e6;obtain ⟨o,ho,hd⟩:=hi;exact ⟨c,hc',o,hkeep c o ho,hd⟩
 cell:=λy c h=>by
  obtain ⟨v,o,ho,hd⟩:=I.cell y c (hcl1 y c h);exact ⟨v,o,hkeep c o ho,hd⟩
 free:=I.hok.fresh (Nat.le_refl _)
 freeC:=λy c h=>I.freeC y c (hcl1 y c h)
 pin:=λp hp=>absurd (show p∈([]:List (Addr×Obj)) from hp) (by simp)
 hok:=I.hok.kept hkeep
 len:=by
  show (List.replicate xs.length none++ck js σ).length=(bW X xs js).length;simp [ck,bW]
end
def ji (n:Nat) (wi:TI) (g:TG) (te:TE) (js:List Nat):TE:=λσ H Q=>wi σ H λJ H1=>∀ D,H1 D=none->
 ∃ W:Nat->Nat->Hp->Prop,(∃ m,W 0 m (upd H1 D (.lst [])))/\∀ i m H2,W i m H2->(J.stop i H2/\Q (.ref D) H2)\/
  (J.go i H2/\∀ o:St,o.length=n->∀ v H3,J.yld i H2 v H3->g v (o++ck js σ) H3 λσ4 H4=>∃ o',o'.length=n/\σ4=o'++ck js σ/\te (o'++ck js σ) H4 λy H5 =>
   ∃ ys,H5 D=some (.lst ys)/\ys.length < sizeLine/\∃ m',m' < m/\W (i+1) m' (upd H5 D (.lst (ys++[y]))))
section
variable {X:Cx} {elt iter:Expr} {xs:List Str} {elts:List Expr} {kk:Nat} {tp pos:Pos} {scope:Scope} {cl:List (Str×Addr)} {wi:TI} {g:TG} {te:TE} {js:List Nat}
theorem qS {use:Option (Value->Sem Unit)} {Qv:Value->Shared->Prop} {pins:List (Addr×Obj)} {s:Shared} {σ:St} {H:Hp} {Q:VK}
  (hc:X.calm=true) (hi:PI X (.Tuple elts kk tp) iter wi) (hk:scope.kind=.function) (hcell:∀ y∈scope.names,y.2≠.cell)
  (hcl1:∀ y c,cl.lookup y=some c->X.env.cells.lookup y=some c) (hcl2:∀ y,(y,NameKind.free)∈scope.names->∃ c,cl.lookup y=some c) (hjs:fL X scope js) (hnd:(bW X xs js).Nodup)
  (hg:∀ s' H' fp,PG (bC X scope cl (bW X xs js) s' H' fp) (.Tuple elts kk tp) g) (he:∀ s' H' fp,PE (bC X scope cl (bW X xs js) s' H' fp) elt te)
  (I:Inv X pins σ H s) (h:ji xs.length wi g te js σ H Q)
  (fin:∀(D C:Addr) (H':Hp) (s':Shared),Inv X pins σ H' s'->jg X pins H' C->(∃ m,s'.heap.Ns C m)->Q (.ref D) H'->compPost (model X.prog X.w) X.A X.xe use Qv (.ref D) C (.ok .next) s') :
  wpAny (model X.prog X.w) X.A (eval iter X.env) (λxv s₁=>wpAny (model X.prog X.w) X.A (pyIter xv) (λit s₂=>wpAny (model X.prog X.w) X.A (newList []) (λacc s₃ =>
   wpAny (model X.prog X.w) X.A (newFunctionEnv scope X.env.globals cl [] X.env.qual none .none (some X.env)) (λcenv s₄ =>
    codeAny (model X.prog X.w) X.A (.compStart (.ListComp elt [⟨.Tuple elts kk tp,iter,[],0⟩] scope pos) 0 it acc {cenv with scope:=relabel scope X.env})
     (compPost (model X.prog X.w) X.A X.xe use Qv acc cenv.locals) s₄) X.xe s₃) X.xe s₂) X.xe s₁) X.xe s:=by
 refine thn (hi pins s σ H _ I h) λv s1 h1=>thn h1 λitv s2 h2=>?_;obtain ⟨it,fp,tn,J,H2,e,I2,T,st2,f2,hW⟩:=h2;subst e;obtain ⟨W,⟨m0,w0⟩,turn⟩:=hW s2.heap.objs.size (I2.hok.fresh (Nat.le_refl _));have hlt2:∀ b∈fp,b < s2.heap.objs.size:=λb hb=>let ⟨_,e,_⟩:=T.obj _ _ st2 b hb;Heap.lt_size e
 have I3:Inv X pins σ (upd H2 s2.heap.objs.size (.lst [])) {s2 with heap:=s2.heap.push {cls:=.type "list",data:=.seq ([]:List Value).toArray} }:=
  I2.lnew (t':=s2.toks) (its:=[]) .nil (Nat.zero_le _)
 refine wpAny_newObj_type ?_;have k23:∀ b o,s2.heap.get? b=some o->(s2.heap.push {cls:=.type "list",data:=.seq ([]:List Value).toArray}).get? b=some o:=λb o e=>Heap.get?_push_of_some _ e;have sz3:(s2.heap.push {cls:=.type "list",data:=.seq ([]:List Value).toArray}).objs.size=s2.heap.objs.size+1:=Heap.size_push ..;generalize hs3:({s2 with heap:=s2.heap.push {cls:=.type "list",data:=.seq ([]:List Value).toArray} }:Shared)=s3 at I3
 have hs3':s3.heap=s2.heap.push {cls:=.type "list",data:=.seq ([]:List Value).toArray}:=by rw [<- hs3]
 have hlt3:∀ b∈fp,b < s3.heap.objs.size:=λb hb=>by rw [hs3',sz3];exact Nat.lt_succ_of_lt (hlt2 b hb)
 have f3:∀ b∈fp,jg X pins (upd H2 s2.heap.objs.size (.lst [])) b:=λb hb=>⟨by rw [aB (Nat.ne_of_lt (hlt2 b hb))];exact (f2 b hb).1,(f2 b hb).2⟩;refine wpAny_newFunctionEnv hcell (by intro y hy;simp at hy) (λh₁ hns hsb=>?_) hk;have k34:∀ b o,s3.heap.get? b=some o->h₁.get? b=some o:=λb o e=>hsb.extBut b o (Nat.ne_of_lt (Heap.lt_size e)) (Heap.get?_push_of_some _ e);have I4:=wM (xs:=xs) (js:=js) (tk:=s3.toks+([]:List (Str×Value)).length) I3 hk hcell hcl1 hcl2 hjs f3 hlt3 hns k34;have st4:tn 0 h₁:=T.keep 0 _ _ st2 λb hb o e=>k34 b o (by rw [hs3'];exact k23 b o e)
 have stat:∀{H':Hp},(∀ b∈fp,H' b=none)->∀ b∈fp,jg (bC X scope cl (bW X xs js) s3 (upd H2 s2.heap.objs.size (.lst [])) fp) [] H' b:=λhn b hb =>
  ⟨hn b hb,Nat.ne_of_lt (hlt3 b hb),λhz=>(List.mem_cons.mp (I3.stkSub b hz)).elim (f2 b hb).2.1 (f2 b hb).2.2.1,.inl hb,λy c q=>(f2 b hb).2.2.2.2.1 y c (hcl1 y c q),λp hp=>absurd (show p∈([]:List (Addr×Obj)) from hp) (by simp)⟩
 have back:∀{σ':St} {H':Hp} {s':Shared},Inv (bC X scope cl (bW X xs js) s3 (upd H2 s2.heap.objs.size (.lst [])) fp) [] σ' H' s'->Inv X pins σ H' s':=λ{σ' H' s'} J' =>
  I3.call' (ch:=fp) J'.os J'.base J'.hok J'.bare λb hb=>⟨(f2 b hb).2.2.2.1,(f2 b hb).2.1,(f2 b hb).2.2.2.2.1,(f2 b hb).2.2.2.2.2⟩
 have loop:codeAny (model X.prog X.w) X.A (.compLoop (.ListComp elt [⟨.Tuple elts kk tp,iter,[],0⟩] scope pos) 0 (.ref it) (.ref s2.heap.objs.size) (compEnvC scope cl s3.heap.objs.size X.env))
   (compPost (model X.prog X.w) X.A X.xe use Qv (.ref s2.heap.objs.size) s3.heap.objs.size) {s3 with heap:=h₁,toks:=s3.toks+([]:List (Str×Value)).length}:=by
  refine PyProof.Rows.LCp.codeAny_compLoop_pair (λn s'=>∃(i:Nat) (o:St) (H':Hp),o.length=xs.length/\Inv (bC X scope cl (bW X xs js) s3 (upd H2 s2.heap.objs.size (.lst [])) fp) [] (o++ck js σ) H' s'/\tn i s'.heap/\(∀ b∈fp,H' b=none)/\W i n H') ?_ m0
   ⟨0,_,_,List.length_replicate,I4,st4,λb hb=>(f3 b hb).1,w0⟩
  rintro n s5 ⟨i,o,H5,ho,I5,st5,fr5,w5⟩
  rcases turn i n H5 w5 with ⟨stop,q⟩ | ⟨go,step⟩
  ·refine thn (T.done (bC X scope cl (bW X xs js) s3 (upd H2 s2.heap.objs.size (.lst [])) fp) rfl rfl rfl hc i [] s5 _ H5 _ I5 (stat fr5) st5 stop) λr s6 zz=>?_;obtain ⟨hr,I6⟩:=zz;subst hr;exact fin _ _ H5 s6 (back I6) (I3.fpOk (Nat.le_refl _) I6.free) (let ⟨m,hm,_⟩:=I6.loc;⟨m,hm⟩) q
  ·refine thn (T.item (bC X scope cl (bW X xs js) s3 (upd H2 s2.heap.objs.size (.lst [])) fp) rfl rfl rfl hc i [] s5 _ H5 _ I5 (stat fr5) st5 go) λr s6 zz=>?_;obtain ⟨u,hr,h6⟩:=zz;subst hr;refine wpAny_mono h6 (λ_ s6' q6=>?_) (λ_ _ f=>f);obtain ⟨v,H6,I6,r6,y6,st6,fr6⟩:=q6;have I6':=I6.pinned (stat fr6) (T.obj _ _ st6);refine wpAny_mono (hg s3 _ fp _ s6' _ H6 v u _ I6' r6 (step o ho v H6 y6)) (λ_ s7 q7=>?_) (λ_ _ f=>False.elim f);obtain ⟨σ7,H7,I7,o7,ho7,e7,q7⟩:=q7;subst e7;refine wpAny_mono (he s3 _ fp _ s7 _ H7 _ I7 q7) (λy s9 q9=>?_) (λ_ _ f=>False.elim f);obtain ⟨yv,H9,I9,r9,ys,hD,hl,m',hm,w9⟩:=q9;refine wpAny_mono (bA (X:=bC X scope cl (bW X xs js) s3 (upd H2 s2.heap.objs.size (.lst [])) fp) _ s9 _ H9 (.ref s2.heap.objs.size) [yv] (.ref s2.heap.objs.size) [y] (λ_ H'=>H'=upd H9 s2.heap.objs.size (.lst (ys++[yv]))) I9 rfl (.cons r9 .nil) ⟨_,ys,yv,rfl,rfl,hD,hl,rfl⟩) (λ_ s10 q10=>?_) (λ_ _ f=>False.elim f);obtain ⟨_,H10,I10,_,e10⟩:=q10;subst e10;refine ⟨m',hm,i+1,o7,_,ho7,I10.unpinned,T.keep _ _ _ st6 λb hb o e=>(I10.pin (b,o) (List.mem_append_right _ (List.mem_append_right _ (fW hb e)))).1,λb hb=>?_,w9⟩;obtain ⟨o,e,d⟩:=T.obj _ _ st6 b hb;exact (I10.pin (b,o) (List.mem_append_right _ (List.mem_append_right _ (fW hb e)))).2.1
 exact codeAny_compStart_list loop (T.self _ 0 _ _ _ st4 loop)
theorem Dw (hc:X.calm=true) (hi:PI X (.Tuple elts kk tp) iter wi) (hk:scope.kind=.function) (hcell:∀ y∈scope.names,y.2≠.cell) (hnames:∀ y∈scope.names,y.2=.local->scope.names.lookup y.1=some .local)
  (hclos:closureFor scope X.env=pure cl) (hcl1:∀ y c,cl.lookup y=some c->X.env.cells.lookup y=some c) (hcl2:∀ y,(y,NameKind.free)∈scope.names->∃ c,cl.lookup y=some c) (hjs:fL X scope js) (hnd:(bW X xs js).Nodup)
  (hg:∀ s' H' fp,PG (bC X scope cl (bW X xs js) s' H' fp) (.Tuple elts kk tp) g) (he:∀ s' H' fp,PE (bC X scope cl (bW X xs js) s' H' fp) elt te)
  (hs:∀ x,foldedSetIterable iter X.env x=pure x:=by intro _;rfl):PE X (.ListComp elt [⟨.Tuple elts kk tp,iter,[],0⟩] scope pos) (ji xs.length wi g te js):=by
 intro pins s σ H Q I h;rw [eval_ListComp];refine wpAny_comprehension_free (use:=none) rfl hs hclos hk hnames (qS hc hi hk hcell hcl1 hcl2 hjs hnd hg he I h λD C H' s' I' fC hC q=>?_);obtain ⟨m,hm⟩:=hC;refine ⟨m,hm,λh' sb=>?_⟩;obtain ⟨f0,f1,f2,f3,f4,f5⟩:=fC;exact ⟨.ref D,H',I'.turned (t':=s'.toks) (λb o hb e=>(sb.2 b hb).trans e) f0 f1 f3 f4 f5,rfl,q⟩
theorem iX (hc:X.calm=true) (hi:PI X (.Tuple elts kk tp) iter wi) (hk:scope.kind=.function) (hcell:∀ y∈scope.names,y.2≠.cell) (hnames:∀ y∈scope.names,y.2=.local->scope.names.lookup y.1=some .local)
  (hf:∀ p∈scope.names,p.2=.free->X.env.kindOf p.1=some .cell\/X.env.kindOf p.1=some .free) (hjs:fL X scope js) (hnd:(bW X xs js).Nodup)
  (hg:∀ cl s' H' fp,PG (bC X scope cl (bW X xs js) s' H' fp) (.Tuple elts kk tp) g) (he:∀ cl s' H' fp,PE (bC X scope cl (bW X xs js) s' H' fp) elt te)
  (hs:∀ x,foldedSetIterable iter X.env x=pure x:=by intro _;rfl):PE X (.ListComp elt [⟨.Tuple elts kk tp,iter,[],0⟩] scope pos) (ji xs.length wi g te js):=by
 intro pins s σ H Q I h;obtain ⟨cl,e,p1,p2⟩:=uB (pH (js:=js) I λy hy=>hf (y,.free) hy rfl);exact Dw hc hi hk hcell hnames e p1 p2 hjs hnd (hg cl) (he cl) hs pins s σ H Q I h
end
open PySem.AutoSeq1
theorem fQ {h h':Heap} {it t:Addr} {i:Nat} (z:h.IsTupleIter it t i) (k:∀ o,h.get? it=some o->h'.get? it=some o):h'.IsTupleIter it t i:=let ⟨o,e,r⟩:=z;⟨o,k o e,r⟩
theorem iF {h h':Heap} {t:Addr} {ys:Array Value} (z:h.IsTuple t ys) (k:∀ o,h.get? t=some o->h'.get? t=some o):h'.IsTuple t ys:=let ⟨o,e,r⟩:=z;⟨o,k o e,r⟩
section
variable {prog:Program} {w:World} {A:Around} {E:Value->Shared->Prop} {s:Shared}
theorem Al {z TI TO i1 i2 l1 l2:Addr} {k1 k2:Nat} {xs ys:Array Value} {x y a b:Value} {Q:Value->Shared->Prop} (D:ZipApart z TI TO i1 i2 l1 l2)
  (gz:IsZip s.heap z TI TO .none) (gI:IsPair s.heap TI (.ref i1) (.ref i2)) (gO:IsPair s.heap TO a b) (t1:s.heap.IsTupleIter i1 l1 k1) (t2:s.heap.IsTupleIter i2 l2 k2) (p1:s.heap.IsTuple l1 xs) (p2:s.heap.IsTuple l2 ys) (ex:xs[k1]?=some x) (ey:ys[k2]?=some y)
  (k:∀ h',IsZip h' z TI TO (rawInt s.heap.objs.size)->IsPair h' TO x y->h'.IsTupleIter i1 l1 (k1+1)->h'.IsTupleIter i2 l2 (k2+1)->IsPair h' s.heap.objs.size x y->(∀ c o,c≠z->c≠TO->c≠i1->c≠i2->s.heap.get? c=some o->h'.get? c=some o)->Q (.ref s.heap.objs.size) {s with heap:=h' }) :
  wpAny (model prog w) A (Builtin.«zip.__next__» ⟨[.ref z],[]⟩) (λfin s'=>∃ v,fin=.done (.ret v)/\Q v s') E s:=by
 show wpAny _ _ (field (.ref z) 2 >>= _) _ _ _;refine wpAny_bind (wpAny_field gz rfl (x:=.bool false) rfl ?_);show wpAny _ _ (field (.ref z) 3 >>= _) _ _ _;refine wpAny_bind (wpAny_field gz rfl (x:=.ref TI) rfl ?_);refine wpAny_bind (wpAny_seqItems gI rfl ?_);show wpAny _ _ (Builtin.SmallTypes.ownedTupleIsFree (.ref z) >>= _) _ _ _;refine wpAny_bind ?_;unfold Builtin.SmallTypes.ownedTupleIsFree;refine wpAny_bind (wpAny_field gz rfl (x:=.none) rfl (wpAny_pure ?_));simp only [if_true];refine wpAny_bind (wpAny_rule ?_);refine wpAny_bind (wpAny_field gz rfl (x:=.ref TO) rfl ?_);refine wpAny_bind (wpAny_setField_rec gz (by simp) λm1 gz1 b1=>?_);replace gz1:IsZip m1 z TI TO .ellipsis:=gz1;refine wpAny_bind ?_;simp only [List.zipIdx_cons,List.zipIdx_nil,List.forIn_cons,List.forIn_nil];refine wpAny_bind (wpAny_bind (wpAny_onRaise ?_));show wpAny _ _ (Builtin.SmallTypes.nextOf (.ref i1) >>= _) _ _ _;refine wpAny_bind (qt (fQ t1 λo e=>b1.extBut _ _ D.i1z e) (iF p1 λo e=>b1.extBut _ _ D.l1z e) ex λm2 u2 b2=>wpAny_pure ?_);have gO2:IsPair m2 TO a b:=b2.extBut _ _ D.TOi1 (b1.extBut _ _ D.TOz gO);refine wpAny_bind (wpAny_seqItems gO2 rfl ?_);refine wpAny_bind (wpAny_updateSeq_pair gO2 λm3 gO3 b3=>?_);replace gO3:IsPair m3 TO x b:=gO3;refine wpAny_bind (wpAny_letGo (wpAny_pure ?_));refine wpAny_bind (wpAny_bind (wpAny_onRaise ?_));show wpAny _ _ (Builtin.SmallTypes.nextOf (.ref i2) >>= _) _ _ _;have e3:∀ c o,c≠z->c≠TO->c≠i1->s.heap.get? c=some o->m3.get? c=some o:=λc o n1 n2 n3 e=>b3.extBut _ _ n2 (b2.extBut _ _ n3 (b1.extBut _ _ n1 e));refine wpAny_bind (qt (fQ t2 λo e=>e3 _ o D.i2z D.TOi2.symm D.i12.symm e) (iF p2 λo e=>e3 _ o D.l2z D.l2TO D.l2i1 e) ey λm4 u4 b4=>wpAny_pure ?_);have gO4:IsPair m4 TO x b:=b4.extBut _ _ D.TOi2 gO3;refine wpAny_bind (wpAny_seqItems gO4 rfl ?_);refine wpAny_bind (wpAny_updateSeq_pair gO4 λm5 gO5 b5=>?_);replace gO5:IsPair m5 TO x y:=gO5;refine wpAny_bind (wpAny_letGo (wpAny_pure (wpAny_pure ?_)));refine wpAny_bind (wpAny_seqItems gO5 rfl ?_);refine wpAny_bind (wpAny_newTuple ?_);have sz5:m5.objs.size=s.heap.objs.size:=by rw [b5.1,b4.1,b3.1,b2.1,b1.1]
 have e5:∀ c o,c≠TO->c≠i2->m3.get? c=some o->m5.get? c=some o:=λc o n1 n2 e=>b5.extBut _ _ n1 (b4.extBut _ _ n2 e);have gz5:IsZip m5 z TI TO .ellipsis:=e5 _ _ D.TOz.symm D.i2z.symm (b3.extBut _ _ D.TOz.symm (b2.extBut _ _ D.i1z.symm gz1));have u5:m5.IsTupleIter i1 l1 (k1+1):=fQ u2 λo e=>e5 _ o D.TOi1.symm D.i12 (b3.extBut _ _ D.TOi1.symm e);have v5:m5.IsTupleIter i2 l2 (k2+1):=fQ u4 λo e=>b5.extBut _ _ D.TOi2.symm e;have zl:z < m5.objs.size:=Heap.lt_size gz5;show wpAny _ _ (Builtin.SmallTypes.ownedTupleHandOut (.ref z) (.ref m5.objs.size) >>= _) _ _ _;refine wpAny_bind ?_;unfold Builtin.SmallTypes.ownedTupleHandOut;have gz6:IsZip (m5.push {cls:=.type "tuple",data:=.seq #[x,y] }) z TI TO .ellipsis:=Heap.get?_push_of_some _ gz5;refine wpAny_bind (wpAny_setField_rec gz6 (by simp) λm7 gz7 b7=>?_);replace gz7:IsZip m7 z TI TO (rawInt m5.objs.size):=gz7;refine wpAny_setField_rec gz7 (by simp) λm8 gz8 b8=>?_;replace gz8:IsZip m8 z TI TO (rawInt m5.objs.size):=gz8;have e8:∀ c o,c≠z->m5.get? c=some o->m8.get? c=some o:=λc o n1 e=>b8.extBut _ _ n1 (b7.extBut _ _ n1 (Heap.get?_push_of_some _ e));have gT:IsPair m8 m5.objs.size x y:=b8.extBut _ _ (Nat.ne_of_gt zl) (b7.extBut _ _ (Nat.ne_of_gt zl) (Heap.get?_push_size _ rfl));rw [sz5] at gz8 gT;refine wpAny_pure ⟨_,rfl,?_⟩;show Q (.ref m5.objs.size) _;rw [sz5];exact k m8 gz8 (e8 _ _ D.TOz gO5) (fQ u5 λo e=>e8 _ o D.i1z e) (fQ v5 λo e=>e8 _ o D.i2z e) gT λc o n1 n2 n3 n4 e=>e8 c o n1 (e5 c o n2 n4 (e3 c o n1 n2 n3 e))
theorem uN {z TI TO i1 i2 l1 l2:Addr} {k1:Nat} {xs:Array Value} {a b:Value} {Q:Fin->Shared->Prop} (hd:A.handled=none) (D:ZipApart z TI TO i1 i2 l1 l2)
  (gz:IsZip s.heap z TI TO .none) (gI:IsPair s.heap TI (.ref i1) (.ref i2)) (gO:IsPair s.heap TO a b) (t1:s.heap.IsTupleIter i1 l1 k1) (p1:s.heap.IsTuple l1 xs) (ex:xs[k1]?=none)
  (k:∀ h' e,(∀ c o,c≠z->c≠TO->c≠i1->c≠i2->s.heap.get? c=some o->h'.get? c=some o)->(∃ o,h'.get? e=some o/\o.cls=.type "StopIteration")->E (.ref e) {s with heap:=h' }) :
  wpAny (model prog w) A (Builtin.«zip.__next__» ⟨[.ref z],[]⟩) Q E s:=by
 show wpAny _ _ (field (.ref z) 2 >>= _) _ _ _;refine wpAny_bind (wpAny_field gz rfl (x:=.bool false) rfl ?_);show wpAny _ _ (field (.ref z) 3 >>= _) _ _ _;refine wpAny_bind (wpAny_field gz rfl (x:=.ref TI) rfl ?_);refine wpAny_bind (wpAny_seqItems gI rfl ?_);show wpAny _ _ (Builtin.SmallTypes.ownedTupleIsFree (.ref z) >>= _) _ _ _;refine wpAny_bind ?_;unfold Builtin.SmallTypes.ownedTupleIsFree;refine wpAny_bind (wpAny_field gz rfl (x:=.none) rfl (wpAny_pure ?_));simp only [if_true];refine wpAny_bind (wpAny_rule ?_);refine wpAny_bind (wpAny_field gz rfl (x:=.ref TO) rfl ?_);refine wpAny_bind (wpAny_setField_rec gz (by simp) λm1 gz1 b1=>?_);replace gz1:IsZip m1 z TI TO .ellipsis:=gz1;refine wpAny_bind ?_;simp only [List.zipIdx_cons,List.zipIdx_nil,List.forIn_cons,List.forIn_nil];refine wpAny_bind (wpAny_bind (wpAny_onRaise ?_));show wpAny _ _ (Builtin.SmallTypes.nextOf (.ref i1) >>= _) _ _ _;refine wpAny_bind (rj hd (fQ t1 λo e=>b1.extBut _ _ D.i1z e) (iF p1 λo e=>b1.extBut _ _ D.l1z e) ex λm2 e b2 he=>?_);obtain ⟨oe,ge,ce⟩:=he;have gz2:IsZip m2 z TI TO .ellipsis:=b2 _ _ D.i1z.symm gz1;have ne:e≠z:=λq=>by subst q;rw [gz2] at ge;cases ge;simp at ce
 refine wpAny_setField_rec gz2 (by simp) λm3 _ b3=>k m3 e (λc o n1 _ n3 _ q=>b3.extBut _ _ n1 (b2 _ _ n3 (b1.extBut _ _ n1 q))) ⟨oe,b3.extBut _ _ ne ge,ce⟩
theorem An (hd:A.handled=none) (z TI TO i1 i2 l1 l2:Addr) (D:ZipApart z TI TO i1 i2 l1 l2) (xs ys:Array Value) (hle:xs.size<=ys.size) :
  WalksT prog w A z [z,TI,TO,i1,i2,l1,l2] [z,TO,i1,i2] xs.size (λi vals=>∃ x y,xs[i]?=some x/\ys[i]?=some y/\vals=#[x,y])
   (λi h=>IsZip h z TI TO .none/\IsPair h TI (.ref i1) (.ref i2)/\(∃ a b,IsPair h TO a b)/\h.IsTupleIter i1 l1 i/\h.IsTupleIter i2 l2 i/\h.IsTuple l1 xs/\h.IsTuple l2 ys)
   (λi T h=>IsZip h z TI TO (rawInt T)/\IsPair h TI (.ref i1) (.ref i2)/\(∃ a b,IsPair h TO a b)/\h.IsTupleIter i1 l1 (i+1)/\h.IsTupleIter i2 l2 (i+1)/\h.IsTuple l1 xs/\h.IsTuple l2 ys/\T≠z/\T≠TO/\T≠i1/\T≠i2) where
 sub:=λc hc=>by
  simp only [List.mem_cons,List.not_mem_nil,or_false] at hc ⊢;rcases hc with q | q | q | q <;> simp [q]
 frame:=λi h h' st kp=>by
  obtain ⟨q1,q2,⟨a,b,q3⟩,q4,q5,q6,q7⟩:=st;exact ⟨kp z (by simp) _ q1,kp TI (by simp) _ q2,⟨a,b,kp TO (by simp) _ q3⟩,fQ q4 λo e=>kp i1 (by simp) o e,fQ q5 λo e=>kp i2 (by simp) o e,iF q6 λo e=>kp l1 (by simp) o e,iF q7 λo e=>kp l2 (by simp) o e⟩
 item:=λi s Q E hi st k=>by
  obtain ⟨q1,q2,⟨a,b,q3⟩,q4,q5,q6,q7⟩:=st;have hx:xs[i]?=some xs[i]:=Array.getElem?_eq_getElem hi;have hy:ys[i]?=some (ys[i]'(by omega)):=Array.getElem?_eq_getElem (by omega);have hT:s.TypeIs (.ref z) "zip":=⟨_,q1,rfl⟩;have lt:∀{c o},s.heap.get? c=some o->s.heap.objs.size≠c:=λe=>Nat.ne_of_gt (Heap.lt_size e);unfold pyNext;refine wpAny_bind (wpAny_attempt (wpAny_callSpecial?_slot (name:=Str.ofString "__next__") hT F.slot_zip_next (wpAny_call_entry F.slot_zip_next hT F.entry_zip_next (Al D q1 q2 q3 q4 q5 q6 q7 hx hy λh' a1 a2 a3 a4 a5 kp=>wpAny_pure ?_) (F.args_zip_next_1 _))))
  exact k s.heap.objs.size #[xs[i],ys[i]'(by omega)] h' s.toks ⟨_,_,hx,hy,rfl⟩ (Nat.le_refl _) ⟨_,a5,rfl,_,rfl⟩
   ⟨a1,kp _ _ D.TIz D.TITO D.TIi1 D.TIi2 q2,⟨_,_,a2⟩,a3,a4,iF q6 λo e=>kp _ o D.l1z D.l1TO D.l1i1 D.l1i2 e,iF q7 λo e=>kp _ o D.l2z D.l2TO D.l2i1 D.l2i2 e,lt q1,lt q3,(by obtain ⟨_,e,_⟩:=q4;exact lt e),(by obtain ⟨_,e,_⟩:=q5;exact lt e)⟩
   λc o hc e=>kp c o (λq=>hc (by simp [q])) (λq=>hc (by simp [q])) (λq=>hc (by simp [q])) (λq=>hc (by simp [q])) e
 go:=λelts kk pos i T s Q E hm k=>by
  obtain ⟨q1,q2,⟨a,b,q3⟩,q4,q5,q6,q7,_⟩:=hm;refine wpAny_letOwnedTupleGo_zip q1 λh' gz' b'=>k h' ⟨gz',b'.extBut _ _ D.TIz q2,⟨a,b,b'.extBut _ _ D.TOz q3⟩,fQ q4 λo e=>b'.extBut _ _ D.i1z e,fQ q5 λo e=>b'.extBut _ _ D.i2z e,iF q6 λo e=>b'.extBut _ _ D.l1z e,iF q7 λo e=>b'.extBut _ _ D.l2z e⟩ λc o hc e=>b'.extBut _ _ (λq=>hc (by simp [q])) e
 apart:=λi T h hm hT=>by
  obtain ⟨_,_,_,_,_,_,_,n1,n2,n3,n4⟩:=hm;simp only [List.mem_cons,List.not_mem_nil,or_false] at hT;rcases hT with q | q | q | q
  ·exact n1 q
  ·exact n2 q
  ·exact n3 q
  ·exact n4 q
 done:=λs Q E st k=>by
  obtain ⟨q1,q2,⟨a,b,q3⟩,q4,q5,q6,q7⟩:=st;have hT:s.TypeIs (.ref z) "zip":=⟨_,q1,rfl⟩;unfold pyNext;refine wpAny_bind (wpAny_attempt (wpAny_callSpecial?_slot (name:=Str.ofString "__next__") hT F.slot_zip_next (wpAny_call_entry F.slot_zip_next hT F.entry_zip_next (uN hd D q1 q2 q3 q4 q6 (Array.getElem?_eq_none (Nat.le_refl _)) λh' e kp ge=>?_) (F.args_zip_next_1 _))));obtain ⟨o,ho,hc⟩:=ge;refine wpAny_bind (wpAny_isInstance (T:="StopIteration") (b:=true) ⟨o,ho,hc⟩ isSubtype_stop ?_);exact wpAny_pure (k h' s.toks λc o hc e=>kp c o (λq=>hc (by simp [q])) (λq=>hc (by simp [q])) (λq=>hc (by simp [q])) (λq=>hc (by simp [q])) e)
 self:=λi s Q E st k=>wpAny_pyIter_zip st.1 k
end
abbrev tz1 (h:Heap) (a:Addr):Heap:=h.push (xB a)
abbrev tz2 (h:Heap) (a b:Addr):Heap:=(tz1 h a).push (xB b)
abbrev tz3 (h:Heap) (a b:Addr):Heap:=(tz2 h a b).push {cls:=.type "tuple",data:=.seq #[.ref h.objs.size,.ref (tz1 h a).objs.size] }
abbrev tz4 (h:Heap) (a b:Addr):Heap:=(tz3 h a b).push {cls:=.type "tuple",data:=.seq #[.none,.none] }
abbrev tz5 (h:Heap) (a b:Addr):Heap:=(tz4 h a b).push {cls:=.type "zip",data:=.fields #[.none,.bool false,.bool false,.ref (tz2 h a b).objs.size,.ref (tz3 h a b).objs.size] }
theorem BU (a b:Addr) (xs ys:Array Value):Meets (Builtin.«zip.__new__» ⟨[.type "zip",.ref a,.ref b],[]⟩) (λ_ R s=>s.heap.IsTuple a xs/\s.heap.IsTuple b ys/\R (.ok (.ret (.ref (tz4 s.heap a b).objs.size))) {s with heap:=tz5 s.heap a b}):=
 .of_wp λprog w A R s h=>by
  obtain ⟨hp,g,d,tk,os⟩:=s;obtain ⟨q1,q2,h⟩:=h;have su:=sub_zip;have t1:Heap.IsTuple (Shared.heap ⟨hp,g,d,tk,os⟩) a xs:=q1;have t2:Heap.IsTuple (Shared.heap ⟨hp.push (xB a),g,d,tk,os⟩) b ys:=iF q2 λo e=>Heap.get?_push_of_some _ e
  wp_walk using wpAny_pyIter_tuple t1,wpAny_pyIter_tuple t2
  exact ⟨_,rfl,h⟩
theorem BD {prog:Program} {w:World} {A:Around} {E:Value->Shared->Prop} {s:Shared} {a b:Addr} {xs ys:Array Value} {Q:Value->Shared->Prop} (q1:s.heap.IsTuple a xs) (q2:s.heap.IsTuple b ys)
  (k:∀ h',IsZip h' (s.heap.objs.size+4) (s.heap.objs.size+2) (s.heap.objs.size+3) .none->IsPair h' (s.heap.objs.size+2) (.ref s.heap.objs.size) (.ref (s.heap.objs.size+1))->IsPair h' (s.heap.objs.size+3) .none .none->
   h'.IsTupleIter s.heap.objs.size a 0->h'.IsTupleIter (s.heap.objs.size+1) b 0->(∀ c o,s.heap.get? c=some o->h'.get? c=some o)->Q (.ref (s.heap.objs.size+4)) {s with heap:=h' }):wpAny (model prog w) A (call (.type "zip") [.ref a,.ref b]) Q E s:=by
 refine callType_new F.called_zip (by decide) (F.typeCall_zip_2 _ _) (F.newCall_zip_2 _ _) (λobj=>F.args_object_init_3 obj _ _) F.entry_zip_new (BU a b xs ys) ⟨q1,q2,?_⟩;have z1:(tz1 s.heap a).objs.size=s.heap.objs.size+1:=Heap.size_push ..;have z2:(tz2 s.heap a b).objs.size=s.heap.objs.size+2:=by rw [Heap.size_push,z1]
 have z3:(tz3 s.heap a b).objs.size=s.heap.objs.size+3:=by rw [Heap.size_push,z2]
 have z4:(tz4 s.heap a b).objs.size=s.heap.objs.size+4:=by rw [Heap.size_push,z3]
 have up:∀{h:Heap} {o:Obj} {c:Addr} {q:Obj},h.get? c=some q->(h.push o).get? c=some q:=λe=>Heap.get?_push_of_some _ e;have g5:(tz5 s.heap a b).get? (tz4 s.heap a b).objs.size=some _:=Heap.get?_push_size _ rfl;have g4:(tz5 s.heap a b).get? (tz3 s.heap a b).objs.size=some _:=up (Heap.get?_push_size _ rfl);have g3:(tz5 s.heap a b).get? (tz2 s.heap a b).objs.size=some _:=up (up (Heap.get?_push_size _ rfl));have g2:(tz5 s.heap a b).get? (tz1 s.heap a).objs.size=some _:=up (up (up (Heap.get?_push_size _ rfl)));have g1:(tz5 s.heap a b).get? s.heap.objs.size=some _:=up (up (up (up (Heap.get?_push_size _ rfl))));show _/\_;rw [z2,z3,z4] at g5;rw [z1,z2] at g3;rw [z3] at g4;rw [z1] at g2;rw [z4];exact ⟨⟨_,g5,rfl⟩,k _ g5 g3 g4 ⟨_,g1,rfl,rfl⟩ ⟨_,g2,rfl,rfl⟩ λc o e=>up (up (up (up (up e))))⟩
def srcZT (K:W.Frag) (a b:Addr):Nat->Hp->List V->Prop:=λi H vs=>∃ x y,vs=[x,y]/\(∀ xs,SqT K H a xs->xs[i]?=some x)/\∀ ys,SqT K H b ys->ys[i]?=some y
def ItZT (K:W.Frag) (a b:Addr):It:=ItT (λi H=>∃ xs ys,SqT K H a xs/\SqT K H b ys/\i < xs.length/\xs.length<=ys.length) (srcZT K a b) λi H=>∃ xs ys,SqT K H a xs/\SqT K H b ys/\xs.length<=i/\xs.length<=ys.length
def tnZT (a b z TI TO i1 i2:Addr) (i:Nat) (h:Heap):Prop:=IsZip h z TI TO .none/\IsPair h TI (.ref i1) (.ref i2)/\(∃ u v,IsPair h TO u v)/\h.IsTupleIter i1 a i/\h.IsTupleIter i2 b i
theorem jL {X:Cx} {pins:List (Addr×Obj)} {σ:St} {H:Hp} {s:Shared} {a b:Addr} {xs:List V} (I:Inv X pins σ H s) (h:SqT X.K H a xs) (f:jg X pins H b):a≠b:=by
 intro e;subst e;obtain ⟨f0,_,_,f3,_⟩:=f;rcases h with (h | ⟨o,h⟩) | ⟨o,its,n,hk,_⟩
 ·rw [f0] at h;cases h
 ·rw [f0] at h;cases h
 ·have g:=I.ok.mod.kin a o hk;rcases f3 with z | z
  ·exact I.ok.noex a o g z
  ·exact absurd (Nat.lt_of_lt_of_le (Heap.lt_size g) (Nat.le_trans I.ok.bsz z)) (Nat.lt_irrefl _)
theorem yU {X:Cx} {pins:List (Addr×Obj)} {σ:St} {H:Hp} {s:Shared} {a b z TI TO i1 i2:Addr} {xs ys:List V} (I:Inv X pins σ H s) (o:ZOwn z TI TO i1 i2) (hf:∀ c∈[z,TI,TO,i1,i2],jg X pins H c) (la:SqT X.K H a xs) (lb:SqT X.K H b ys):ZipApart z TI TO i1 i2 a b:=
 ⟨o.a1,o.a2,o.a3,o.a4,o.a5,o.a6,o.a7,o.a8,o.a9,o.a10,jL I la (hf z (by simp)),jL I la (hf TO (by simp)),jL I la (hf i1 (by simp)),jL I la (hf i2 (by simp)),jL I lb (hf z (by simp)),jL I lb (hf TO (by simp)),jL I lb (hf i1 (by simp)),jL I lb (hf i2 (by simp))⟩
theorem zobjT {h:Heap} {a b z TI TO i1 i2:Addr} {i:Nat} (st:tnZT a b z TI TO i1 i2 i h):∀ c∈[z,TI,TO,i1,i2],∃ o,h.get? c=some o/\∀ v,o.data≠.cell v:=by
 intro c hc;obtain ⟨hz,hTI,⟨u,v,hTO⟩,⟨o1,g1,_,d1⟩,⟨o2,g2,_,d2⟩⟩:=st;simp only [List.mem_cons,List.not_mem_nil,or_false] at hc;rcases hc with rfl | rfl | rfl | rfl | rfl
 ·exact ⟨_,hz,λv z=>by cases z⟩
 ·exact ⟨_,hTI,λv z=>by cases z⟩
 ·exact ⟨_,hTO,λv z=>by cases z⟩
 ·exact ⟨_,g1,λv z=>by rw [d1] at z;cases z⟩
 ·exact ⟨_,g2,λv z=>by rw [d2] at z;cases z⟩
theorem Ao {P:Program} {w:World} {K:W.Frag} {elts:List Expr} {kk:Nat} {tpos:Pos} (a b z TI TO i1 i2:Addr) (own:ZOwn z TI TO i1 i2) :
  Turn P w K (.Tuple elts kk tpos) (ItZT K a b) [z,TI,TO,i1,i2] z (tnZT a b z TI TO i1 i2) where
 mem:=by simp
 obj:=λi h st c hc=>zobjT st c hc
 keep:=λi h h' st k=>by
  obtain ⟨hz,hTI,⟨u,v,hTO⟩,l1,l2⟩:=st;exact ⟨k z (by simp) _ hz,k TI (by simp) _ hTI,⟨u,v,k TO (by simp) _ hTO⟩,fQ l1 λo q=>k i1 (by simp) o q,fQ l2 λo q=>k i2 (by simp) o q⟩
 item:=by
  intro X hP hw hK hc i pins s σ H E I hf st hg;subst hP hw hK;obtain ⟨xs,ys,hq,hq2,hi,hle⟩:=hg;obtain ⟨its,rv,p,hz⟩:=I.tuple hq;obtain ⟨its2,rv2,p2,hz2⟩:=I.tuple hq2;have hx:xs[i]?=some xs[i]:=List.getElem?_eq_getElem hi;have hy:ys[i]?=some (ys[i]'(by omega)):=List.getElem?_eq_getElem (by omega);obtain ⟨u,hu,ru⟩:=rv.get hx;obtain ⟨u2,hu2,ru2⟩:=rv2.get hy;have e1:=rv.length;have e2:=rv2.length;have D:=yU I own hf hq hq2;have W:=An (prog:=X.prog) (w:=X.w) (A:=X.A) (I.ok.hd hc) z TI TO i1 i2 a b D its.toArray its2.toArray (by simp only [List.size_toArray];omega);obtain ⟨s1,s2,s3,s4,s5⟩:=id st
  refine mU (fp:=[z,TI,TO,i1,i2]) (vs:=[xs[i],ys[i]'(by omega)]) (src:=srcZT X.K a b) (tn:=tnZT a b z TI TO i1 i2) W I hf (λc hc=>let ⟨o,q,_⟩:=zobjT st c hc;⟨o,q⟩) (λc hc=>?_) (by simp only [List.size_toArray];omega) ⟨s1,s2,s3,s4,s5,p,p2⟩ (λvals hP=>?_) (by show 2<=sizeLine;decide)
   ⟨_,_,rfl,λzs hzs=>by rw [I.tuple_inj hzs hq];exact hx,λzs hzs=>by rw [I.tuple_inj hzs hq2];exact hy⟩ λh st=>⟨st.1,st.2.1,st.2.2.1,st.2.2.2.1,st.2.2.2.2.1⟩
  ·simp only [List.mem_cons,List.not_mem_nil,or_false] at hc ⊢;rcases hc with q | q | q | q <;> simp [q]
  ·obtain ⟨v1,v2,e1,e2,rfl⟩:=hP
   have f1:v1=u:=by
    have q:its[i]?=some v1:=by simpa using e1
    rw [hu] at q;exact (Option.some.inj q).symm
   have f2:v2=u2:=by
    have q:its2[i]?=some v2:=by simpa using e2
    rw [hu2] at q;exact (Option.some.inj q).symm
   subst f1 f2;exact .cons ru (.cons ru2 .nil)
 done:=by
  intro X hP hw hK hc i pins s σ H E I hf st hg;subst hP hw hK;obtain ⟨xs,ys,hq,hq2,hend,hle⟩:=hg;obtain ⟨its,rv,p,hz⟩:=I.tuple hq;have D:=yU I own hf hq hq2;obtain ⟨s1,s2,⟨u,v,s3⟩,s4,s5⟩:=id st;have e1:=rv.length;have hT:s.TypeIs (.ref z) "zip":=⟨_,s1,rfl⟩;have pT:s.heap.IsTuple a its.toArray:=p;unfold pyNext;refine wpAny_bind (wpAny_attempt (wpAny_callSpecial?_slot (name:=Str.ofString "__next__") hT F.slot_zip_next (wpAny_call_entry F.slot_zip_next hT F.entry_zip_next (uN (I.ok.hd hc) D s1 s2 s3 s4 pT (by simp;omega) λh' e kp ge=>?_) (F.args_zip_next_1 _))));obtain ⟨o,ho,hcl⟩:=ge;refine wpAny_bind (wpAny_isInstance (T:="StopIteration") (b:=true) ⟨o,ho,hcl⟩ isSubtype_stop ?_);exact wpAny_pure ⟨rfl,I.turnedL (t':=s.toks) (λc o hc q=>kp c o (λe=>hc (by simp [e])) (λe=>hc (by simp [e])) (λe=>hc (by simp [e])) (λe=>hc (by simp [e])) q) hf⟩
 self:=λ_ _ _ _ _ st h=>wpAny_pyIter_zip st.1 h
section
variable {X:Cx}
def iZipT (K:W.Frag) (ta tb:TE):TI:=λσ H R=>ta σ H λx H1=>tb σ H1 λy H2=>∃ a b xs ys,x=.ref a/\y=.ref b/\SqT K H2 a xs/\SqT K H2 b ys/\R (ItZT K a b) H2
theorem tS {elts:List Expr} {kk:Nat} {tpos p pos:Pos} {e f:Expr} {te tf:TE} (hg:Gl X "zip") (hm:X.mg "zip"=none) (he:PE X e te) (hf:PE X f tf)
  (hs:starEach [e,f] X.env=[(false,eval e X.env),(false,eval f X.env)]:=by rfl) (hs2:starEach [f] X.env=[(false,eval f X.env)]:=by rfl):PI X (.Tuple elts kk tpos) (.Call (.Name "zip" p) [e,f] [] pos) (iZipT X.K te tf):=by
 intro pins s σ H R I h;have b1:bootBuiltins "zip"=some (.type "zip"):=by decide+kernel
 refine wpAny_Call_Name_kw (jX I hg hm b1 ?_ (by decide) (by decide));refine PyProof.Rows.callWith_type1 ?_ (by rw [hs,hs2]) (by rw [hs2];rfl);rw [hs];refine Calls.spliced_cons (thn (he pins s σ H _ I h) λu s1 zz=>?_);obtain ⟨x,H1,I1,rx,q1⟩:=zz;refine Calls.spliced_cons (thn (hf pins s1 σ H1 _ I1 q1) λu2 s2 zz=>?_);obtain ⟨y,H2,I2,ry,a,b,xs,ys,ex,ey,hq,hq2,q⟩:=zz;subst ex ey;have eu:u=Value.ref a:=rx;have eu2:u2=Value.ref b:=ry;subst eu eu2;refine Calls.spliced_nil ?_;obtain ⟨its,rv,pl,hz⟩:=I2.tuple hq;obtain ⟨its2,rv2,pl2,hz2⟩:=I2.tuple hq2;refine BD (show s2.heap.IsTuple a its.toArray from pl) (show s2.heap.IsTuple b its2.toArray from pl2) λh' z TI TO i1 i2 kp=>?_;have I3:Inv X pins σ H2 {s2 with heap:=h' }:=I2.kept (t':=s2.toks) kp
 refine wpAny_pyIter_zip (s:={s2 with heap:=h' }) z ?_
 have ne:∀ i j:Nat,i≠j->s2.heap.objs.size+i≠s2.heap.objs.size+j:=λi j hij e=>hij (Nat.add_left_cancel e)
 refine ⟨_,[s2.heap.objs.size+4,s2.heap.objs.size+2,s2.heap.objs.size+3,s2.heap.objs.size,s2.heap.objs.size+1],_,ItZT X.K a b,H2,rfl,I3,
  Ao a b _ _ _ _ _ ⟨ne 2 4 (by decide),ne 3 4 (by decide),ne 0 4 (by decide),ne 1 4 (by decide),ne 2 3 (by decide),ne 2 0 (by decide),ne 2 1 (by decide),ne 3 0 (by decide),ne 3 1 (by decide),ne 0 1 (by decide)⟩,
  ⟨z,TI,⟨_,_,TO⟩,i1,i2⟩,λc hc=>?_,q⟩
 have nb:s2.heap.objs.size<=c:=by
  simp only [List.mem_cons,List.not_mem_nil,or_false] at hc;rcases hc with rfl | rfl | rfl | rfl | rfl
  ·exact Nat.le_add_right _ _
  ·exact Nat.le_add_right _ _
  ·exact Nat.le_add_right _ _
  ·exact Nat.le_refl _
  ·exact Nat.le_add_right _ _
 exact I2.fpOk nb (I2.hok.fresh nb)
end
section
variable {X:Cx} {tg:Expr}
end
section
variable {X:Cx}
theorem nR (hc:X.calm=true):gR X (.builtin "min") (λxs H Q=>∃(l:Addr) (ns:List Int),xs=[.ref l]/\SqL X.K H l (ns.map V.int)/\0 < ns.length/\∀ M,M∈ns->(∀ a∈ns,M<=a)->Q (.int M) H):=by
 intro pins s σ H xs us Q I r h;obtain ⟨l,ns,rfl,hq,hne,q⟩:=h;obtain ⟨u,rfl,rx⟩:=vals1 r;cases rx
 obtain ⟨its,rv,pl,_⟩:=I.list hq;have hi:IntsAre its ns:=intsAre_of rv;have hl:=pl.isList;obtain ⟨ys,e⟩:=hi.allInts.items;have en:ns=ys.toList.map (·.1):=by rw [<- hi.numsOf,<- nums_intItems,<- e]
 have sz:ns.length=ys.size:=by rw [en,List.length_map,Array.length_toList]
 rw [e] at hl;refine min_intList (I.ok.hd hc) hl (by omega) λv h' tk hv hk=>?_;obtain ⟨t,rfl⟩:=intItems_at hv;obtain ⟨h1,h2⟩:=argBest_lt (numAt ys) (ys.size - 1);refine ⟨.int _,H,I.kept hk,⟨t,rfl⟩,q _ ?_ λa ha=>?_⟩
 ·rw [numAt_eq,<- en];exact PySem.getD_mem (by omega)
 ·rw [en] at ha;obtain ⟨j,hj,rfl⟩:=mem_getD ha;rw [<- numAt_eq];exact h2 j (by rw [List.length_map,Array.length_toList] at hj;omega)
theorem nS (hc:X.calm=true):gR X (.builtin "max") (λxs H Q=>∃(l:Addr) (ns:List Int),xs=[.ref l]/\SqL X.K H l (ns.map V.int)/\0 < ns.length/\∀ M,M∈ns->(∀ a∈ns,a<=M)->Q (.int M) H):=by
 intro pins s σ H xs us Q I r h;obtain ⟨l,ns,rfl,hq,hne,q⟩:=h;obtain ⟨u,rfl,rx⟩:=vals1 r;cases rx
 obtain ⟨its,rv,pl,_⟩:=I.list hq;have hi:IntsAre its ns:=intsAre_of rv;have hl:=pl.isList;obtain ⟨ys,e⟩:=hi.allInts.items;have en:ns=ys.toList.map (·.1):=by rw [<- hi.numsOf,<- nums_intItems,<- e]
 have sz:ns.length=ys.size:=by rw [en,List.length_map,Array.length_toList]
 rw [e] at hl;refine max_intList (I.ok.hd hc) hl (by omega) λv h' tk hv hk=>?_;obtain ⟨t,rfl⟩:=intItems_at hv;obtain ⟨h1,h2⟩:=argBest_gt (numAt ys) (ys.size - 1);refine ⟨.int _,H,I.kept hk,⟨t,rfl⟩,q _ ?_ λa ha=>?_⟩
 ·rw [numAt_eq,<- en];exact PySem.getD_mem (by omega)
 ·rw [en] at ha;obtain ⟨j,hj,rfl⟩:=mem_getD ha;rw [<- numAt_eq];exact h2 j (by rw [List.length_map,Array.length_toList] at hj;omega)
end
section
variable {X:Cx} {n:Nat} {x:Str} {sp:Sp} {p pos:Pos}
theorem tU (D:Def X.prog X.w X.K X.mg X.base n x [] sp) (hr:dj n X.A) (hg:Gl X x) (hdb:(x == ("__debug__":Str))=false:=by decide):PE X (.Call (.Name x p) [] [] pos) (pM sp [] E0 jE):=by
 obtain ⟨f,fd,F,b,kp,m⟩:=D.ex;exact Dx F hr hg m kp b .nil vS hdb
end
open PySem.W
section
variable {X:Cx} {elt iter:Expr} {xs:List Str} {elts:List Expr} {kk:Nat} {tp pos:Pos} {scope:Scope} {cl:List (Str×Addr)} {wi:TI} {g:TG} {te:TE} {js:List Nat}
theorem vN {y:Str} {i:Nat} {py spos:Pos} (hN:X.N.Nodup) (hy:X.N[i]?=some y) (hyl:Loc X.env.scope y) (hyf:X.fn y=true\/X.env.scope.names.lookup y=some .local)
  (hsw:swapsWith (.ListComp elt [⟨.Tuple elts kk tp,iter,[],0⟩] scope pos) (some (.Name y py)) spos.line X.env=pure true)
  (hc:X.calm=true) (hi:PI X (.Tuple elts kk tp) iter wi) (hk:scope.kind=.function) (hcell:∀ y∈scope.names,y.2≠.cell) (hnames:∀ y∈scope.names,y.2=.local->scope.names.lookup y.1=some .local)
  (hf:∀ p∈scope.names,p.2=.free->X.env.kindOf p.1=some .cell\/X.env.kindOf p.1=some .free) (hjs:fL X scope js) (hnd:(bW X xs js).Nodup)
  (hg:∀ cl s' H' fp,PG (bC X scope cl (bW X xs js) s' H' fp) (.Tuple elts kk tp) g) (he:∀ cl s' H' fp,PE (bC X scope cl (bW X xs js) s' H' fp) elt te)
  (hs:∀ x,foldedSetIterable iter X.env x=pure x:=by intro _;rfl) :
  PS X (.Assign [.Name y py] (.ListComp elt [⟨.Tuple elts kk tp,iter,[],0⟩] scope pos) spos) (rM i (ji xs.length wi g te js)):=by
 intro pins s σ H D I h;obtain ⟨cl,e,p1,p2⟩:=uB (pH (js:=js) I λy hy=>hf (y,.free) hy rfl);rw [exec_Assign_Name_used _ _ _ _ hsw];refine wpAny_bind (wpAny_standAt (wpAny_bind ?_));show wpAny _ _ (do let _ <- comprehension (.ListComp elt [⟨.Tuple elts kk tp,iter,[],0⟩] scope pos) scope X.env _ (newList []) false (eval iter X.env) (some (assign (.Name y py) X.env))) _ _ s
 refine wpAny_bind (wpAny_mono (wpAny_comprehension_free (use:=some (assign (.Name y py) X.env)) (Q:=λ_ s'=>SP X pins D .next s') rfl hs e hk hnames
  (qS hc hi hk hcell p1 p2 hjs hnd (hg cl) (he cl) I h λD' C H' s' I' fC hC q=>?_)) (λ_ s' hq=>wpAny_pure (wpAny_pure hq)) λ_ _ e=>e)
 obtain ⟨m,o,es,ep,ho,hd,hr⟩:=hC;obtain ⟨f0,f1,f2,f3,f4,f5⟩:=fC
 have Ip:Inv X (pins++[(C,o)]) σ H' s':=I'.pins_of λp hp=>(List.mem_append.mp hp).elim (λz=>I'.pin p (List.mem_append_right _ z)) λz=>by
  have e:p=(C,o):=by simpa using z
  subst e;exact ⟨ho,f0,f1,f2,λv z=>by rw [hd] at z;cases z⟩
 have hg:PG X (.Name y py) (ip i):=aV hN hy hyl hyf;refine thn (hg _ s' σ H' (.ref D') (.ref D') (λσ' H''=>σ'=σ.set i (some (.ref D'))/\H''=H') Ip rfl ⟨rfl,rfl⟩) λ_ s'' q''=>?_;obtain ⟨σ'',H'',I'',e1,e2⟩:=q'';subst e1 e2;have hp:=(I''.pin (C,o) (by simp)).1;refine ⟨m,⟨o,es,ep,hp,hd,hr⟩,λh' sb=>?_⟩;exact ⟨_,_,(I''.unpinned).turned (t':=s''.toks) (λb o hb e=>(sb.2 b hb).trans e) f0 f1 f3 f4 f5,q⟩
end
def tTryA (K:Frag) (i:Nat) (Dc:Addr) (sp:Sp) (ta:TA) (ts:TS):TS:=λD σ H=>ta σ H λvs H1=>sp vs H1 (λv H2=>D.nx (σ.set i (some v)) H2) λC _ H2=>∃ Cn,C=.ref Cn/\mroIn K Cn (.ref Dc)=some true/\ts D σ H2
theorem ps_tryA {X:Cx} {m i:Nat} {x y z:Str} {ps:List Str} {sp:Sp} {e:Expr} {es:List Expr} {ta:TA} {ts:TS} {p pos pos' pz np hpos tpos:Pos} {b₀:Stmt} {suite:List Stmt} {Dc:Addr}
  (hxe:X.xe=λ_ _=>False) (hstk:X.stack=X.env::X.outer) (hfr:X.env.frame=some X.env.locals)
  (Df:cy X.prog X.w X.K X.mg X.base m x ps sp) (hr:dj m X.A) (hg:Gl X x) (ha:PA X (e::es) ta) (hgy:Gl X y) (hmy:X.mg y=some (.ref Dc)) (cc:iz X.K Dc)
  (hN:X.N.Nodup) (hi:X.N[i]?=some z) (hl:X.env.scope.names.lookup z=some .local) (hs:∀ ea,PSs (X.mark ea) (b₀::suite) ts)
  (hdb:(x == ("__debug__":Str))=false:=by decide) (hdy:(y == ("__debug__":Str))=false:=by decide) (he:starEach (e::es) X.env=(false,eval e X.env)::starEach es X.env:=by rfl)
  (hpl:(backTo pos (starEach es X.env)).any (·.1)=false:=by rfl) (hsw:swapsWith (.Call (.Name x p) (e::es) [] pos) (some (.Name z pz)) pos'.line X.env=pure false:=by rfl) :
  PS X (.Try [.Assign [.Name z pz] (.Call (.Name x p) (e::es) [] pos) pos'] [.ExceptHandler (some (.Name y np)) none (b₀::suite) hpos] [] [] tpos) (tTryA X.K i Dc sp ta ts):=by
 intro pins s σ H D I h;obtain ⟨f,fd,F,b,kp,mf⟩:=Df.ex;refine wpAny_Try_except (wpAny_execs_cons (wpAny_Assign_Name ?_ hsw));refine wpAny_Call_Name_kw (gx I hg mf ?_ hdb);refine callWith_K (h₀:=X.base) I.ok.mod.kin kp (wpAny_mono (ha pos pins s σ H _ I h) (λus s1 z=>?_) (λ_ _ z=>by rw [hxe] at z;exact z.elim)) he hpl;obtain ⟨vs,H1,I1,r,q⟩:=z;refine ⟨I1.kIn,?_⟩;have hlen:us.length=ps.length:=by rw [<- r.length];exact F.len _ _ _ _ q
 have bnd:BindsTo s1 fd ⟨us,[]⟩ (ps.zip us):=by
  have z:=b s1 us I1.kIn (by rw [List.append_nil];exact hlen);rw [List.append_nil] at z;exact z
 refine wpAny_call (codeAny_mono (F.run X.A X.stack s1 H1 ⟨us,[]⟩ us vs _ _ hr I1.env0 bnd r q) λres s' hq=>?_);cases res with
 | ok fl =>
  cases fl with
  | ret u =>
   obtain ⟨v,H2,I2,rv,q2⟩:=I1.after hq;exact jK I2 hN hi (.inl hl) rv (λs3 I3=>wpAny_execs_nil (wpAny_execs_nil ⟨_,H2,I3,q2⟩)) (.inr hl)
  | next=>exact False.elim hq
  | brk=>exact False.elim hq
  | cont=>exact False.elim hq
 | error ex =>
  obtain ⟨ea,C,H2,rfl,⟨t,B,ho,hgn,un,hok,fl,h0,h1,cov⟩,Cn,rfl,hm,q3⟩:=hq;have hfrm:X.A.frames=some (X.env::X.outer):=by rw [<- hstk];exact I.ok.frames
  rw [hstk] at fl;refine wpAny_looks_onW (L:=X.env.locals) hfrm hfr fl λh4 held up4=>?_;refine wpAny_landsW held λh5 fl5 up5'=>?_;have up5:=up4.trans up5';have I5:Inv X pins σ H2 {s' with heap:=h5}:=I1.caught (C:=.ref Cn) (ea:=ea) (t:=t) (tk:=s'.toks) ho hgn un hok cov fl5.1 up5
  refine wpAny_handleBy_cons (codeAny_handlers_test (gx (X:=X.mark ea) (I5.mark ea) hgy hmy ?_ hdy)) (by intro z;cases z)
  refine oI (K:=X.K) I5.kIn fl5.there cc hm ?_;show codeAny _ _ (.handlers (.ref ea) [.ExceptHandler none none (b₀::suite) hpos] X.env) _ _;refine codeAny_handlers_suite ?_;refine lands_againW fl5 λh6 fl6 up6=>?_;have I6:Inv X pins σ H2 {s' with heap:=h6}:=I1.caught (C:=.ref Cn) (ea:=ea) (t:=t) (tk:=s'.toks) ho hgn un hok cov fl6.1 (up5.trans up6)
  refine wpAny_mono (hs ea pins _ _ _ _ (I6.mark ea) q3) (λfl8 s8 q8=>?_) (λee ss z=>by
   have z':X.xe ee ss:=z;rw [hxe] at z';exact z'.elim)
  cases fl8 with
  | next=>obtain ⟨σ8,H8,J,n8⟩:=q8;exact ⟨σ8,H8,J.unmark I.ok,n8⟩
  | brk=>obtain ⟨σ8,H8,J,n8⟩:=q8;exact ⟨σ8,H8,J.unmark I.ok,n8⟩
  | cont=>obtain ⟨σ8,H8,J,n8⟩:=q8;exact ⟨σ8,H8,J.unmark I.ok,n8⟩
  | ret u=>obtain ⟨v,σ8,H8,J,rv,n8⟩:=q8;exact ⟨v,σ8,H8,J.unmark I.ok,rv,n8⟩
section
variable {X:Cx} {es fs:List Expr} {t:TA} {te:TE} {k j:Nat} {p:Pos} {i:Int}
theorem eM (hr:PA X es t):PA X (.Constant (.int i) j p::es) (dN (tC (.int i)) t):=aa ao hr
theorem so (ha:PE X (.Tuple fs k p) te) (hr:PA X es t):PA X (.Tuple fs k p::es) (dN te t):=aa ha hr
def tK3 (a b c:Int):TE:=tTup (dN (tC (.int a)) (dN (tC (.int b)) (dN (tC (.int c)) jE)))
def eK3 (a b c:Int) (j1 j2 j3 k:Nat) (p1 p2 p3 p:Pos):Expr:=.Tuple [.Constant (.int a) j1 p1,.Constant (.int b) j2 p2,.Constant (.int c) j3 p3] k p
theorem pe_k3 {a b c:Int} {j1 j2 j3 k:Nat} {p1 p2 p3 p:Pos}:PE X (.Tuple [.Constant (.int a) j1 p1,.Constant (.int b) j2 p2,.Constant (.int c) j3 p3] k p) (tK3 a b c):=by
 unfold tK3;refine bB ?_;refine eM ?_;refine eM ?_;refine eM ?_;exact ah
theorem tT {a b c:Int} {j1 j2 j3 k:Nat} {p1 p2 p3 p:Pos}:PE X (eK3 a b c j1 j2 j3 k p1 p2 p3 p) (tK3 a b c):=pe_k3
def tSq:TE:=tLst (dN (tK3 1 0 0) (dN (tK3 1 1 0) (dN (tK3 1 1 1) (dN (tK3 1 0 1) jE))))
structure IsSq (e:Expr):Prop where
 ex:∃ a1 a2 a3 a4 q1 q2 q3 q4 b1 b2 b3 b4 r1 r2 r3 r4 c1 c2 c3 c4 s1 s2 s3 s4 d1 d2 d3 d4 t1 t2 t3 t4 p,e=.List [eK3 1 0 0 a1 a2 a3 a4 q1 q2 q3 q4,eK3 1 1 0 b1 b2 b3 b4 r1 r2 r3 r4,eK3 1 1 1 c1 c2 c3 c4 s1 s2 s3 s4,eK3 1 0 1 d1 d2 d3 d4 t1 t2 t3 t4] p
theorem pe_sq {e:Expr} (h:IsSq e):PE X e tSq:=by
 obtain ⟨a1,a2,a3,a4,q1,q2,q3,q4,b1,b2,b3,b4,r1,r2,r3,r4,c1,c2,c3,c4,s1,s2,s3,s4,d1,d2,d3,d4,t1,t2,t3,t4,p,rfl⟩:=h.ex;unfold tSq;refine bO ?_;refine aa tT ?_ rfl;refine aa tT ?_ rfl;refine aa tT ?_ rfl;refine aa tT ?_ rfl;exact ah
end
mutual
def Fi (K:W.Frag) (H:Hp):PyData->V->Prop
 | .none,v=>v=.non
 | .bool b,v=>v=.bl b
 | .int i,v=>v=.int i
 | .str x,v=>v=.str x
 | .tuple ds,v=>∃ a xs,v=.ref a/\SqT K H a xs/\hI K H ds xs
 | .list ds,v=>∃ a xs,v=.ref a/\SqL K H a xs/\hI K H ds xs
 | .dict _,_=>False
def hI (K:W.Frag) (H:Hp):List PyData->List V->Prop
 | [],xs=>xs=[]
 | d::ds,xs=>∃ x r,xs=x::r/\Fi K H d x/\hI K H ds r
end
mutual
theorem Dat.m {K:W.Frag} {H:Hp}:∀{d:PyData} {v:V},Dat K H d v->Fi K H d v
 | .none,_,h=>h
 | .bool _,_,h=>h
 | .int _,_,h=>h
 | .str _,_,h=>h
 | .tuple _,_,⟨a,xs,h1,h2,h3⟩=>⟨a,xs,h1,h2,DatAll.m h3⟩
 | .list _,_,h=>False.elim h
 | .dict _,_,h=>h
theorem DatAll.m {K:W.Frag} {H:Hp}:∀{ds:List PyData} {xs:List V},DatAll K H ds xs->hI K H ds xs
 | [],_,h=>h
 | _::_,_,⟨x,r,h1,h2,h3⟩=>⟨x,r,h1,Dat.m h2,DatAll.m h3⟩
end
mutual
theorem Fi.reads {X:Cx} {pins:List (Addr×Obj)} {σ:St} {H:Hp} {s:Shared} (I:Inv X pins σ H s):∀(d:PyData) {v:V} {u:Value},Fi X.K H d v->RelV v u->∃ as,Reads s.heap u d as
 | .none,_,_,h,r=>Dat.reads I .none h r
 | .bool b,_,_,h,r=>Dat.reads I (.bool b) h r
 | .int i,_,_,h,r=>Dat.reads I (.int i) h r
 | .str x,_,_,h,r=>Dat.reads I (.str x) h r
 | .tuple ds,_,_,⟨a,xs,h1,h2,h3⟩,r=>by
  cases h1
  cases (show _=Value.ref a from r)
  obtain ⟨its,rv,⟨o,ho,hc,n,hd⟩,_⟩:=I.tuple h2;obtain ⟨as,ra⟩:=hI.reads I ds h3 rv;exact ⟨as,.tuple ho hc hd (by simpa using ra)⟩
 | .list ds,_,_,⟨a,xs,h1,h2,h3⟩,r=>by
  cases h1
  cases (show _=Value.ref a from r)
  obtain ⟨its,rv,⟨o,n,ho,hc,_,hd⟩,_⟩:=I.list h2;obtain ⟨as,ra⟩:=hI.reads I ds h3 rv;exact ⟨a::as,.list ho hc hd (by simpa using ra)⟩
 | .dict _,_,_,h,_=>False.elim h
theorem hI.reads {X:Cx} {pins:List (Addr×Obj)} {σ:St} {H:Hp} {s:Shared} (I:Inv X pins σ H s):∀(ds:List PyData) {xs:List V} {us:List Value},hI X.K H ds xs->Vals xs us->∃ as,ReadsAll s.heap us ds as
 | [],_,_,h,r=>by
  cases (show _=([]:List V) from h)
  cases r
  exact ⟨[],.nil⟩
 | d::ds,_,_,⟨x,t,h1,h2,h3⟩,r=>by
  cases h1
  cases r with
  | cons r1 r2 =>
   obtain ⟨as,a1⟩:=Fi.reads I d h2 r1;obtain ⟨bs,b1⟩:=hI.reads I ds h3 r2;exact ⟨as++bs,.cons a1 b1⟩
end
section
variable {X:Cx}
end
end L2
namespace Mine
structure T3 where
 u:Int
 v:Int
 w:Int
deriving DecidableEq
namespace Hu
def tl (r p:T3):Int:=r.u*p.v+r.v*p.w+r.w*p.u
def det (p q r:T3):Int:=p.u*(q.v*r.w - q.w*r.v) - p.v*(q.u*r.w - q.w*r.u)+p.w*(q.u*r.v - q.v*r.u)
theorem bK (p q r:T3):det p q r=det r p q:=by simp only [det];grind
theorem yu (p r:T3):det p p r=0:=by simp only [det];grind
theorem yt (p r:T3):det r p p=0:=by simp only [det];grind
theorem EN (p r:T3):det p r p=0:=by simp only [det];grind
structure Co (p q X:T3):Prop where
 ex:∃ g a b:Int,0 < g/\0<=a/\0<=b/\g*X.u=a*p.u+b*q.u/\g*X.v=a*p.v+b*q.v/\g*X.w=a*p.w+b*q.w
theorem co_one (p q:T3):Co p q p:=⟨1,1,0,by decide,by decide,by decide,by omega,by omega,by omega⟩
theorem tP {g x:Int} (hg:0 < g) (h:0<=g*x):0<=x:=by
 rcases Int.lt_or_le x 0 with z | z
 ·have:=Int.mul_neg_of_pos_of_neg hg z;omega
 ·exact z
theorem co_1 {p q X Y Z:T3} (h:Co p q X) (h1:0<=det p Y Z) (h2:0<=det q Y Z):0<=det X Y Z:=by
 obtain ⟨g,a,b,hg,ha,hb,e1,e2,e3⟩:=h.ex;refine tP hg ?_;have e:g*det X Y Z=a*det p Y Z+b*det q Y Z:=by simp only [det];grind
 rw [e];have:=Int.mul_nonneg ha h1;have:=Int.mul_nonneg hb h2;omega
theorem co_2 {p q X Y Z:T3} (h:Co p q Y) (h1:0<=det X p Z) (h2:0<=det X q Z):0<=det X Y Z:=by
 rw [bK,bK];rw [bK,bK] at h1 h2;exact co_1 h h1 h2
theorem co_3 {p q X Y Z:T3} (h:Co p q Z) (h1:0<=det X Y p) (h2:0<=det X Y q):0<=det X Y Z:=by
 rw [bK];rw [bK] at h1 h2;exact co_1 h h1 h2
def Tri (L:List T3):Prop:=∀ p q r,[p,q,r].Sublist L->0<=det p q r
theorem mV {α:Type} {L:List α} {i j k:Nat} (h1:i < j) (h2:j < k) (h3:k < L.length):[L[i]'(by omega),L[j]'(by omega),L[k]].Sublist L:=by
 have a3:[L[k]].Sublist (L.drop (j+1)):=by
  rw [List.singleton_sublist];rw [List.mem_iff_getElem];exact ⟨k - (j+1),by simp;omega,by simp [show j+1+(k - (j+1))=k by omega]⟩
 have a2:[L[j]'(by omega),L[k]].Sublist (L.drop (i+1)):=by
  have:[L[j]'(by omega),L[k]].Sublist (L.drop j):=by
   rw [List.drop_eq_getElem_cons (show j < L.length by omega)];exact List.Sublist.cons₂ _ a3
  refine this.trans ?_;have e:L.drop j=(L.drop (i+1)).drop (j - (i+1)):=by rw [List.drop_drop];congr 1;omega
  rw [e];exact List.drop_sublist _ _
 refine List.Sublist.trans ?_ (List.drop_sublist i L);rw [List.drop_eq_getElem_cons (show i < L.length by omega)];exact List.Sublist.cons₂ _ a2
section
variable {α:Type} {f:Nat->List α}
def fl (f:Nat->List α) (n:Nat):List α:=(List.range n).flatMap f
theorem uw:fl f 0=[]:=rfl
theorem bo (n:Nat):fl f (n+1)=fl f n++f n:=by simp [fl,List.range_succ]
theorem sub_one {p:α}:∀{n:Nat},p∈fl f n->∃ i,i < n/\p∈f i
 | 0,h=>by simp [fl] at h
 | n+1,h=>by
  rw [bo] at h;rcases List.mem_append.mp h with h | h
  ·obtain ⟨i,hi,z⟩:=sub_one h;exact ⟨i,by omega,z⟩
  ·exact ⟨n,by omega,h⟩
theorem yW {p q:α}:∀{n:Nat},[p,q].Sublist (fl f n)->(∃ i j,i < j/\j < n/\p∈f i/\q∈f j)\/∃ i,i < n/\[p,q].Sublist (f i)
 | 0,h=>by have:=h.length_le;simp [fl] at this
 | n+1,h=>by
  rw [bo] at h;obtain ⟨l1,l2,e,h1,h2⟩:=List.sublist_append_iff.mp h
  match l1,e with
  | [],e=>subst e;exact .inr ⟨n,by omega,h2⟩
  | [_],e =>
   simp at e;obtain ⟨rfl,rfl⟩:=e;obtain ⟨i,hi,z⟩:=sub_one (List.singleton_sublist.mp h1);exact .inl ⟨i,n,hi,by omega,z,List.singleton_sublist.mp h2⟩
  | [_,_],e =>
   simp at e;obtain ⟨rfl,rfl,rfl⟩:=e;rcases yW h1 with ⟨i,j,a,b,c,d⟩ | ⟨i,a,b⟩
   ·exact .inl ⟨i,j,a,by omega,c,d⟩
   ·exact .inr ⟨i,by omega,b⟩
  | _::_::_::_,e=>simp at e
theorem rO {p q r:α}:∀{n:Nat},[p,q,r].Sublist (fl f n)->(∃ i j k,i < j/\j < k/\k < n/\p∈f i/\q∈f j/\r∈f k)\/(∃ i k,i < k/\k < n/\[p,q].Sublist (f i)/\r∈f k)\/(∃ i k,i < k/\k < n/\p∈f i/\[q,r].Sublist (f k))\/∃ i,i < n/\[p,q,r].Sublist (f i)
 | 0,h=>by have:=h.length_le;simp [fl] at this
 | n+1,h=>by
  rw [bo] at h;obtain ⟨l1,l2,e,h1,h2⟩:=List.sublist_append_iff.mp h
  match l1,e with
  | [],e=>subst e;exact .inr (.inr (.inr ⟨n,by omega,h2⟩))
  | [_],e =>
   simp at e;obtain ⟨rfl,rfl⟩:=e;obtain ⟨i,hi,z⟩:=sub_one (List.singleton_sublist.mp h1);exact .inr (.inr (.inl ⟨i,n,hi,by omega,z,h2⟩))
  | [_,_],e =>
   simp at e;obtain ⟨rfl,rfl,rfl⟩:=e;have h2':=List.singleton_sublist.mp h2;rcases yW h1 with ⟨i,j,a,b,c,d⟩ | ⟨i,a,b⟩
   ·exact .inl ⟨i,j,n,a,b,by omega,c,d,h2'⟩
   ·exact .inr (.inl ⟨i,n,a,by omega,b,h2'⟩)
  | [_,_,_],e =>
   simp at e;obtain ⟨rfl,rfl,rfl,rfl⟩:=e;rcases rO h1 with ⟨i,j,k,a,b,c,d⟩ | ⟨i,k,a,b,c⟩ | ⟨i,k,a,b,c⟩ | ⟨i,a,b⟩
   ·exact .inl ⟨i,j,k,a,b,by omega,d⟩
   ·exact .inr (.inl ⟨i,k,a,by omega,c⟩)
   ·exact .inr (.inr (.inl ⟨i,k,a,by omega,c⟩))
   ·exact .inr (.inr (.inr ⟨i,by omega,b⟩))
  | _::_::_::_::_,e=>simp at e
theorem yq {c:Nat} (h:∀ i,(f i).length<=c):∀ n:Nat,(fl f n).length<=n*c
 | 0=>by simp [fl]
 | n+1=>by
  rw [bo,List.length_append];have:=yq h n;have:=h n;rw [Nat.add_mul];omega
theorem EB {p:α} {i n:Nat} (hi:i < n) (h:p∈f i):p∈fl f n:=by
 unfold fl;exact List.mem_flatMap.mpr ⟨i,List.mem_range.mpr hi,h⟩
end
def z3:T3:=⟨1,0,0⟩
def cor (h:List T3) (i:Nat):T3:=h.getD (i % h.length) z3
theorem eF {h:List T3} {i:Nat} (hi:i < h.length):cor h i=h[i]:=by
 unfold cor;rw [Nat.mod_eq_of_lt hi,List.getD_eq_getElem?_getD,List.getElem?_eq_getElem hi];rfl
theorem dH (h:List T3):cor h h.length=cor h 0:=by
 unfold cor;rw [Nat.mod_self,Nat.zero_mod]
theorem dY {h:List T3} (h0:0 < h.length) (i:Nat):cor h i∈h:=by
 have:i % h.length < h.length:=Nat.mod_lt _ h0;unfold cor;rw [List.getD_eq_getElem?_getD,List.getElem?_eq_getElem this];exact List.getElem_mem this
theorem Dg {h:List T3} (T:Tri h) {i j k:Nat} (h1:i<=j) (h2:j<=k) (h3:k < h.length):0<=det (cor h i) (cor h j) (cor h k):=by
 rcases Nat.lt_or_ge i j with a | a
 ·rcases Nat.lt_or_ge j k with b | b
  ·rw [eF (show i < h.length by omega),eF (show j < h.length by omega),eF h3];exact T _ _ _ (mV a b h3)
  ·rw [show j=k by omega,yt];exact Int.le_refl 0
 ·rw [show i=j by omega,yu];exact Int.le_refl 0
theorem tK {h:List T3} (T:Tri h) {i j k:Nat} (h1:i<=j) (h2:j<=k) (h3:k<=h.length):0<=det (cor h i) (cor h j) (cor h k):=by
 rcases Nat.lt_or_ge k h.length with c | c
 ·exact Dg T h1 h2 c
 ·rw [show k=h.length by omega,dH,bK];rcases Nat.lt_or_ge j h.length with d | d
  ·exact Dg T (Nat.zero_le _) h1 d
  ·rw [show j=h.length by omega,dH,EN];exact Int.le_refl 0
structure Part (h:List T3) (f:Nat->List T3):Prop where
 co:∀ i,i < h.length->∀ p∈f i,Co (cor h i) (cor h (i+1)) p
 two:∀ i,i < h.length->∀ p q,[p,q].Sublist (f i)->p=cor h i
 len:∀ i,(f i).length<=2
end Hu
namespace Hu
def nm (p q s t:Int):Int:=(t.natAbs:Int)*p+(s.natAbs:Int)*q
def gg (U V W:Int):Int:=Lo.gc (Lo.gc U V) W
def mid (p q:T3) (s t:Int):T3:=
 ⟨(nm p.u q.u s t).fdiv (gg (nm p.u q.u s t) (nm p.v q.v s t) (nm p.w q.w s t)),(nm p.v q.v s t).fdiv (gg (nm p.u q.u s t) (nm p.v q.v s t) (nm p.w q.w s t)),(nm p.w q.w s t).fdiv (gg (nm p.u q.u s t) (nm p.v q.v s t) (nm p.w q.w s t))⟩
theorem zP (p q:T3) (s t:Int):mid p q (-s) (-t)=mid p q s t:=by simp only [mid,nm,Int.natAbs_neg]
theorem wD (U V W:Int):gg U V W∣U:=Int.dvd_trans (Lo.dQ _ _) (Lo.dQ _ _)
theorem Es (U V W:Int):gg U V W∣V:=Int.dvd_trans (Lo.dQ _ _) (Lo.dW _ _)
theorem Er (U V W:Int):gg U V W∣W:=Lo.dW _ _
theorem Bv (U V W:Int):0<=gg U V W:=Lo.sL _ _
theorem lF {U V W:Int} (h:0 < U):0 < gg U V W:=by
 rcases Int.lt_or_eq_of_le (Bv U V W) with z | z
 ·exact z
 ·have:=wD U V W;rw [<- z] at this;have:=Int.zero_dvd.mp this;omega
theorem gg_le {U V W:Int} (h:0 < U):gg U V W<=U:=Int.le_of_dvd h (wD U V W)
theorem div_eq {g x:Int} (h:g∣x):g*x.fdiv g=x:=by
 rw [Int.fdiv_eq_ediv_of_dvd h];exact Int.mul_ediv_cancel' h
structure P3 (b:Nat) (p:T3):Prop where
 n0:0 < p.u
 x0:0<=p.v
 y0:0<=p.w
 n1:p.u < 2 ^ b
 x1:p.v < 2 ^ b
 y1:p.w < 2 ^ b
theorem P3.mono {b c:Nat} {p:T3} (h:P3 b p) (z:b<=c):P3 c p:=by
 have e:(2:Int) ^ b<=2 ^ c:=by
  have:=Nat.pow_le_pow_right (n:=2) (by decide) z
  exact_mod_cast this
 exact ⟨h.n0,h.x0,h.y0,Int.lt_of_lt_of_le h.n1 e,Int.lt_of_lt_of_le h.x1 e,Int.lt_of_lt_of_le h.y1 e⟩
theorem lC {a c:Int} {m n:Nat} (h1:a.natAbs < 2 ^ m) (h2:c.natAbs < 2 ^ n):(a*c).natAbs < 2 ^ (m+n):=by
 rw [Int.natAbs_mul,Nat.pow_add];rcases Nat.eq_zero_or_pos c.natAbs with z | z
 ·rw [z,Nat.mul_zero];exact Nat.mul_pos (Nat.pow_pos (by decide)) (Nat.pow_pos (by decide))
 ·exact Nat.lt_of_lt_of_le (Nat.mul_lt_mul_of_pos_right h1 z) (Nat.mul_le_mul_left _ (Nat.le_of_lt h2))
theorem we {b:Nat} {x:Int} (h0:0<=x) (h:x < 2 ^ b):x.natAbs < 2 ^ b:=by
 have e:((2 ^ b:Nat):Int)=(2:Int) ^ b:=by norm_cast
 omega
theorem nm_b {b e:Nat} {p q s t:Int} (p0:0<=p) (q0:0<=q) (p1:p < 2 ^ b) (q1:q < 2 ^ b) (hs:s.natAbs < 2 ^ e) (ht:t.natAbs < 2 ^ e):0<=nm p q s t/\(nm p q s t).natAbs < 2 ^ (e+b+1):=by
 have a1:=lC (a:=(t.natAbs:Int)) (c:=p) (m:=e) (n:=b) (by simpa using ht) (we p0 p1);have a2:=lC (a:=(s.natAbs:Int)) (c:=q) (m:=e) (n:=b) (by simpa using hs) (we q0 q1);have b1:0<=(t.natAbs:Int)*p:=Int.mul_nonneg (by omega) p0;have b2:0<=(s.natAbs:Int)*q:=Int.mul_nonneg (by omega) q0;have e1:2 ^ (e+b+1)=2 ^ (e+b)+2 ^ (e+b):=by rw [Nat.pow_succ];omega
 unfold nm;rw [e1];exact ⟨by omega,by omega⟩
section
variable {b e:Nat} {p q:T3} {s t:Int}
theorem ju (hp:P3 b p) (hq:P3 b q) (h:s*t < 0):0 < nm p.u q.u s t:=by
 have s0:s≠0:=λz=>by rw [z] at h;simp at h
 have t0:t≠0:=λz=>by rw [z] at h;simp at h
 have a1:0 < (t.natAbs:Int)*p.u:=Int.mul_pos (by omega) hp.n0;have a2:0 < (s.natAbs:Int)*q.u:=Int.mul_pos (by omega) hq.n0;unfold nm;omega
theorem qA (hp:P3 b p) (hq:P3 b q) (h:s*t < 0):Co p q (mid p q s t):=by
 have g0:=lF (V:=nm p.v q.v s t) (W:=nm p.w q.w s t) (ju hp hq h);exact ⟨gg (nm p.u q.u s t) (nm p.v q.v s t) (nm p.w q.w s t),t.natAbs,s.natAbs,g0,by omega,by omega,div_eq (wD _ _ _),div_eq (Es _ _ _),div_eq (Er _ _ _)⟩
end
structure xi (b l:Nat) (h:List T3):Prop where
 tri:Tri h
 ok:∀ p∈h,P3 b p
 pos:0 < h.length
 few:h.length<=l
def stp (h:List T3) (t:Nat->Int) (i:Nat):List T3:=(if t i<=0 then [cor h i] else [])++(if t i*t (i+1) < 0 then [mid (cor h i) (cor h (i+1)) (t i) (t (i+1))] else [])
def tv (r:T3) (h:List T3) (i:Nat):Int:=tl r (cor h i)
def tn (r:T3) (h:List T3) (i:Nat):Int:=- tl r (cor h i)
def low (r:T3) (h:List T3):List T3:=fl (stp h (tv r h)) h.length
def high (r:T3) (h:List T3):List T3:=fl (stp h (tn r h)) h.length
theorem uV {b l:Nat} {h:List T3} (H:xi b l h) (t:Nat->Int):Part h (stp h t) where
 co:=λi hi p hp=>by
  unfold stp at hp;rcases List.mem_append.mp hp with z | z
  ·split at z
   ·rw [List.mem_singleton.mp z];exact co_one _ _
   ·cases z
  ·split at z
   ·rename_i c;rw [List.mem_singleton.mp z];exact qA (H.ok _ (dY H.pos i)) (H.ok _ (dY H.pos (i+1))) c
   ·cases z
 two:=λi hi p q s=>by
  unfold stp at s
  by_cases c1:t i<=0 <;> by_cases c2:t i*t (i+1) < 0
  ·rw [if_pos c1,if_pos c2] at s;have:=s.eq_of_length (by simp);simp at this;exact this.1
  ·rw [if_pos c1,if_neg c2] at s;have:=s.length_le;simp at this
  ·rw [if_neg c1,if_pos c2] at s;have:=s.length_le;simp at this
  ·rw [if_neg c1,if_neg c2] at s;have:=s.length_le;simp at this
 len:=λi=>by
  unfold stp;rw [List.length_append];split <;> split <;> simp
structure R3 (c:Nat) (r:T3):Prop where
 a:r.u.natAbs < 2 ^ c
 b:r.v.natAbs < 2 ^ c
 c:r.w.natAbs < 2 ^ c
theorem P3.r {b:Nat} {p:T3} (h:P3 b p):R3 b p:=⟨we (Int.le_of_lt h.n0) h.n1,we h.x0 h.x1,we h.y0 h.y1⟩
theorem tl_b {b c:Nat} {r p:T3} (hr:R3 c r) (hp:R3 b p):(tl r p).natAbs < 2 ^ (c+b+2):=by
 have a1:=lC hr.a hp.b;have a2:=lC hr.b hp.c;have a3:=lC hr.c hp.a;have e1:2 ^ (c+b+2)=4*2 ^ (c+b):=by rw [Nat.pow_add];omega
 unfold tl;rw [e1];omega
def kU (r:T3) (h:List T3):Prop:=(∀ p∈h,0<=tl r p)\/∀ p∈h,tl r p<=0
theorem R3.mono {b c:Nat} {p:T3} (h:R3 b p) (z:b<=c):R3 c p:=by
 have e:=Nat.pow_le_pow_right (n:=2) (by decide) z;exact ⟨Nat.lt_of_lt_of_le h.a e,Nat.lt_of_lt_of_le h.b e,Nat.lt_of_lt_of_le h.c e⟩
end Hu
namespace Hu
theorem Cm (r:T3) (h:List T3) (i:Nat):stp h (tn r h) i=(if 0<=tv r h i then [cor h i] else [])++(if tv r h i*tv r h (i+1) < 0 then [mid (cor h i) (cor h (i+1)) (tv r h i) (tv r h (i+1))] else []):=by
 unfold stp tn tv;rw [zP,Int.neg_mul_neg];congr 1
 by_cases c:0<=tl r (cor h i)
 ·rw [if_pos c,if_pos (by omega)]
 ·rw [if_neg c,if_neg (by omega)]
theorem tv_mod (r:T3) (h:List T3) (i:Nat):tv r h (i % h.length)=tv r h i:=by unfold tv cor;rw [Nat.mod_mod]
theorem uA (h:List T3) (i:Nat):cor h (i % h.length)=cor h i:=by unfold cor;rw [Nat.mod_mod]
theorem mE {h:List T3} {i:Nat} (hi:i < h.length):h[i]?=some (cor h i):=by rw [List.getElem?_eq_getElem hi,eF hi]
theorem EA (i n:Nat):((i:Int)+1).fmod (n:Int)=(((i+1) % n:Nat):Int):=by
 rw [Int.fmod_eq_emod_of_nonneg _ (by omega),Int.natCast_emod,Int.natCast_add];rfl
end Hu
namespace Hu
def sqH:List T3:=[⟨1,0,0⟩,⟨1,1,0⟩,⟨1,1,1⟩,⟨1,0,1⟩]
theorem sq_tri:Tri sqH:=by
 intro p q r h;simp only [sqH,List.sublist_cons_iff,List.sublist_nil,List.cons.injEq,reduceCtorEq,false_or,or_false] at h;simp only [List.nil_eq,exists_eq_right_right',and_assoc] at h;grind [det]
theorem sq_hull:xi 1 4 sqH:=⟨sq_tri,λp hp=>by
 simp only [sqH,List.mem_cons,List.not_mem_nil,or_false] at hp;rcases hp with rfl | rfl | rfl | rfl <;> exact ⟨by decide,by decide,by decide,by decide,by decide,by decide⟩,by decide,by decide⟩
theorem xi.mono {b b' l l':Nat} {h:List T3} (H:xi b l h) (h1:b<=b') (h2:l<=l'):xi b' l' h:=⟨H.tri,λp hp=>(H.ok p hp).mono h1,H.pos,Nat.le_trans H.few h2⟩
end Hu
namespace Hu
def cx (p q:T3):Rat:=((p.v:Rat)*q.w - (q.v:Rat)*p.w) / ((p.u:Rat)*q.u)
theorem cx_self (p:T3):cx p p=0:=by unfold cx;grind
theorem qQ (p q:T3):cx q p = - cx p q:=by unfold cx;grind
theorem nI {n:Int} (h:0 < n):(n:Rat)≠0:=by
 intro z;have:n=0:=by exact_mod_cast z
 omega
theorem det_rat (p q r:T3):((det p q r:Int):Rat)=(p.u:Rat)*(q.v*r.w - q.w*r.v) - p.v*(q.u*r.w - q.w*r.u)+p.w*(q.u*r.v - q.v*r.u):=by
 unfold det;simp only [Rat.intCast_add,Rat.intCast_sub,Rat.intCast_mul]
theorem wK {p q r:T3} (hp:0 < p.u) (hq:0 < q.u) (hr:0 < r.u):cx p q+cx q r+cx r p=((det p q r:Int):Rat) / ((p.u:Rat)*q.u*r.u):=by
 rw [det_rat];have h1:=nI hp;have h2:=nI hq;have h3:=nI hr;unfold cx;grind
theorem uz {p q r:T3} (hp:0 < p.u) (hq:0 < q.u) (hr:0 < r.u) (h:det p q r=0):cx p q+cx q r=cx p r:=by
 have e:=wK hp hq hr;rw [h,qQ p r] at e;have z:((0:Int):Rat) / ((p.u:Rat)*q.u*r.u)=0:=by grind
 rw [z] at e;grind
theorem qP {m p q r:T3} (hm:m.u≠0\/m.v≠0\/m.w≠0) (h1:tl m p=0) (h2:tl m q=0) (h3:tl m r=0):det p q r=0:=by
 unfold tl at h1 h2 h3;have a:m.u*det p q r=0:=by unfold det;grind
 have b:m.v*det p q r=0:=by unfold det;grind
 have c:m.w*det p q r=0:=by unfold det;grind
 rcases hm with z | z | z
 ·exact (Int.mul_eq_zero.mp a).resolve_left z
 ·exact (Int.mul_eq_zero.mp b).resolve_left z
 ·exact (Int.mul_eq_zero.mp c).resolve_left z
def sm:List T3->Rat
 | []=>0
 | [_]=>0
 | a::b::r=>cx a b+sm (b::r)
theorem eT:∀(L:List T3) (a b:T3),sm (L++[a,b])=sm (L++[a])+cx a b
 | [],a,b=>by simp only [sm,List.nil_append];grind
 | [x],a,b=>by simp only [sm,List.cons_append,List.nil_append];grind
 | x::y::r,a,b=>by
  have:=eT (y::r) a b;simp only [sm,List.cons_append] at *;rw [this];grind
def lH (L:List T3):Rat:=match L with
 | []=>0
 | a::r=>sm (a::r++[a])
def su (f:Nat->Rat):Nat->Rat
 | 0=>0
 | k+1=>su f k+f k
theorem xE (f g:Nat->Rat):∀ k,su (λi=>f i+g i) k=su f k+su g k
 | 0=>by simp only [su];grind
 | k+1=>by simp only [su];rw [xE f g k];grind
theorem yX (f:Nat->Rat):∀ k,su (λi=>f i - f (i+1)) k=f 0 - f k
 | 0=>by simp only [su];grind
 | k+1=>by simp only [su];rw [yX f k];grind
theorem uU {f g:Nat->Rat}:∀{k},(∀ i,i < k->f i=g i)->su f k=su g k
 | 0,_=>rfl
 | k+1,h=>by simp only [su];rw [uU λi hi=>h i (by omega),h k (by omega)]
section
variable {h:List T3} {t:Nat->Int} {m X:T3}
def md (h:List T3) (t:Nat->Int) (i:Nat):T3:=mid (cor h i) (cor h (i+1)) (t i) (t (i+1))
def gL (h:List T3) (t:Nat->Int) (X:T3) (i:Nat):Rat:=
 if t i<=0 then (if t (i+1)<=0 then cx (cor h i) (cor h (i+1)) else if t i < 0 then cx (cor h i) (md h t i)+cx (md h t i) X else cx (cor h i) X)
 else (if t (i+1) < 0 then cx X (md h t i)+cx (md h t i) (cor h (i+1)) else if t (i+1)=0 then cx X (cor h (i+1)) else 0)
structure Wk (h:List T3) (t:Nat->Int) (m X:T3):Prop where
 m0:m.u≠0\/m.v≠0\/m.w≠0
 xu:0 < X.u
 xl:tl m X=0
 cu:∀ i,0 < (cor h i).u
 cz:∀ i,t i=0->tl m (cor h i)=0
 mu:∀ i,t i*t (i+1) < 0->0 < (md h t i).u
 ml:∀ i,t i*t (i+1) < 0->tl m (md h t i)=0
def stt (t:Nat->Int) (X:T3):List T3:=if t 0<=0 then [] else [X]
def pp (h:List T3) (t:Nat->Int) (X:T3) (k:Nat):T3:=if t k<=0 then cor h k else X
def On (m:T3) (e:T3):Prop:=tl m e=0/\0 < e.u
theorem Wk.three (W:Wk h t m X) {a b:T3} (ha:On m a) (hb:On m b):cx a X+cx X b=cx a b:=uz ha.2 W.xu hb.2 (qP W.m0 ha.1 W.xl hb.1)
theorem mW {i:Nat} (h1:t i<=0) (h2:¬t i*t (i+1) < 0):stp h t i=[cor h i]:=by unfold stp;rw [if_pos h1,if_neg h2];rfl
theorem pq {i:Nat} (h1:t i<=0) (h2:t i*t (i+1) < 0):stp h t i=[cor h i,md h t i]:=by unfold stp md;rw [if_pos h1,if_pos h2];rfl
theorem iN {i:Nat} (h1:¬t i<=0) (h2:t i*t (i+1) < 0):stp h t i=[md h t i]:=by unfold stp md;rw [if_neg h1,if_pos h2];rfl
theorem lR {i:Nat} (h1:¬t i<=0) (h2:¬t i*t (i+1) < 0):stp h t i=[]:=by unfold stp;rw [if_neg h1,if_neg h2];rfl
theorem walk (W:Wk h t m X):∀ k,su (gL h t X) k=sm (stt t X++fl (stp h t) k++[pp h t X k])/\(¬t k<=0->∃ L e,stt t X++fl (stp h t) k=L++[e]/\On m e)
 | 0=>by
  refine ⟨?_,λz=>⟨[],X,?_,W.xl,W.xu⟩⟩
  ·show 0=sm (stt t X++[]++[pp h t X 0]);unfold stt pp;split
   ·rfl
   ·simp only [sm,List.append_nil,List.cons_append,List.nil_append];rw [cx_self];grind
  ·unfold stt;rw [if_neg z];rfl
 | k+1=>by
  obtain ⟨e,o⟩:=walk W k;show su (gL h t X) k+gL h t X k=_/\_;rw [e,bo]
  by_cases a:t k<=0
  ·have pk:pp h t X k=cor h k:=by unfold pp;rw [if_pos a]
   rw [pk]
   by_cases b:t (k+1)<=0
   ·have n:¬t k*t (k+1) < 0:=by
     have:=Int.mul_nonneg_of_nonpos_of_nonpos a b;omega
    have pk1:pp h t X (k+1)=cor h (k+1):=by unfold pp;rw [if_pos b]
    rw [mW a n,pk1,show gL h t X k=cx (cor h k) (cor h (k+1)) by unfold gL;rw [if_pos a,if_pos b]];refine ⟨?_,λz=>absurd b z⟩;have:=eT (stt t X++fl (stp h t) k) (cor h k) (cor h (k+1));rw [<- this];simp only [List.append_assoc,List.cons_append,List.nil_append]
   ·have pk1:pp h t X (k+1)=X:=by unfold pp;rw [if_neg b]
    by_cases c:t k < 0
    ·have n:t k*t (k+1) < 0:=Int.mul_neg_of_neg_of_pos c (by omega);rw [pq a n,pk1,show gL h t X k=cx (cor h k) (md h t k)+cx (md h t k) X by unfold gL;rw [if_pos a,if_neg b,if_pos c]];refine ⟨?_,λ_=>⟨stt t X++fl (stp h t) k++[cor h k],md h t k,by simp only [List.append_assoc,List.cons_append,List.nil_append],W.ml k n,W.mu k n⟩⟩;have s1:=eT (stt t X++fl (stp h t) k) (cor h k) (md h t k);have s2:=eT (stt t X++fl (stp h t) k++[cor h k]) (md h t k) X;simp only [List.append_assoc,List.cons_append,List.nil_append] at s1 s2 ⊢;rw [s2,s1];grind
    ·have z:t k=0:=by omega
     have n:¬t k*t (k+1) < 0:=by rw [z];omega
     rw [mW a n,pk1,show gL h t X k=cx (cor h k) X by unfold gL;rw [if_pos a,if_neg b,if_neg c]];refine ⟨?_,λ_=>⟨stt t X++fl (stp h t) k,cor h k,by simp only [List.append_assoc],W.cz k z,W.cu k⟩⟩;have:=eT (stt t X++fl (stp h t) k) (cor h k) X;rw [<- this];simp only [List.append_assoc,List.cons_append,List.nil_append]
  ·obtain ⟨L,e1,eL,oe⟩:=o a;have pk:pp h t X k=X:=by unfold pp;rw [if_neg a]
   rw [pk,eL];have s0:=eT L e1 X
   by_cases b:t (k+1) < 0
   ·have n:t k*t (k+1) < 0:=Int.mul_neg_of_pos_of_neg (by omega) b;have pk1:pp h t X (k+1)=cor h (k+1):=by unfold pp;rw [if_pos (by omega)]
    rw [iN a n,pk1,show gL h t X k=cx X (md h t k)+cx (md h t k) (cor h (k+1)) by unfold gL;rw [if_neg a,if_pos b],<- List.append_assoc,eL];refine ⟨?_,λz=>absurd (show t (k+1)<=0 by omega) z⟩;have s1:=eT L e1 (md h t k);have s2:=eT (L++[e1]) (md h t k) (cor h (k+1));have l3:=W.three oe ⟨W.ml k n,W.mu k n⟩;simp only [List.append_assoc,List.cons_append,List.nil_append] at s0 s1 s2 ⊢;rw [s2,s1,s0];grind
   ·have n:¬t k*t (k+1) < 0:=by
     have:=Int.mul_nonneg (show 0<=t k by omega) (show 0<=t (k+1) by omega);omega
    rw [lR a n,List.append_nil,eL]
    by_cases c:t (k+1)=0
    ·have pk1:pp h t X (k+1)=cor h (k+1):=by unfold pp;rw [if_pos (by omega)]
     rw [pk1,show gL h t X k=cx X (cor h (k+1)) by unfold gL;rw [if_neg a,if_neg b,if_pos c]];refine ⟨?_,λz=>absurd (show t (k+1)<=0 by omega) z⟩;have s1:=eT L e1 (cor h (k+1));have l3:=W.three oe ⟨W.cz (k+1) c,W.cu (k+1)⟩;simp only [List.append_assoc,List.cons_append,List.nil_append] at s0 s1 ⊢;rw [s1,s0];grind
    ·have pk1:pp h t X (k+1)=X:=by unfold pp;rw [if_neg (by omega)]
     rw [pk1,show gL h t X k=0 by unfold gL;rw [if_neg a,if_neg b,if_neg c]];refine ⟨by grind,λ_=>⟨L,e1,rfl,oe⟩⟩
end
section
variable {h:List T3} {t:Nat->Int} {m X:T3}
theorem fl_cons {f:Nat->List T3} (k:Nat):fl f (k+1)=[]->fl f k=[]/\f k=[]:=λz=>by rw [bo] at z;exact List.append_eq_nil_iff.mp z
theorem zN (a:¬t 0<=0):∀ k,fl (stp h t) k=[]->0<=t k
 | 0,_=>by omega
 | k+1,z=>by
  obtain ⟨z1,z2⟩:=fl_cons k z;have tk:=zN a k z1
  by_cases b:t k<=0
  ·unfold stp at z2;rw [if_pos b] at z2;exact absurd z2 (by simp)
  ·by_cases c:t k*t (k+1) < 0
   ·rw [iN b c] at z2;exact absurd z2 (by simp)
   ·rcases Int.lt_or_le (t (k+1)) 0 with y | y
    ·exact absurd (Int.mul_neg_of_pos_of_neg (show 0 < t k by omega) y) c
    ·exact y
theorem qM (W:Wk h t m X) (a:¬t 0<=0):∀ k x r,fl (stp h t) k=x::r->On m x
 | 0,x,r,z=>by cases z
 | k+1,x,r,z=>by
  rw [bo] at z;cases e:fl (stp h t) k with
  | cons y r' =>
   rw [e] at z;simp only [List.cons_append,List.cons.injEq] at z;rw [<- z.1];exact qM W a k y r' e
  | nil =>
   rw [e,List.nil_append] at z;have tk:=zN (h:=h) a k e
   by_cases b:t k<=0
   ·have t0:t k=0:=by omega
    rw [mW b (by rw [t0];omega)] at z;simp only [List.cons.injEq] at z;rw [<- z.1];exact ⟨W.cz k t0,W.cu k⟩
   ·by_cases c:t k*t (k+1) < 0
    ·rw [iN b c] at z;simp only [List.cons.injEq] at z;rw [<- z.1];exact ⟨W.ml k c,W.mu k c⟩
    ·rw [lR b c] at z;cases z
theorem sT (W:Wk h t m X) (n0:0 < h.length) (tn:t h.length=t 0) (ne:fl (stp h t) h.length≠[]):su (gL h t X) h.length=lH (fl (stp h t) h.length):=by
 obtain ⟨e,o⟩:=walk W h.length;rw [e]
 by_cases a:t 0<=0
 ·have p0:pp h t X h.length=cor h 0:=by unfold pp;rw [tn,if_pos a,dH]
  have s0:stt t X=[]:=by unfold stt;rw [if_pos a]
  rw [p0,s0,List.nil_append]
  have hd:∃ r,fl (stp h t) h.length=cor h 0::r:=by
   obtain ⟨n,en⟩:∃ n,h.length=n+1:=⟨h.length - 1,by omega⟩;rw [en];clear en e o p0 ne n0 tn
   induction n with
   | zero =>
    rw [bo,uw,List.nil_append];unfold stp;rw [if_pos a];exact ⟨_,rfl⟩
   | succ n ih =>
    obtain ⟨r,er⟩:=ih;rw [bo,er];exact ⟨_,rfl⟩
  obtain ⟨r,er⟩:=hd;rw [er];rfl
 ·have p0:pp h t X h.length=X:=by unfold pp;rw [tn,if_neg a]
  have s0:stt t X=[X]:=by unfold stt;rw [if_neg a]
  obtain ⟨L,e1,eL,oe⟩:=o (by rw [tn];exact a);rw [p0];cases ef:fl (stp h t) h.length with
  | nil=>exact absurd ef ne
  | cons x r =>
   have ox:=qM W a _ x r ef;rw [s0,ef] at eL;rw [s0];have l3:=W.three oe ox;cases L with
   | nil=>simp at eL
   | cons y L1 =>
    simp only [List.cons_append,List.nil_append,List.cons.injEq] at eL;obtain ⟨ey,eL⟩:=eL;show sm (X::(x::r++[X]))=sm (x::r++[x]);rw [eL];have g1:=eT L1 e1 X;have g2:=eT L1 e1 x
    have g3:sm (X::(L1++[e1]++[X]))=cx X x+sm (L1++[e1]++[X]):=by
     have:L1++[e1]++[X]=x::(r++[X]):=by rw [<- eL];rfl
     rw [this];rfl
    rw [g3];simp only [List.append_assoc,List.cons_append,List.nil_append] at g1 g2 ⊢;rw [g1,g2];grind
theorem uS:∀ k,su (λi=>cx (cor h i) (cor h (i+1))) k=sm ((List.range k).map (cor h)++[cor h k])
 | 0=>rfl
 | k+1=>by
  show su _ k+cx (cor h k) (cor h (k+1))=_;rw [uS k,List.range_succ,List.map_append,<- eT];simp only [List.map_cons,List.map_nil,List.append_assoc,List.cons_append,List.nil_append]
theorem cor_all:(List.range h.length).map (cor h)=h:=by
 apply List.ext_getElem
 ·simp
 ·intro i h1 h2;simp only [List.getElem_map,List.getElem_range];exact eF h2
theorem Fb (n0:0 < h.length):su (λi=>cx (cor h i) (cor h (i+1))) h.length=lH h:=by
 rw [uS,cor_all,dH];cases h with
 | nil=>exact absurd n0 (by decide)
 | cons a r=>rfl
theorem cx_mid {b:Nat} {p q:T3} {s u:Int} (hp:P3 b p) (hq:P3 b q) (hs:s*u < 0):cx p (mid p q s u)+cx (mid p q s u) q=cx p q:=by
 obtain ⟨g,x,y,g0,_,_,e1,e2,e3⟩:=(qA hp hq hs).ex
 have d:det p (mid p q s u) q=0:=by
  have z:g*det p (mid p q s u) q=0:=by unfold det;grind
  exact (Int.mul_eq_zero.mp z).resolve_left (by omega)
 have mu:0 < (mid p q s u).u:=by
  have n0:=ju hp hq hs;have gg0:=lF (V:=nm p.v q.v s u) (W:=nm p.w q.w s u) n0;have e:=div_eq (wD (nm p.u q.u s u) (nm p.v q.v s u) (nm p.w q.w s u));rcases Int.lt_or_le 0 (mid p q s u).u with z | z
  ·exact z
  ·have:=Int.mul_nonpos_of_nonneg_of_nonpos (show 0<=gg (nm p.u q.u s u) (nm p.v q.v s u) (nm p.w q.w s u) by omega) z;have e':gg (nm p.u q.u s u) (nm p.v q.v s u) (nm p.w q.w s u)*(mid p q s u).u=nm p.u q.u s u:=e;omega
 exact uz hp.n0 mu hq.n0 d
end
section
variable {h:List T3} {r X:T3} {b:Nat}
theorem yf (i:Nat):md h (tn r h) i=md h (tv r h) i:=by
 unfold md tn;exact zP _ _ _ _
theorem ug {p q:T3} (hp:P3 b p) (hq:P3 b q) (hs:tl r p*tl r q < 0):tl r (mid p q (tl r p) (tl r q))=0/\0 < (mid p q (tl r p) (tl r q)).u:=by
 have n0:=ju hp hq hs;have g0:=lF (V:=nm p.v q.v (tl r p) (tl r q)) (W:=nm p.w q.w (tl r p) (tl r q)) n0;have d1:gg (nm p.u q.u (tl r p) (tl r q)) (nm p.v q.v (tl r p) (tl r q)) (nm p.w q.w (tl r p) (tl r q))*(mid p q (tl r p) (tl r q)).u=nm p.u q.u (tl r p) (tl r q):=div_eq (wD _ _ _);have d2:gg (nm p.u q.u (tl r p) (tl r q)) (nm p.v q.v (tl r p) (tl r q)) (nm p.w q.w (tl r p) (tl r q))*(mid p q (tl r p) (tl r q)).v=nm p.v q.v (tl r p) (tl r q):=div_eq (Es _ _ _);have d3:gg (nm p.u q.u (tl r p) (tl r q)) (nm p.v q.v (tl r p) (tl r q)) (nm p.w q.w (tl r p) (tl r q))*(mid p q (tl r p) (tl r q)).w=nm p.w q.w (tl r p) (tl r q):=div_eq (Er _ _ _);generalize gg (nm p.u q.u (tl r p) (tl r q)) (nm p.v q.v (tl r p) (tl r q)) (nm p.w q.w (tl r p) (tl r q))=g at g0 d1 d2 d3;generalize mid p q (tl r p) (tl r q)=k at d1 d2 d3 ⊢;refine ⟨?_,?_⟩
 ·have z:g*tl r k=((tl r q).natAbs:Int)*tl r p+((tl r p).natAbs:Int)*tl r q:=by
   have e:g*tl r k=r.u*(g*k.v)+r.v*(g*k.w)+r.w*(g*k.u):=by simp only [tl];grind
   rw [e,d1,d2,d3];simp only [nm,tl];grind
  have y:((tl r q).natAbs:Int)*tl r p+((tl r p).natAbs:Int)*tl r q=0:=by
   generalize tl r p=a at hs ⊢;generalize tl r q=c at hs ⊢;rcases Int.lt_trichotomy a 0 with x | x | x
   ·rcases Int.lt_trichotomy c 0 with w | w | w
    ·have:=Int.mul_pos_of_neg_of_neg x w;omega
    ·rw [w] at hs;omega
    ·rw [show (c.natAbs:Int)=c by omega,show (a.natAbs:Int) = -a by omega];grind
   ·rw [x] at hs;omega
   ·rcases Int.lt_trichotomy c 0 with w | w | w
    ·rw [show (c.natAbs:Int) = -c by omega,show (a.natAbs:Int)=a by omega];grind
    ·rw [w] at hs;omega
    ·have:=Int.mul_pos x w;omega
  rw [y] at z;exact (Int.mul_eq_zero.mp z).resolve_left (by omega)
 ·rcases Int.lt_or_le 0 k.u with z | z
  ·exact z
  ·have:=Int.mul_nonpos_of_nonneg_of_nonpos (show 0<=g by omega) z;omega
theorem g_sum (ok:∀ i,P3 b (cor h i)) (hr:r.u≠0\/r.v≠0\/r.w≠0) (xu:0 < X.u) (xl:tl r X=0) (i:Nat) :
  gL h (tv r h) X i+gL h (tn r h) X i=cx (cor h i) (cor h (i+1))+((if tv r h i=0 then cx (cor h i) X else 0) - (if tv r h (i+1)=0 then cx (cor h (i+1)) X else 0)):=by
 have em:=yf (h:=h) (r:=r) i;have mm:∀(_:tv r h i*tv r h (i+1) < 0),cx (cor h i) (md h (tv r h) i)+cx (md h (tv r h) i) (cor h (i+1))=cx (cor h i) (cor h (i+1)):=λz=>cx_mid (ok i) (ok (i+1)) z;have nn:=qQ X (cor h (i+1));have nm':=qQ X (md h (tv r h) i);have t1:tn r h i = - tv r h i:=rfl;have t2:tn r h (i+1) = - tv r h (i+1):=rfl;have zz:tv r h i=0->tv r h (i+1)=0->cx (cor h i) X+cx X (cor h (i+1))=cx (cor h i) (cor h (i+1)):=λz1 z2=>uz (ok i).n0 xu (ok (i+1)).n0 (qP hr z1 xl z2);unfold gL;rw [em,t1,t2];generalize tv r h i=a at *;generalize tv r h (i+1)=c at *;rcases Int.lt_trichotomy a 0 with x | x | x
 ·rcases Int.lt_trichotomy c 0 with w | w | w
  ·rw [if_pos (show a<=0 by omega),if_pos (show c<=0 by omega),if_neg (show ¬ -a<=0 by omega),if_neg (show ¬ -c < 0 by omega),if_neg (show ¬ -c=0 by omega),if_neg (show ¬a=0 by omega),if_neg (show ¬c=0 by omega)];grind
  ·rw [if_pos (show a<=0 by omega),if_pos (show c<=0 by omega),if_neg (show ¬ -a<=0 by omega),if_neg (show ¬ -c < 0 by omega),if_pos (show -c=0 by omega),if_neg (show ¬a=0 by omega),if_pos w];grind
  ·have k:=mm (Int.mul_neg_of_neg_of_pos x w);rw [if_pos (show a<=0 by omega),if_neg (show ¬c<=0 by omega),if_pos x,if_neg (show ¬ -a<=0 by omega),if_pos (show -c < 0 by omega),if_neg (show ¬a=0 by omega),if_neg (show ¬c=0 by omega)];grind
 ·rcases Int.lt_trichotomy c 0 with w | w | w
  ·rw [if_pos (show a<=0 by omega),if_pos (show c<=0 by omega),if_pos (show -a<=0 by omega),if_neg (show ¬ -c<=0 by omega),if_neg (show ¬ -a < 0 by omega),if_pos x,if_neg (show ¬c=0 by omega)];grind
  ·have k:=zz x w;rw [if_pos (show a<=0 by omega),if_pos (show c<=0 by omega),if_pos (show -a<=0 by omega),if_pos (show -c<=0 by omega),if_pos x,if_pos w];grind
  ·rw [if_pos (show a<=0 by omega),if_neg (show ¬c<=0 by omega),if_neg (show ¬a < 0 by omega),if_pos (show -a<=0 by omega),if_pos (show -c<=0 by omega),if_pos x,if_neg (show ¬c=0 by omega)];grind
 ·rcases Int.lt_trichotomy c 0 with w | w | w
  ·have k:=mm (Int.mul_neg_of_pos_of_neg x w);rw [if_neg (show ¬a<=0 by omega),if_pos w,if_pos (show -a<=0 by omega),if_neg (show ¬ -c<=0 by omega),if_pos (show -a < 0 by omega),if_neg (show ¬a=0 by omega),if_neg (show ¬c=0 by omega)];grind
  ·rw [if_neg (show ¬a<=0 by omega),if_neg (show ¬c < 0 by omega),if_pos w,if_pos (show -a<=0 by omega),if_pos (show -c<=0 by omega),if_neg (show ¬a=0 by omega),if_pos w];grind
  ·rw [if_neg (show ¬a<=0 by omega),if_neg (show ¬c < 0 by omega),if_neg (show ¬c=0 by omega),if_pos (show -a<=0 by omega),if_pos (show -c<=0 by omega),if_neg (show ¬a=0 by omega)];grind
theorem BW (ok:∀ i,P3 b (cor h i)) (hr:r.u≠0\/r.v≠0\/r.w≠0) (xu:0 < X.u) (xl:tl r X=0):Wk h (tv r h) r X/\Wk h (tn r h) r X:=by
 have neg:∀ i,tn r h i*tn r h (i+1)=tv r h i*tv r h (i+1):=λi=>by show -tv r h i*-tv r h (i+1)=_;grind
 refine ⟨⟨hr,xu,xl,λi=>(ok i).n0,λi z=>z,λi z=>(ug (ok i) (ok (i+1)) z).2,λi z=>(ug (ok i) (ok (i+1)) z).1⟩,
  ⟨hr,xu,xl,λi=>(ok i).n0,λi z=>by have z':- tl r (cor h i)=0:=z;omega,λi z=>?_,λi z=>?_⟩⟩
 ·rw [yf];rw [neg] at z;exact (ug (ok i) (ok (i+1)) z).2
 ·rw [yf];rw [neg] at z;exact (ug (ok i) (ok (i+1)) z).1
theorem BI {l:Nat} (H:xi b l h) {p q:T3} (hp:p∈h) (hq:q∈h) (p0:tl r p < 0) (q0:0 < tl r q):lH (low r h)+lH (high r h)=lH h:=by
 have ok:∀ i,P3 b (cor h i):=λi=>H.ok _ (dY H.pos i)
 have hr:r.u≠0\/r.v≠0\/r.w≠0:=by
  rcases Decidable.em (r.u=0) with z1 | z1
  ·rcases Decidable.em (r.v=0) with z2 | z2
   ·refine .inr (.inr λz3=>?_);unfold tl at p0;rw [z1,z2,z3] at p0;omega
   ·exact .inr (.inl z2)
  ·exact .inl z1
 have xs:∃ X:T3,0 < X.u/\tl r X=0:=by
  refine ⟨⟨tl r q*p.u + -(tl r p)*q.u,tl r q*p.v + -(tl r p)*q.v,tl r q*p.w + -(tl r p)*q.w⟩,?_,?_⟩
  ·show 0 < tl r q*p.u + -(tl r p)*q.u;have:=Int.mul_pos q0 (H.ok p hp).n0;have:=Int.mul_pos (show 0 < -(tl r p) by omega) (H.ok q hq).n0;omega
  ·show r.u*(tl r q*p.v + -(tl r p)*q.v)+r.v*(tl r q*p.w + -(tl r p)*q.w)+r.w*(tl r q*p.u + -(tl r p)*q.u)=0;simp only [tl];grind
 obtain ⟨X,xu,xl⟩:=xs;obtain ⟨W1,W2⟩:=BW ok hr xu xl
 have at_:∀{x:T3},x∈h->∃ i,i < h.length/\cor h i=x:=λhx=>by
  obtain ⟨i,hi,e⟩:=List.mem_iff_getElem.mp hx;exact ⟨i,hi,(eF hi).trans e⟩
 have e1:low r h≠[]:=λz=>by
  obtain ⟨i,hi,e⟩:=at_ hp;have:cor h i∈low r h:=EB hi (by unfold stp;rw [if_pos (show tv r h i<=0 by unfold tv;rw [e];omega)];simp);rw [z] at this;cases this
 have e2:high r h≠[]:=λz=>by
  obtain ⟨i,hi,e⟩:=at_ hq;have:cor h i∈high r h:=EB hi (by unfold stp;rw [if_pos (show tn r h i<=0 by unfold tn;rw [e];omega)];simp);rw [z] at this;cases this
 have tl0:tv r h h.length=tv r h 0:=by unfold tv;rw [dH]
 have th0:tn r h h.length=tn r h 0:=by unfold tn;rw [dH]
 have a1:=sT W1 H.pos tl0 e1;have a2:=sT W2 H.pos th0 e2;have a3:=Fb (h:=h) H.pos;show lH (fl (stp h (tv r h)) h.length)+lH (fl (stp h (tn r h)) h.length)=lH h;rw [<- a1,<- a2,<- a3,<- xE,uU (λi _=>g_sum ok hr xu xl i),xE,yX (λi=>if tv r h i=0 then cx (cor h i) X else 0)];rw [tl0,dH];grind
end
end Hu
namespace Hu
def oQ (L:List T3):Prop:=∀ p q r,[p,q,r].Sublist L->0 < det p q r
theorem oQ.tri {L:List T3} (T:oQ L):Tri L:=λp q r s=>Int.le_of_lt (T p q r s)
structure Cs (p q X:T3) (b0:Bool):Prop where
 ex:∃ g a b:Int,0 < g/\0 < a/\0<=b/\(b0=true->0 < b)/\g*X.u=a*p.u+b*q.u/\g*X.v=a*p.v+b*q.v/\g*X.w=a*p.w+b*q.w
theorem Cs.co {p q X:T3} {b0:Bool} (h:Cs p q X b0):Co p q X:=by
 obtain ⟨g,a,b,h1,h2,h3,_,e⟩:=h.ex;exact ⟨g,a,b,h1,by omega,h3,e⟩
theorem zI {g x:Int} (hg:0 < g) (h:0 < g*x):0 < x:=by
 rcases Int.lt_or_le 0 x with z | z
 ·exact z
 ·have:=Int.mul_nonpos_of_nonneg_of_nonpos (show 0<=g by omega) z;omega
theorem cs_1 {p q X Y Z:T3} {b0:Bool} (h:Cs p q X b0) (h1:0 < det p Y Z) (h2:0<=det q Y Z):0 < det X Y Z:=by
 obtain ⟨g,a,b,hg,ha,hb,_,e1,e2,e3⟩:=h.ex;refine zI hg ?_;have e:g*det X Y Z=a*det p Y Z+b*det q Y Z:=by simp only [det];grind
 rw [e];have:=Int.mul_pos ha h1;have:=Int.mul_nonneg hb h2;omega
theorem cs_1' {p q X Y Z:T3} (h:Cs p q X true) (h1:0<=det p Y Z) (h2:0 < det q Y Z):0 < det X Y Z:=by
 obtain ⟨g,a,b,hg,ha,hb,hb',e1,e2,e3⟩:=h.ex;refine zI hg ?_;have e:g*det X Y Z=a*det p Y Z+b*det q Y Z:=by simp only [det];grind
 rw [e];have:=Int.mul_nonneg (show 0<=a by omega) h1;have:=Int.mul_pos (hb' rfl) h2;omega
theorem cs_2 {p q X Y Z:T3} {b0:Bool} (h:Cs p q Y b0) (h1:0 < det X p Z) (h2:0<=det X q Z):0 < det X Y Z:=by
 rw [bK,bK];rw [bK,bK] at h1 h2;exact cs_1 h h1 h2
theorem cs_2' {p q X Y Z:T3} (h:Cs p q Y true) (h1:0<=det X p Z) (h2:0 < det X q Z):0 < det X Y Z:=by
 rw [bK,bK];rw [bK,bK] at h1 h2;exact cs_1' h h1 h2
theorem cs_3 {p q X Y Z:T3} {b0:Bool} (h:Cs p q Z b0) (h1:0 < det X Y p) (h2:0<=det X Y q):0 < det X Y Z:=by
 rw [bK];rw [bK] at h1 h2;exact cs_1 h h1 h2
theorem cs_3' {p q X Y Z:T3} (h:Cs p q Z true) (h1:0<=det X Y p) (h2:0 < det X Y q):0 < det X Y Z:=by
 rw [bK];rw [bK] at h1 h2;exact cs_1' h h1 h2
theorem cs_own (p q:T3):Cs p q p false:=⟨1,1,0,by decide,by decide,by decide,(λz=>nomatch z),by omega,by omega,by omega⟩
theorem ff {h:List T3} (T:oQ h) {i j k:Nat} (h1:i < j) (h2:j < k) (h3:k < h.length):0 < det (cor h i) (cor h j) (cor h k):=by
 rw [eF (show i < h.length by omega),eF (show j < h.length by omega),eF h3];exact T _ _ _ (mV h1 h2 h3)
section
variable {b l:Nat} {h:List T3} {t:Nat->Int}
theorem sY (ok:∀ i,P3 b (cor h i)) {i:Nat} {x:T3} (hx:x∈stp h t i):(t i<=0/\x=cor h i)\/(t i*t (i+1) < 0/\x=md h t i/\Cs (cor h i) (cor h (i+1)) x true):=by
 unfold stp at hx;rcases List.mem_append.mp hx with z | z
 ·split at z
  ·rename_i c;exact .inl ⟨c,List.mem_singleton.mp z⟩
  ·cases z
 ·split at z
  ·rename_i c;have e:=List.mem_singleton.mp z;refine .inr ⟨c,e,?_⟩;have n0:=ju (ok i) (ok (i+1)) c;have g0:=lF (V:=nm (cor h i).v (cor h (i+1)).v (t i) (t (i+1))) (W:=nm (cor h i).w (cor h (i+1)).w (t i) (t (i+1))) n0;have s0:t i≠0:=λz=>by rw [z] at c;omega
   have t0:t (i+1)≠0:=λz=>by rw [z] at c;omega
   rw [e];exact ⟨_,(t (i+1)).natAbs,(t i).natAbs,g0,by omega,by omega,(λ_=>by omega),div_eq (wD _ _ _),div_eq (Es _ _ _),div_eq (Er _ _ _)⟩
  ·cases z
theorem md_cs (ok:∀ i,P3 b (cor h i)) {i:Nat} (c:t i*t (i+1) < 0):Cs (cor h i) (cor h (i+1)) (md h t i) true:=by
 have n0:=ju (ok i) (ok (i+1)) c;have g0:=lF (V:=nm (cor h i).v (cor h (i+1)).v (t i) (t (i+1))) (W:=nm (cor h i).w (cor h (i+1)).w (t i) (t (i+1))) n0;have s0:t i≠0:=λz=>by rw [z] at c;omega
 have t0:t (i+1)≠0:=λz=>by rw [z] at c;omega
 exact ⟨_,(t (i+1)).natAbs,(t i).natAbs,g0,by omega,by omega,(λ_=>by omega),div_eq (wD _ _ _),div_eq (Es _ _ _),div_eq (Er _ _ _)⟩
theorem lS (ok:∀ i,P3 b (cor h i)) {i:Nat} {x:T3} (hx:x∈stp h t i):∃ b0,Cs (cor h i) (cor h (i+1)) x b0:=by
 rcases sY ok hx with ⟨_,e⟩ | ⟨_,_,c⟩
 ·exact ⟨false,e ▸ cs_own _ _⟩
 ·exact ⟨true,c⟩
theorem yY {i:Nat} {x y:T3} (s:[x,y].Sublist (stp h t i)):x=cor h i/\y=md h t i/\t i<=0/\t i*t (i+1) < 0:=by
 by_cases a:t i<=0
 ·by_cases c:t i*t (i+1) < 0
  ·rw [pq a c] at s;have e:=s.eq_of_length (by simp);simp at e;exact ⟨e.1,e.2,a,c⟩
  ·rw [mW a c] at s;have:=s.length_le;simp at this
 ·by_cases c:t i*t (i+1) < 0
  ·rw [iN a c] at s;have:=s.length_le;simp at this
  ·rw [lR a c] at s;have:=s.length_le;simp at this
theorem qR (ok:∀ i,P3 b (cor h i)) (T:oQ h) (n3:3<=h.length) (tn:t h.length=t 0):oQ (fl (stp h t) h.length):=by
 have R:=T.tri;intro p q r s;rcases rO s with ⟨i,j,k,a,c,d,hp,hq,hr⟩ | ⟨i,k,a,d,hpq,hr⟩ | ⟨i,k,a,d,hp,hqr⟩ | ⟨i,a,d⟩
 ·obtain ⟨b1,h1⟩:=lS ok hp;obtain ⟨b2,h2⟩:=lS ok hq;obtain ⟨b3,h3⟩:=lS ok hr;refine cs_1 h1 (cs_2 h2 (cs_3 h3 (ff T a c d) ?_) (co_3 h3.co ?_ ?_)) (co_2 h2.co (co_3 h3.co ?_ ?_) (co_3 h3.co ?_ ?_)) <;> exact tK R (by omega) (by omega) (by omega)
 ·
  obtain ⟨rfl,rfl,ti,tc⟩:=yY hpq;have cm:=md_cs ok tc
  have ti0:t i < 0:=by
   rcases Int.lt_or_le (t i) 0 with z | z
   ·exact z
   ·have:t i=0:=by omega
    rw [this] at tc;omega
  have ti1:0 < t (i+1):=by
   rcases Int.lt_or_le 0 (t (i+1)) with z | z
   ·exact z
   ·have:=Int.mul_nonneg_of_nonpos_of_nonpos (show t i<=0 by omega) z;omega
  obtain ⟨b3,h3⟩:=lS ok hr;refine cs_2' cm (by rw [yu];exact Int.le_refl 0) ?_;rcases Nat.lt_or_ge (i+1) k with z | z
  ·exact cs_3 h3 (ff T (by omega) z d) (tK R (by omega) (by omega) (by omega))
  ·have ek:k=i+1:=by omega
   subst ek;rcases sY ok hr with ⟨y,_⟩ | ⟨_,_,cr⟩
   ·omega
   ·refine cs_3' cr (by rw [yt];exact Int.le_refl 0) ?_;rcases Nat.lt_or_ge (i+1+1) h.length with y | y
    ·exact ff T (by omega) (by omega) y
    ·rw [show i+1+1=h.length by omega,dH,bK];exact ff T (by omega) (by omega) (by omega)
 ·
  obtain ⟨rfl,rfl,tk,tc⟩:=yY hqr;have cm:=md_cs ok tc
  have tk0:t k < 0:=by
   rcases Int.lt_or_le (t k) 0 with z | z
   ·exact z
   ·have:t k=0:=by omega
    rw [this] at tc;omega
  have tk1:0 < t (k+1):=by
   rcases Int.lt_or_le 0 (t (k+1)) with z | z
   ·exact z
   ·have:=Int.mul_nonneg_of_nonpos_of_nonpos (show t k<=0 by omega) z;omega
  refine cs_3' cm (by rw [yt];exact Int.le_refl 0) ?_;rcases Nat.lt_or_ge (k+1) h.length with z | z
  ·obtain ⟨b1,h1⟩:=lS ok hp;exact cs_1 h1 (ff T a (by omega) z) (tK R (by omega) (by omega) (by omega))
  ·have ek:k+1=h.length:=by omega
   rw [ek,dH];rcases sY ok hp with ⟨y,e⟩ | ⟨_,_,cp⟩
   ·rcases Nat.eq_zero_or_pos i with i0 | i0
    ·subst i0;rw [ek,tn] at tk1;omega
    ·rw [e,bK];exact ff T i0 a (by omega)
   ·rw [bK];rcases Nat.eq_zero_or_pos i with i0 | i0
    ·subst i0;refine cs_2' cp (by rw [yu];exact Int.le_refl 0) ?_;exact ff T (by omega) (by omega) (by omega)
    ·exact cs_2 cp (ff T i0 a (by omega)) (tK R (by omega) (by omega) (by omega))
 ·have l1:3<=(stp h t i).length:=d.length_le;have:(stp h t i).length<=2:=by unfold stp;split <;> split <;> simp
  omega
end
theorem rat_pos {n d:Int} (hn:0 < n) (hd:0 < d):0 < (n:Rat) / (d:Rat):=by
 have h1:(0:Rat) < n:=by exact_mod_cast hn
 have h2:(0:Rat) < d:=by exact_mod_cast hd
 rw [Rat.div_def];exact Rat.mul_pos h1 (Rat.inv_pos.mpr h2)
theorem fan:∀(L:List T3) (a:T3),(∀ p∈a::L,0 < p.u)->oQ (a::L)->(L.length<=1->sm (L++[a])+(match L with | []=>0 | x::_=>cx a x)=0)/\(2<=L.length->0 < sm (L++[a])+(match L with | []=>0 | x::_=>cx a x))
 | [],a,_,_=>⟨λ_=>by simp only [sm,List.nil_append];grind,λz=>absurd z (by simp)⟩
 | [x],a,_,_=>⟨λ_=>by simp only [sm,List.cons_append,List.nil_append];rw [qQ a x];grind,λz=>absurd z (by simp)⟩
 | x::y::r,a,u,T=>by
  refine ⟨λz=>absurd z (by simp),λ_=>?_⟩;have sub:oQ (a::y::r):=λp q s h=>T p q s (h.trans (List.Sublist.cons₂ _ (List.Sublist.cons _ (List.Sublist.refl _))))
  have u2:∀ p∈a::y::r,0 < p.u:=λp hp=>by
   rcases List.mem_cons.mp hp with z | z
   ·exact u p (List.mem_cons.mpr (.inl z))
   ·exact u p (List.mem_cons_of_mem _ (List.mem_cons_of_mem _ z))
  obtain ⟨f1,f2⟩:=fan (y::r) a u2 sub;have ua:=u a (by simp);have ux:=u x (by simp);have uy:=u y (by simp);have d:=T a x y (List.Sublist.cons₂ _ (List.Sublist.cons₂ _ (List.Sublist.cons₂ _ (List.nil_sublist _))));have c3:=wK ua ux uy
  have pos:0 < cx a x+cx x y+cx y a:=by
   rw [c3];have:=rat_pos d (Int.mul_pos (Int.mul_pos ua ux) uy);simp only [Rat.intCast_mul] at this;exact this
  rw [qQ a y] at pos;have e:sm (x::y::r++[a])=cx x y+sm (y::r++[a]):=rfl;show 0 < sm (x::y::r++[a])+cx a x;rw [e];rcases Nat.lt_or_ge r.length 1 with z | z
  ·have:=f1 (by rw [List.length_cons];omega);dsimp only at this;grind
  ·have:=f2 (by rw [List.length_cons];omega);dsimp only at this;grind
theorem wX {L:List T3} (u:∀ p∈L,0 < p.u) (T:oQ L) (n3:3<=L.length):0 < lH L:=by
 match L,n3 with
 | a::x::r,n3 =>
  have:=(fan (x::r) a u T).2 (by simp at n3 ⊢;omega);have e:lH (a::x::r)=cx a x+sm (x::r++[a]):=rfl;rw [e];dsimp only at this;grind
end Hu
namespace Hu
theorem EJ {a k b c:Int} (h1:a∣k*b) (h2:a∣k*c):a∣k*Lo.gc b c:=by
 have h:=Int.dvd_coe_gcd h1 h2;rw [Int.gcd_mul_left] at h;have e:((k.natAbs*Int.gcd b c:Nat):Int)=(k.natAbs:Int)*Lo.gc b c:=by unfold Lo.gc;rw [Int.natCast_mul]
 rw [e] at h;rcases Int.natAbs_eq k with z | z
 ·rw [z];exact h
 ·rw [z,Int.neg_mul];exact Int.dvd_neg.mpr h
theorem Et {g u v w:Int} (hg:0 < g) (h:gg (g*u) (g*v) (g*w)=g):gg u v w=1:=by
 unfold gg at *;rw [Lo.yp] at h;have e:((g.natAbs:Nat):Int)=g:=by omega
 rw [e,Lo.yp,e] at h;exact Int.eq_of_mul_eq_mul_left (show g≠0 by omega) (h.trans (Int.mul_one g).symm)
theorem Ec {b:Nat} {p q:T3} {s t:Int} (hp:P3 b p) (hq:P3 b q) (h:s*t < 0):gg (mid p q s t).u (mid p q s t).v (mid p q s t).w=1:=by
 have n0:=ju hp hq h;have g0:=lF (V:=nm p.v q.v s t) (W:=nm p.w q.w s t) n0;refine Et g0 ?_;have e1:=div_eq (wD (nm p.u q.u s t) (nm p.v q.v s t) (nm p.w q.w s t));have e2:=div_eq (Es (nm p.u q.u s t) (nm p.v q.v s t) (nm p.w q.w s t));have e3:=div_eq (Er (nm p.u q.u s t) (nm p.v q.v s t) (nm p.w q.w s t));show gg (_*(nm p.u q.u s t).fdiv _) (_*(nm p.v q.v s t).fdiv _) (_*(nm p.w q.w s t).fdiv _)=_;rw [e1,e2,e3]
def Nz (m:T3):Prop:=m.u≠0\/m.v≠0\/m.w≠0
theorem on_two {l r m p:T3} (hm:0 < m.u) (pr:gg m.u m.v m.w=1) (h1:tl l m=0) (h2:tl r m=0) (nl:Nz l) (p1:tl l p=0) (p2:tl r p≠0) :
  m.u.natAbs<=(l.u*r.v - l.v*r.u).natAbs/\m.v.natAbs<=(l.v*r.w - l.w*r.v).natAbs/\m.w.natAbs<=(l.w*r.u - l.u*r.w).natAbs:=by
 have e1:(l.u*r.v - l.v*r.u)*m.v=m.u*(l.v*r.w - l.w*r.v):=by simp only [tl] at h1 h2;grind
 have e2:(l.u*r.v - l.v*r.u)*m.w=m.u*(l.w*r.u - l.u*r.w):=by simp only [tl] at h1 h2;grind
 have x0:l.u*r.v - l.v*r.u≠0:=λz=>by
  rw [z,Int.zero_mul] at e1 e2;have z1:l.v*r.w - l.w*r.v=0:=(Int.mul_eq_zero.mp e1.symm).resolve_left (by omega);have z2:l.w*r.u - l.u*r.w=0:=(Int.mul_eq_zero.mp e2.symm).resolve_left (by omega);have a1:l.u*tl r p=0:=by simp only [tl] at p1 ⊢;grind
  have a2:l.v*tl r p=0:=by simp only [tl] at p1 ⊢;grind
  have a3:l.w*tl r p=0:=by simp only [tl] at p1 ⊢;grind
  rcases nl with y | y | y
  ·exact (Int.mul_eq_zero.mp a1).elim y p2
  ·exact (Int.mul_eq_zero.mp a2).elim y p2
  ·exact (Int.mul_eq_zero.mp a3).elim y p2
 have d:m.u∣l.u*r.v - l.v*r.u:=by
  have d1:m.u∣(l.u*r.v - l.v*r.u)*m.u:=Int.dvd_mul_left _ _;have d2:m.u∣(l.u*r.v - l.v*r.u)*m.v:=by rw [e1];exact Int.dvd_mul_right _ _
  have d3:m.u∣(l.u*r.v - l.v*r.u)*m.w:=by rw [e2];exact Int.dvd_mul_right _ _
  have d4:=EJ (EJ d1 d2) d3;have pr':Lo.gc (Lo.gc m.u m.v) m.w=1:=pr;rw [pr',Int.mul_one] at d4;exact d4
 obtain ⟨q,eq⟩:=d;have q0:q≠0:=λz=>by rw [z,Int.mul_zero] at eq;exact x0 eq
 have f1:l.v*r.w - l.w*r.v=q*m.v:=by
  rw [eq,Int.mul_assoc] at e1;exact (Int.eq_of_mul_eq_mul_left (show m.u≠0 by omega) e1).symm
 have f2:l.w*r.u - l.u*r.w=q*m.w:=by
  rw [eq,Int.mul_assoc] at e2;exact (Int.eq_of_mul_eq_mul_left (show m.u≠0 by omega) e2).symm
 have big:∀ x:Int,x.natAbs<=(q*x).natAbs:=λx=>by
  rw [Int.natAbs_mul];exact Nat.le_mul_of_pos_left _ (by omega)
 refine ⟨?_,?_,?_⟩
 ·rw [eq,Int.mul_comm];exact big _
 ·rw [f1];exact big _
 ·rw [f2];exact big _
theorem uf {bb:Nat} {a b c d:Int} (h1:a.natAbs < 2 ^ bb) (h2:b.natAbs < 2 ^ bb) (h3:c.natAbs < 2 ^ bb) (h4:d.natAbs < 2 ^ bb):(a*b - c*d).natAbs < 2 ^ (2*bb+2):=by
 have y1:=lC (m:=bb) (n:=bb) h1 h2;have y2:=lC (m:=bb) (n:=bb) h3 h4;rw [show 2*bb+2=(bb+bb)+2 by omega,Nat.pow_add];generalize 2 ^ (bb+bb)=z at *;omega
def Shr (bb:Nat) (p q:T3):Prop:=∃ m:T3,R3 bb m/\Nz m/\tl m p=0/\tl m q=0
def Nb (bb:Nat):List T3->Prop
 | []=>True
 | [_]=>True
 | a::b::r=>Shr bb a b/\Nb bb (b::r)
theorem uc {bb:Nat}:∀{L:List T3} {a b:T3},Nb bb (L++[a])->Shr bb a b->Nb bb (L++[a,b])
 | [],_,_,_,h=>⟨h,trivial⟩
 | [x],_,_,n,h=>⟨n.1,h,trivial⟩
 | x::y::r,_,_,n,h=>⟨n.1,uc (L:=y::r) n.2 h⟩
theorem nb_at {bb:Nat}:∀{L:List T3} {i:Nat} {a b:T3},Nb bb L->L[i]?=some a->L[i+1]?=some b->Shr bb a b
 | [],_,_,_,_,h,_=>by cases h
 | [_],i,_,_,_,_,h=>by cases i <;> cases h
 | _::_::_,0,_,_,n,h,g=>by cases h;cases g;exact n.1
 | _::y::r,i+1,_,_,n,h,g=>nb_at (L:=y::r) (i:=i) n.2 h g
theorem DC {b:Nat} {p q m:T3} {s t:Int} (hp:P3 b p) (hq:P3 b q) (h:s*t < 0) (h1:tl m p=0) (h2:tl m q=0):tl m (mid p q s t)=0:=by
 obtain ⟨g,x,y,g0,_,_,e1,e2,e3⟩:=(qA hp hq h).ex
 have z:g*tl m (mid p q s t)=0:=by
  have e:g*tl m (mid p q s t)=m.u*(g*(mid p q s t).v)+m.v*(g*(mid p q s t).w)+m.w*(g*(mid p q s t).u):=by simp only [tl];grind
  rw [e,e1,e2,e3];simp only [tl] at h1 h2;grind
 exact (Int.mul_eq_zero.mp z).resolve_left (by omega)
structure HKg (bb:Nat) (h:List T3):Prop where
 tri:oQ h
 n3:3<=h.length
 ok:∀ p∈h,P3 (2*bb+2) p
 pr:∀ p∈h,gg p.u p.v p.w=1
 sh:∀ i,i < h.length->Shr bb (cor h i) (cor h (i+1))
theorem HKg.cok {bb:Nat} {h:List T3} (H:HKg bb h):∀ i,P3 (2*bb+2) (cor h i):=λi=>H.ok _ (dY (by have:=H.n3;omega) i)
section
variable {bb:Nat} {h:List T3} {r X:T3} {t:Nat->Int}
theorem md_ok (H:HKg bb h) (hr:R3 bb r) (et:∀ i,t i=tl r (cor h i)\/t i = - tl r (cor h i)) (W:Wk h t r X) {i:Nat} (hi:i < h.length) (c:t i*t (i+1) < 0):P3 (2*bb+2) (md h t i)/\gg (md h t i).u (md h t i).v (md h t i).w=1:=by
 have ok:=H.cok;have pr:=Ec (ok i) (ok (i+1)) c;refine ⟨?_,pr⟩;obtain ⟨m,m5,mz,m1,m2⟩:=H.sh i hi;have o1:=DC (ok i) (ok (i+1)) c m1 m2;have o2:=W.ml i c;have u0:=W.mu i c
 have tp:tl r (cor h i)≠0:=λz=>by
  have:t i=0:=by rcases et i with e | e <;> rw [e,z] <;> rfl
  rw [this] at c;omega
 obtain ⟨b1,b2,b3⟩:=on_two (m:=md h t i) u0 pr o1 o2 mz m1 tp;have k1:=uf m5.a hr.b m5.b hr.a;have k2:=uf m5.b hr.c m5.c hr.b;have k3:=uf m5.c hr.a m5.a hr.c;obtain ⟨g,x,y,g0,x0,y0,e1,e2,e3⟩:=(qA (ok i) (ok (i+1)) c).ex
 have v0:0<=(md h t i).v:=tP g0 (by
  have e:g*(md h t i).v=x*(cor h i).v+y*(cor h (i+1)).v:=e2;rw [e];have:=Int.mul_nonneg x0 (ok i).x0;have:=Int.mul_nonneg y0 (ok (i+1)).x0;omega)
 have w0:0<=(md h t i).w:=tP g0 (by
  have e:g*(md h t i).w=x*(cor h i).w+y*(cor h (i+1)).w:=e3;rw [e];have:=Int.mul_nonneg x0 (ok i).y0;have:=Int.mul_nonneg y0 (ok (i+1)).y0;omega)
 have ep:((2 ^ (2*bb+2):Nat):Int)=(2:Int) ^ (2*bb+2):=by push_cast;rfl
 exact ⟨u0,v0,w0,by omega,by omega,by omega⟩
theorem zO (H:HKg bb h) (hr:R3 bb r) (W:Wk h t r X):∀ k,k<=h.length->Nb bb (fl (stp h t) k)/\∀ L e,fl (stp h t) k=L++[e]->(t k<=0->Shr bb e (cor h k))/\(¬t k<=0->tl r e=0)
 | 0,_=>⟨trivial,λL e z=>by rw [uw] at z;exact absurd z (by simp)⟩
 | k+1,hk=>by
  obtain ⟨n,o⟩:=zO H hr W k (by omega);have ok:=H.cok;have on_r:∀{a b:T3},tl r a=0->tl r b=0->Shr bb a b:=λh1 h2=>⟨r,hr,W.m0,h1,h2⟩
  have sd:t k*t (k+1) < 0->Shr bb (cor h k) (md h t k)/\Shr bb (md h t k) (cor h (k+1)):=λc=>by
   obtain ⟨m,m5,mz,m1,m2⟩:=H.sh k (by omega);have o1:=DC (ok k) (ok (k+1)) c m1 m2;exact ⟨⟨m,m5,mz,m1,o1⟩,⟨m,m5,mz,o1,m2⟩⟩
  have add:∀ x,(∀ L e,fl (stp h t) k=L++[e]->Shr bb e x)->Nb bb (fl (stp h t) k++[x]):=λx hx=>by
   rcases List.eq_nil_or_concat (fl (stp h t) k) with z | ⟨L,e,z⟩
   ·rw [z];exact trivial
   ·rw [List.concat_eq_append] at z;have n':=n;rw [z] at n' ⊢;have:=uc n' (hx L e z);simpa using this
  have last1:∀{A:List T3} {x:T3} {L:List T3} {e:T3},A++[x]=L++[e]->e=x:=λz=>by
   have:=congrArg List.getLast? z;simp at this;exact this.symm
  rw [bo]
  by_cases a:t k<=0
  ·have nk:=add (cor h k) λL e z=>(o L e z).1 a
   by_cases b:t (k+1)<=0
   ·have c:¬t k*t (k+1) < 0:=by
     have:=Int.mul_nonneg_of_nonpos_of_nonpos a b;omega
    rw [mW a c];refine ⟨nk,λL e z=>?_⟩;rw [last1 z];exact ⟨λ_=>H.sh k (by omega),λy=>absurd b y⟩
   ·by_cases d:t k < 0
    ·have c:t k*t (k+1) < 0:=Int.mul_neg_of_neg_of_pos d (by omega);rw [pq a c];refine ⟨uc nk (sd c).1,λL e z=>?_⟩;have z':(fl (stp h t) k++[cor h k])++[md h t k]=L++[e]:=by rw [<- z];simp
     rw [last1 z'];exact ⟨λy=>absurd y b,λ_=>W.ml k c⟩
    ·have t0:t k=0:=by omega
     rw [mW a (by rw [t0];omega)];refine ⟨nk,λL e z=>?_⟩;rw [last1 z];exact ⟨λy=>absurd y b,λ_=>W.cz k t0⟩
  ·by_cases b:t (k+1) < 0
   ·have c:t k*t (k+1) < 0:=Int.mul_neg_of_pos_of_neg (by omega) b;rw [iN a c];refine ⟨add _ λL e z=>on_r ((o L e z).2 a) (W.ml k c),λL e z=>?_⟩;rw [last1 z];exact ⟨λ_=>(sd c).2,λy=>absurd (show t (k+1)<=0 by omega) y⟩
   ·have c:¬t k*t (k+1) < 0:=by
     have:=Int.mul_nonneg (show 0<=t k by omega) (show 0<=t (k+1) by omega);omega
    rw [lR a c,List.append_nil];refine ⟨n,λL e z=>?_⟩;have q:=(o L e z).2 a;refine ⟨λy=>?_,λ_=>q⟩;exact on_r q (W.cz (k+1) (by omega))
theorem wH (a:t 0<=0):∀ n,∃ s,fl (stp h t) (n+1)=cor h 0::s
 | 0=>by
  rw [bo,uw,List.nil_append];unfold stp;rw [if_pos a];exact ⟨_,rfl⟩
 | n+1=>by
  obtain ⟨s,e⟩:=wH a n;rw [bo,e];exact ⟨_,rfl⟩
theorem wd {L:List T3} {x:T3} {s:List T3} (e:L=x::s) (n:Nb bb L) (c:∀ A z,L=A++[z]->Shr bb z x):∀ i,i < L.length->Shr bb (cor L i) (cor L (i+1)):=λi hi=>by
 rcases Nat.lt_or_ge (i+1) L.length with z | z
 ·rw [eF hi,eF z];exact nb_at (i:=i) n (List.getElem?_eq_getElem hi) (List.getElem?_eq_getElem z)
 ·have ei:i+1=L.length:=by omega
  rw [ei,dH,eF hi,eF (show 0 < L.length by omega)];have hne:L≠[]:=by rw [e];simp
  have q:=c L.dropLast (L.getLast hne) (List.dropLast_concat_getLast hne).symm;have g1:L[i]=L.getLast hne:=by rw [List.getLast_eq_getElem];congr 1;omega
  have g0:L[0]'(by omega)=x:=by simp only [e,List.getElem_cons_zero]
  rw [g1,g0];exact q
theorem cut_sh (H:HKg bb h) (hr:R3 bb r) (W:Wk h t r X) (tn:t h.length=t 0) (ne:fl (stp h t) h.length≠[]):∀ i,i < (fl (stp h t) h.length).length->Shr bb (cor (fl (stp h t) h.length) i) (cor (fl (stp h t) h.length) (i+1)):=by
 obtain ⟨n,o⟩:=zO H hr W h.length (Nat.le_refl _)
 by_cases a:t 0<=0
 ·obtain ⟨m,em⟩:∃ m,h.length=m+1:=⟨h.length - 1,by have:=H.n3;omega⟩;obtain ⟨s,es⟩:=wH (h:=h) a m;rw [<- em] at es;refine wd es n λA z e=>?_;have:=(o A z e).1 (by rw [tn];exact a);rw [dH] at this;exact this
 ·cases e:fl (stp h t) h.length with
  | nil=>exact absurd e ne
  | cons x s =>
   rw [<- e];have ox:=qM W a _ x s e;refine wd e n λA z ez=>?_;exact ⟨r,hr,W.m0,(o A z ez).2 (by rw [tn];exact a),ox.1⟩
def ca (h:List T3) (t:Nat->Int) (i:Nat):List T3:=if t i<=0 then [cor h i] else []
def cb (h:List T3) (t:Nat->Int) (i:Nat):List T3:=if t i*t (i+1) < 0 then [md h t i] else []
theorem Cp (i:Nat):stp h t i=ca h t i++cb h t i:=rfl
theorem zV:∀ n,(fl (stp h t) n).length=(fl (ca h t) n).length+(fl (cb h t) n).length
 | 0=>rfl
 | n+1=>by
  rw [bo,bo,bo,List.length_append,List.length_append,List.length_append,zV n,Cp,List.length_append];omega
theorem EY {j:Nat} (tj:0 < t j):∀ n,(fl (ca h t) n).length<=n/\(j < n->(fl (ca h t) n).length+1<=n)
 | 0=>⟨Nat.le_refl _,λz=>absurd z (Nat.not_lt_zero _)⟩
 | n+1=>by
  obtain ⟨a,b⟩:=EY tj n;rw [bo,List.length_append];have c:(ca h t n).length<=1:=by unfold ca;split <;> simp
  refine ⟨by omega,λz=>?_⟩;rcases Nat.lt_or_ge j n with y | y
  ·have:=b y;omega
  ·have ej:j=n:=by omega
   subst ej;have:ca h t j=[]:=by unfold ca;rw [if_neg (by omega)]
   rw [this];simp;omega
theorem EV:∀ n,(fl (cb h t) n).Sublist (fl (stp h t) n)
 | 0=>List.Sublist.refl _
 | n+1=>by
  rw [bo,bo,Cp];exact (EV n).append (List.sublist_append_right _ _)
theorem EW (W:Wk h t r X) {n:Nat} {x:T3} (hx:x∈fl (cb h t) n):tl r x=0:=by
 obtain ⟨i,_,hi⟩:=sub_one hx;unfold cb at hi;split at hi
 ·rename_i c;rw [List.mem_singleton.mp hi];exact W.ml i c
 ·cases hi
theorem Ae (H:HKg bb h) (W:Wk h t r X) (tn:t h.length=t 0) {j:Nat} (hj:j < h.length) (tj:0 < t j):(fl (stp h t) h.length).length<=h.length+1:=by
 have S:=qR H.cok H.tri H.n3 tn;have a:=(EY (h:=h) tj h.length).2 hj
 have b:(fl (cb h t) h.length).length<=2:=by
  rcases Nat.lt_or_ge 2 (fl (cb h t) h.length).length with z | z
  ·exfalso;have s3:=mV (L:=fl (cb h t) h.length) (show 0 < 1 by omega) (show 1 < 2 by omega) z;have d:=S _ _ _ (s3.trans (EV h.length));have d0:=qP W.m0 (EW W (n:=h.length) (List.getElem_mem (show 0 < (fl (cb h t) h.length).length by omega))) (EW W (n:=h.length) (List.getElem_mem (show 1 < (fl (cb h t) h.length).length by omega))) (EW W (n:=h.length) (List.getElem_mem z));omega
  ·exact z
 rw [zV];omega
theorem gy {f:Nat->List T3} {i:Nat}:∀ d,(fl f i).length<=(fl f (i+d)).length
 | 0=>Nat.le_refl _
 | d+1=>by
  rw [<- Nat.add_assoc,bo,List.length_append];have:=gy (f:=f) (i:=i) d;omega
theorem zK {i j:Nat} (hij:i < j) (ti:t i < 0) (tj:0 < t j):(fl (stp h t) i).length+2<=(fl (stp h t) j).length:=by
 have s1:1<=(stp h t i).length:=by unfold stp;rw [if_pos (by omega)];simp
 rcases Int.lt_or_le 0 (t (i+1)) with z | z
 ·have c:t i*t (i+1) < 0:=Int.mul_neg_of_neg_of_pos ti z;have m:=gy (f:=stp h t) (i:=i+1) (j - (i+1));rw [show i+1+(j - (i+1))=j by omega,bo,List.length_append,pq (by omega) c] at m;simpa using m
 ·have ij:i+1 < j:=by
   rcases Nat.lt_or_ge (i+1) j with y | y
   ·exact y
   ·rw [show j=i+1 by omega] at tj;omega
  have s2:1<=(stp h t (i+1)).length:=by unfold stp;rw [if_pos z];simp
  have m:=gy (f:=stp h t) (i:=i+1+1) (j - (i+1+1));rw [show i+1+1+(j - (i+1+1))=j by omega,bo,bo,List.length_append,List.length_append] at m;omega
theorem uo:∀(d:Nat) {j:Nat},0 < t j->t (j+d) < 0->(fl (stp h t) j).length+1<=(fl (stp h t) (j+d)).length
 | 0,j,tj,ti=>by rw [Nat.add_zero] at ti;omega
 | d+1,j,tj,ti=>by
  have e:j+(d+1)=j+1+d:=by omega
  rw [e] at ti ⊢;have m:=gy (f:=stp h t) (i:=j+1) d;rcases Int.lt_trichotomy (t (j+1)) 0 with z | z | z
  ·have c:t j*t (j+1) < 0:=Int.mul_neg_of_pos_of_neg tj z;rw [bo,List.length_append,iN (by omega) c] at m;simp at m;omega
  ·cases d with
   | zero=>rw [Nat.add_zero] at ti;omega
   | succ d =>
    have s2:1<=(stp h t (j+1)).length:=by unfold stp;rw [if_pos (by omega)];simp
    have m2:=gy (f:=stp h t) (i:=j+1+1) d;rw [show j+1+1+d=j+1+(d+1) by omega,bo (j+1),List.length_append,bo j,List.length_append] at m2;omega
  ·have:=uo d z ti;rw [bo,List.length_append] at this;omega
theorem BA {n i j:Nat} (hi:i < n) (hj:j < n) (tn:t n=t 0) (ti:t i < 0) (tj:0 < t j):3<=(fl (stp h t) n).length:=by
 rcases Nat.lt_or_ge i j with z | z
 ·have o:=zK (h:=h) z ti tj;rcases Int.lt_trichotomy (t 0) 0 with y | y | y
  ·have k:=uo (h:=h) (n - j) tj (by rw [show j+(n - j)=n by omega,tn];exact y);rw [show j+(n - j)=n by omega] at k;omega
  ·have m:=gy (f:=stp h t) (i:=j) (n - j);rw [show j+(n - j)=n by omega] at m
   have i0:0 < i:=by
    rcases Nat.eq_zero_or_pos i with x | x
    ·rw [x] at ti;omega
    ·exact x
   have m2:=gy (f:=stp h t) (i:=1) (i - 1);rw [show 1+(i - 1)=i by omega,bo,List.length_append] at m2;have s2:1<=(stp h t 0).length:=by unfold stp;rw [if_pos (by omega)];simp
   omega
  ·have k:=uo (h:=h) (t:=t) i (j:=0) y (by rw [Nat.zero_add];exact ti);rw [Nat.zero_add] at k;have m:=gy (f:=stp h t) (i:=j) (n - j);rw [show j+(n - j)=n by omega] at m;omega
 ·have ij:j < i:=by
   rcases Nat.lt_or_ge j i with y | y
   ·exact y
   ·rw [show i=j by omega] at ti;omega
  have k:=uo (h:=h) (i - j) tj (by rw [show j+(i - j)=i by omega];exact ti);rw [show j+(i - j)=i by omega] at k;rcases Int.lt_or_le 0 (t 0) with y | y
  ·have o:=zK (h:=h) hi ti (by rw [tn];exact y);omega
  ·
   have s2:1<=(stp h t 0).length:=by unfold stp;rw [if_pos y];simp
   have s3:1<=(stp h t i).length:=by unfold stp;rw [if_pos (by omega)];simp
   have j0:0 < j:=by
    rcases Nat.eq_zero_or_pos j with x | x
    ·rw [x] at tj;omega
    ·exact x
   have m2:=gy (f:=stp h t) (i:=1) (j - 1);rw [show 1+(j - 1)=j by omega,bo,List.length_append] at m2;have m3:=gy (f:=stp h t) (i:=i+1) (n - (i+1));rw [show i+1+(n - (i+1))=n by omega,bo,List.length_append] at m3;omega
theorem ER (H:HKg bb h) (hr:R3 bb r) (et:∀ i,t i=tl r (cor h i)\/t i = - tl r (cor h i)) (W:Wk h t r X) (tn:t h.length=t 0) {i j:Nat} (hi:i < h.length) (hj:j < h.length) (ti:t i < 0) (tj:0 < t j):HKg bb (fl (stp h t) h.length):=by
 have n3:=BA (h:=h) hi hj tn ti tj
 have mem:∀ x∈fl (stp h t) h.length,P3 (2*bb+2) x/\gg x.u x.v x.w=1:=λx hx=>by
  obtain ⟨k,hk,hx⟩:=sub_one hx;rcases sY H.cok hx with ⟨_,e⟩ | ⟨c,e,_⟩
  ·rw [e];have:=dY (h:=h) (by omega) k;exact ⟨H.ok _ this,H.pr _ this⟩
  ·rw [e];exact md_ok H hr et W hk c
 exact ⟨qR H.cok H.tri H.n3 tn,n3,λx hx=>(mem x hx).1,λx hx=>(mem x hx).2,cut_sh H hr W tn (λz=>by rw [z] at n3;exact absurd n3 (by decide))⟩
end
section
variable {bb:Nat} {h:List T3} {r:T3}
structure Cut (bb:Nat) (h:List T3) (r:T3):Prop where
 lo:HKg bb (low r h)
 hi:HKg bb (high r h)
 ll:(low r h).length<=h.length+1
 lh:(high r h).length<=h.length+1
 pl:0 < lH (low r h)
 ph:0 < lH (high r h)
 ad:lH (low r h)+lH (high r h)=lH h
theorem HKg.hull (H:HKg bb h):xi (2*bb+2) h.length h:=⟨H.tri.tri,H.ok,by have:=H.n3;omega,Nat.le_refl _⟩
theorem Af (H:HKg bb h) (hr:R3 bb r) {p q:T3} (hp:p∈h) (hq:q∈h) (p0:tl r p < 0) (q0:0 < tl r q)   : Cut bb h r:=by
 have ok:=H.cok
 have nz:r.u≠0\/r.v≠0\/r.w≠0:=by
  rcases Decidable.em (r.u=0) with z1 | z1
  ·rcases Decidable.em (r.v=0) with z2 | z2
   ·refine .inr (.inr λz3=>?_);unfold tl at p0;rw [z1,z2,z3] at p0;omega
   ·exact .inr (.inl z2)
  ·exact .inl z1
 have xs:∃ X:T3,0 < X.u/\tl r X=0:=by
  refine ⟨⟨tl r q*p.u + -(tl r p)*q.u,tl r q*p.v + -(tl r p)*q.v,tl r q*p.w + -(tl r p)*q.w⟩,?_,?_⟩
  ·show 0 < tl r q*p.u + -(tl r p)*q.u;have:=Int.mul_pos q0 (H.ok p hp).n0;have:=Int.mul_pos (show 0 < -(tl r p) by omega) (H.ok q hq).n0;omega
  ·show r.u*(tl r q*p.v + -(tl r p)*q.v)+r.v*(tl r q*p.w + -(tl r p)*q.w)+r.w*(tl r q*p.u + -(tl r p)*q.u)=0;simp only [tl];grind
 obtain ⟨X,xu,xl⟩:=xs;obtain ⟨W1,W2⟩:=BW ok nz xu xl;obtain ⟨i,hi,ei⟩:=List.mem_iff_getElem.mp hp;obtain ⟨j,hj,ej⟩:=List.mem_iff_getElem.mp hq;have ei':cor h i=p:=(eF hi).trans ei;have ej':cor h j=q:=(eF hj).trans ej;have tl0:tv r h h.length=tv r h 0:=by unfold tv;rw [dH]
 have th0:tn r h h.length=tn r h 0:=by unfold tn;rw [dH]
 have a1:tv r h i < 0:=by unfold tv;rw [ei'];exact p0
 have a2:0 < tv r h j:=by unfold tv;rw [ej'];exact q0
 have b1:0 < tn r h i:=by unfold tn;rw [ei'];omega
 have b2:tn r h j < 0:=by unfold tn;rw [ej'];omega
 have L:=ER H hr (λk=>.inl rfl) W1 tl0 hi hj a1 a2;have G:=ER H hr (λk=>.inr rfl) W2 th0 hj hi b2 b1;exact ⟨L,G,Ae H W1 tl0 hj a2,Ae H W2 th0 hi b1,wX (λx hx=>(L.ok x hx).n0) L.tri L.n3,wX (λx hx=>(G.ok x hx).n0) G.tri G.n3,BI H.hull hp hq p0 q0⟩
theorem xF (hb:1<=bb):HKg bb sqH:=by
 have p2:1 < 2 ^ bb:=Nat.one_lt_two_pow (by omega);refine ⟨λp q r s=>?_,by decide,λp hp=>?_,λp hp=>?_,λi hi=>?_⟩
 ·simp only [sqH,List.sublist_cons_iff,List.sublist_nil,List.cons.injEq,reduceCtorEq,false_or,or_false] at s;simp only [List.nil_eq,exists_eq_right_right',and_assoc] at s;grind [det]
 ·have:=(sq_hull.ok p hp).mono (show 1<=2*bb+2 by omega);exact this
 ·simp only [sqH,List.mem_cons,List.not_mem_nil,or_false] at hp;rcases hp with e | e | e | e <;> rw [e] <;> decide
 ·have hi':i < 4:=hi;rcases (by omega:i=0\/i=1\/i=2\/i=3) with e | e | e | e <;> rw [e]
  ·exact ⟨⟨0,1,0⟩,⟨Nat.lt_of_le_of_lt (by decide) p2,Nat.lt_of_le_of_lt (by decide) p2,Nat.lt_of_le_of_lt (by decide) p2⟩,.inr (.inl (by decide)),by decide,by decide⟩
  ·exact ⟨⟨1,0,-1⟩,⟨Nat.lt_of_le_of_lt (by decide) p2,Nat.lt_of_le_of_lt (by decide) p2,Nat.lt_of_le_of_lt (by decide) p2⟩,.inl (by decide),by decide,by decide⟩
  ·exact ⟨⟨0,1,-1⟩,⟨Nat.lt_of_le_of_lt (by decide) p2,Nat.lt_of_le_of_lt (by decide) p2,Nat.lt_of_le_of_lt (by decide) p2⟩,.inr (.inl (by decide)),by decide,by decide⟩
  ·exact ⟨⟨1,0,0⟩,⟨Nat.lt_of_le_of_lt (by decide) p2,Nat.lt_of_le_of_lt (by decide) p2,Nat.lt_of_le_of_lt (by decide) p2⟩,.inl (by decide),by decide,by decide⟩
abbrev HK (h:List T3):Prop:=HKg 64 h
theorem jz:HK sqH:=xF (by decide)
end
end Hu
namespace Hu
section
variable {h:List T3} {r X:T3} {t:Nat->Int} {Rl:T3->T3->Prop}
end
def Ins (h:List T3) (p:T3):Prop:=∀ i,i < h.length->0<=det (cor h i) (cor h (i+1)) p
theorem sideS {L:List T3} (T:oQ L) (n3:3<=L.length) {i j:Nat} (hi:i < L.length) (hj:j < L.length) (n1:j≠i) (n2:j≠(i+1) % L.length):0 < det (cor L i) (cor L (i+1)) (cor L j):=by
 rcases Nat.lt_or_ge (i+1) L.length with z | z
 ·rw [Nat.mod_eq_of_lt z] at n2;rcases Nat.lt_or_ge j i with y | y
  ·rw [bK];exact ff T y (by omega) z
  ·exact ff T (by omega) (show i+1 < j by omega) hj
 ·have e:i+1=L.length:=by omega
  rw [e,Nat.mod_self] at n2;rw [e,dH,bK,bK];exact ff T (show 0 < j by omega) (show j < i by omega) hi
end Hu
namespace Hu
def iL (h:List T3) (p:T3):Prop:=∀ f:T3,(∀ c∈h,0<=tl f c)->0<=tl f p
theorem Cc (f p:T3):tl ⟨-f.u,-f.v,-f.w⟩ p = - tl f p:=by simp only [tl];grind
theorem iL.le {h:List T3} {p:T3} (C:iL h p) {f:T3} (hf:∀ c∈h,tl f c<=0):tl f p<=0:=by
 have z:=C ⟨-f.u,-f.v,-f.w⟩ λc hc=>by rw [Cc];have:=hf c hc;omega
 rw [Cc] at z;omega
theorem mG {h:List T3} {c:T3} (hc:c∈h):iL h c:=λf hf=>hf c hc
theorem iL.sub {h g:List T3} (s:∀ c∈g,iL h c) {p:T3} (C:iL g p):iL h p:=λf hf=>C f λc hc=>s c hc f hf
inductive Row where
 | lf (k:Nat)
 | nt (i:Nat)
 | fd (k i j:Nat)
def z0:T3:=⟨0,0,0⟩
def fld (k:Nat) (n a b:Int):Int:=
 if k=0 then (if a+b < n then a+b else n) else if k=1 then (if a+b - n > 0 then a+b - n else 0) else if k=2 then (if b > a then b else a) else if k=3 then (if b < a then b else a) else (if n - a+b < n then n - a+b else n)
def lfw (k:Nat) (p:T3):Int:=if k=0 then 0 else if k=1 then p.u else if k=2 then p.v else p.w
def wof (ws:List Int) (p:T3):Row->Int
 | .lf k=>lfw k p
 | .nt i=>p.u - ws.getD i 0
 | .fd k i j=>fld k p.u (ws.getD i 0) (ws.getD j 0)
def lft (k:Nat):T3:=if k=0 then ⟨0,0,0⟩ else if k=1 then ⟨0,0,1⟩ else if k=2 then ⟨1,0,0⟩ else ⟨0,1,0⟩
def pl (a b:T3):T3:=⟨a.u+b.u,a.v+b.v,a.w+b.w⟩
def mi (a b:T3):T3:=⟨a.u - b.u,a.v - b.v,a.w - b.w⟩
def al:T3:=⟨0,0,1⟩
theorem uQ (a b p:T3):tl (pl a b) p=tl a p+tl b p:=by simp only [tl,pl];grind
theorem lP (a b p:T3):tl (mi a b) p=tl a p - tl b p:=by simp only [tl,mi];grind
theorem nZ (p:T3):tl al p=p.u:=by simp only [tl,al];grind
theorem pL (p:T3):tl z0 p=0:=by simp only [tl,z0];grind
theorem Cd (k:Nat) (p:T3):tl (lft k) p=lfw k p:=by
 unfold lft lfw tl;split
 ·simp
 ·split
  ·simp
  ·split <;> simp
def fch (k:Nat) (a b:T3):T3×T3×T3:=
 if k=0 then (mi (pl a b) al,pl a b,al) else if k=1 then (mi (pl a b) al,z0,mi (pl a b) al) else if k=2 then (mi a b,b,a) else if k=3 then (mi a b,a,b) else (mi b a,pl al (mi b a),al)
def choice (rs:List T3):Row->T3×T3×T3
 | .lf k=>(z0,lft k,lft k)
 | .nt i=>(z0,mi al (rs.getD i z0),mi al (rs.getD i z0))
 | .fd k i j=>fch k (rs.getD i z0) (rs.getD j z0)
open Classical in
def bu (h:List T3) (c:T3×T3×T3):Option T3:=if ∀ q∈h,tl c.1 q<=0 then some c.2.1 else if ∀ q∈h,0<=tl c.1 q then some c.2.2 else none
inductive Out where
 | rules (rs:List T3)
 | mixed (k:Nat) (t:T3)
def run (h:List T3):List Row->List T3->Out
 | [],rs=>.rules rs
 | r::rest,rs=>match bu h (choice rs r) with
  | some x=>run h rest (rs++[x])
  | none=>.mixed rs.length (choice rs r).1
def tv2 (rs:List T3) (p:T3):List Int:=rs.map λr=>tl r p
theorem pK (rs:List T3) (p:T3) (i:Nat):(tv2 rs p).getD i 0=tl (rs.getD i z0) p:=by
 unfold tv2;rw [List.getD_eq_getElem?_getD,List.getD_eq_getElem?_getD,List.getElem?_map];cases rs[i]? with
 | none=>exact (pL p).symm
 | some r=>rfl
def xy (ws:List Int) (p:T3):Row->Int
 | .lf _=>0
 | .nt _=>0
 | .fd k i j=>if k=0 then ws.getD i 0+ws.getD j 0 - p.u else if k=1 then ws.getD i 0+ws.getD j 0 - p.u else if k=2 then ws.getD i 0 - ws.getD j 0 else if k=3 then ws.getD i 0 - ws.getD j 0 else ws.getD j 0 - ws.getD i 0
theorem fR (rs:List T3) (p:T3) (r:Row):tl (choice rs r).1 p=xy (tv2 rs p) p r:=by
 cases r with
 | lf k=>exact pL p
 | nt i=>exact pL p
 | fd k i j =>
  show tl (fch k _ _).1 p=xy _ p (.fd k i j);unfold fch xy;simp only [pK];split
  ·show tl (mi (pl _ _) al) p=_;rw [lP,uQ,nZ]
  ·split
   ·show tl (mi (pl _ _) al) p=_;rw [lP,uQ,nZ]
   ·split
    ·show tl (mi _ _) p=_;rw [lP]
    ·split
     ·show tl (mi _ _) p=_;rw [lP]
     ·show tl (mi _ _) p=_;rw [lP]
theorem Ef (rs:List T3) (p:T3) (r:Row) (h:xy (tv2 rs p) p r<=0):tl (choice rs r).2.1 p=wof (tv2 rs p) p r:=by
 cases r with
 | lf k=>exact Cd k p
 | nt i =>
  show tl (mi al _) p=p.u - _;rw [lP,nZ,pK]
 | fd k i j =>
  show tl (fch k _ _).2.1 p=fld k p.u _ _;unfold xy at h;unfold fch fld;simp only [pK] at h ⊢;split at h <;> rename_i c0
  ·rw [if_pos c0,if_pos c0];show tl (pl _ _) p=_;rw [uQ];split <;> omega
  ·rw [if_neg c0,if_neg c0];split at h <;> rename_i c1
   ·rw [if_pos c1,if_pos c1];show tl z0 p=_;rw [pL];split <;> omega
   ·rw [if_neg c1,if_neg c1];split at h <;> rename_i c2
    ·rw [if_pos c2,if_pos c2];show tl (rs.getD j z0) p=_;split <;> omega
    ·rw [if_neg c2,if_neg c2];split at h <;> rename_i c3
     ·rw [if_pos c3,if_pos c3];show tl (rs.getD i z0) p=_;split <;> omega
     ·rw [if_neg c3,if_neg c3];show tl (pl al (mi _ _)) p=_;rw [uQ,nZ,lP];split <;> omega
theorem En (rs:List T3) (p:T3) (r:Row) (h:0<=xy (tv2 rs p) p r):tl (choice rs r).2.2 p=wof (tv2 rs p) p r:=by
 cases r with
 | lf k=>exact Cd k p
 | nt i =>
  show tl (mi al _) p=p.u - _;rw [lP,nZ,pK]
 | fd k i j =>
  show tl (fch k _ _).2.2 p=fld k p.u _ _;unfold xy at h;unfold fch fld;simp only [pK] at h ⊢;split at h <;> rename_i c0
  ·rw [if_pos c0,if_pos c0];show tl al p=_;rw [nZ];split <;> omega
  ·rw [if_neg c0,if_neg c0];split at h <;> rename_i c1
   ·rw [if_pos c1,if_pos c1];show tl (mi (pl _ _) al) p=_;rw [lP,uQ,nZ];split <;> omega
   ·rw [if_neg c1,if_neg c1];split at h <;> rename_i c2
    ·rw [if_pos c2,if_pos c2];show tl (rs.getD i z0) p=_;split <;> omega
    ·rw [if_neg c2,if_neg c2];split at h <;> rename_i c3
     ·rw [if_pos c3,if_pos c3];show tl (rs.getD j z0) p=_;split <;> omega
     ·rw [if_neg c3,if_neg c3];show tl al p=_;rw [nZ];split <;> omega
theorem hE {h:List T3} {rs:List T3} {r:Row} {x:T3} (e:bu h (choice rs r)=some x) {p:T3} (C:iL h p):tl x p=wof (tv2 rs p) p r:=by
 unfold bu at e;split at e
 ·rename_i c;cases e
  exact Ef rs p r (by rw [<- fR];exact C.le c)
 ·split at e
  ·rename_i c;cases e
   exact En rs p r (by rw [<- fR];exact C _ c)
  ·cases e
theorem lO (rs:List T3) (x p:T3):tv2 (rs++[x]) p=tv2 rs p++[tl x p]:=by unfold tv2;rw [List.map_append];rfl
theorem iE {h:List T3} {c:T3×T3×T3} (e:bu h c=none):(∃ q∈h,0 < tl c.1 q)/\∃ q∈h,tl c.1 q < 0:=by
 unfold bu at e;split at e
 ·cases e
 ·rename_i c1;split at e
  ·cases e
  ·rename_i c2;constructor
   ·refine Classical.byContradiction λz=>c1 λq hq=>?_;refine Classical.byContradiction λy=>z ⟨q,hq,by omega⟩
   ·refine Classical.byContradiction λz=>c2 λq hq=>?_;refine Classical.byContradiction λy=>z ⟨q,hq,by omega⟩
theorem vE {h g:List T3} (s:∀ c∈g,iL h c):∀(rows:List Row) (rs rs':List T3),rs.length=rs'.length->(∀ p,iL g p->tv2 rs p=tv2 rs' p)->∀ k t,run h rows rs=.mixed k t->
  ((∀ c∈g,tl t c<=0)\/∀ c∈g,0<=tl t c)->∀ k' t',run g rows rs'=.mixed k' t'->k < k'
 | [],rs,rs',_,_,k,t,e,_,_,_,_=>by cases e
 | r::rest,rs,rs',el,et,k,t,e,hs,k',t',e'=>by
  have tt:∀ c∈g,tl (choice rs r).1 c=tl (choice rs' r).1 c:=λc hc=>by rw [fR,fR,et c (mG hc)]
  have ex:((∀ c∈g,tl (choice rs r).1 c<=0)\/∀ c∈g,0<=tl (choice rs r).1 c)->∃ x,bu g (choice rs' r)=some x:=λhh=>by
   cases q:bu g (choice rs' r) with
   | some x=>exact ⟨x,rfl⟩
   | none =>
    exfalso;obtain ⟨⟨a,ha,a0⟩,b,hb,b0⟩:=iE q;rw [<- tt a ha] at a0;rw [<- tt b hb] at b0;rcases hh with z | z
    ·have:=z a ha;omega
    ·have:=z b hb;omega
  unfold run at e;cases q:bu h (choice rs r) with
  | none =>
   rw [q] at e;injection e with e1 e2
   subst e2;obtain ⟨x,qx⟩:=ex hs;unfold run at e';rw [qx] at e'
   have ge:∀(rows:List Row) (rs:List T3) (k:Nat) (t:T3),run g rows rs=.mixed k t->rs.length<=k:=by
    intro rows
    induction rows with
    | nil=>intro rs k t z;cases z
    | cons r rest ih =>
     intro rs k t z;unfold run at z;cases y:bu g (choice rs r) with
     | none=>rw [y] at z;injection z with z1 z2;omega
     | some x =>
      rw [y] at z;have:=ih _ _ _ z;rw [List.length_append,List.length_singleton] at this;omega
   have:=ge _ _ _ _ e';rw [List.length_append,List.length_singleton] at this;omega
  | some y =>
   rw [q] at e
   have us:(∀ c∈g,tl (choice rs r).1 c<=0)\/∀ c∈g,0<=tl (choice rs r).1 c:=by
    unfold bu at q;split at q
    ·rename_i c;exact .inl λc' hc=>(s c' hc).le c
    ·split at q
     ·rename_i c;exact .inr λc' hc=>s c' hc _ c
     ·cases q
   obtain ⟨x,qx⟩:=ex us;unfold run at e';rw [qx] at e';refine vE s rest _ _ (by simp [el]) (λp hp=>?_) k t e hs k' t' e';rw [lO,lO,hE q (hp.sub s),hE qx hp,et p hp]
def Rb (rs:List T3):Prop:=∀ i x,rs[i]?=some x->R3 (i+1) x
theorem r3_pl {m:Nat} {a b:T3} (ha:R3 m a) (hb:R3 m b):R3 (m+1) (pl a b):=by
 have e:2 ^ (m+1)=2*2 ^ m:=by rw [Nat.pow_succ];omega
 have:=ha.a;have:=ha.b;have:=ha.c;have:=hb.a;have:=hb.b;have:=hb.c;refine ⟨?_,?_,?_⟩ <;> (simp only [pl];rw [e];omega)
theorem vM {m:Nat} {a b:T3} (ha:R3 m a) (hb:R3 m b):R3 (m+1) (mi a b):=by
 have e:2 ^ (m+1)=2*2 ^ m:=by rw [Nat.pow_succ];omega
 have:=ha.a;have:=ha.b;have:=ha.c;have:=hb.a;have:=hb.b;have:=hb.c;refine ⟨?_,?_,?_⟩ <;> (simp only [mi];rw [e];omega)
theorem xM {m:Nat} {a b:T3} (ha:R3 m a) (hb:R3 m b):R3 (m+1) (mi (pl a b) al):=by
 have e:2 ^ (m+1)=2*2 ^ m:=by rw [Nat.pow_succ];omega
 have:=ha.a;have:=ha.b;have:=ha.c;have:=hb.a;have:=hb.b;have:=hb.c;refine ⟨?_,?_,?_⟩ <;> (simp only [pl,mi,al];rw [e];omega)
theorem r3_alm {m:Nat} {a b:T3} (ha:R3 m a) (hb:R3 m b):R3 (m+1) (pl al (mi b a)):=by
 have e:2 ^ (m+1)=2*2 ^ m:=by rw [Nat.pow_succ];omega
 have:=ha.a;have:=ha.b;have:=ha.c;have:=hb.a;have:=hb.b;have:=hb.c;refine ⟨?_,?_,?_⟩ <;> (simp only [pl,mi,al];rw [e];omega)
theorem xK (m:Nat):R3 (m+1) al:=by
 have:=Nat.one_le_two_pow (n:=m);have e:2 ^ (m+1)=2*2 ^ m:=by rw [Nat.pow_succ];omega
 refine ⟨?_,?_,?_⟩ <;> (simp only [al];rw [e];omega)
theorem Dk (m:Nat):R3 (m+1) z0:=by
 have:=Nat.one_le_two_pow (n:=m);have e:2 ^ (m+1)=2*2 ^ m:=by rw [Nat.pow_succ];omega
 refine ⟨?_,?_,?_⟩ <;> (simp only [z0];rw [e];omega)
theorem Dl (k m:Nat):R3 (m+1) (lft k):=by
 have:=Nat.one_le_two_pow (n:=m);have e:2 ^ (m+1)=2*2 ^ m:=by rw [Nat.pow_succ];omega
 unfold lft;split
 ·refine ⟨?_,?_,?_⟩ <;> (simp only [];rw [e];omega)
 ·split
  ·refine ⟨?_,?_,?_⟩ <;> (simp only [];rw [e];omega)
  ·split <;> (refine ⟨?_,?_,?_⟩ <;> (simp only [];rw [e];omega))
def Row.Ok (n:Nat):Row->Prop
 | .lf k=>k < 4
 | .nt i=>i < n
 | .fd k i j=>k < 5/\i < n/\j < n
theorem Dh {rs:List T3} (h:Rb rs) {i:Nat} (hi:i < rs.length):R3 rs.length (rs.getD i z0):=by
 have e:rs[i]?=some (rs.getD i z0):=by rw [List.getD_eq_getElem?_getD,List.getElem?_eq_getElem hi];rfl
 exact (h i _ e).mono (by omega)
theorem qU {rs:List T3} (h:Rb rs) {r:Row} (ok:r.Ok rs.length):R3 (rs.length+1) (choice rs r).1/\R3 (rs.length+1) (choice rs r).2.1/\R3 (rs.length+1) (choice rs r).2.2:=by
 cases r with
 | lf k=>exact ⟨Dk _,Dl k _,Dl k _⟩
 | nt i =>
  have a:=Dh h ok;have l0:∃ m,rs.length=m+1:=⟨rs.length - 1,by have:i < rs.length:=ok;omega⟩;obtain ⟨m,em⟩:=l0;have o:R3 rs.length al:=by rw [em];exact xK m
  exact ⟨Dk _,vM o a,vM o a⟩
 | fd k i j =>
  obtain ⟨_,hi,hj⟩:=ok;have a:=Dh h hi;have b:=Dh h hj;show R3 _ (fch k _ _).1/\R3 _ (fch k _ _).2.1/\R3 _ (fch k _ _).2.2;unfold fch;split
  ·exact ⟨xM a b,r3_pl a b,xK _⟩
  ·split
   ·exact ⟨xM a b,Dk _,xM a b⟩
   ·split
    ·exact ⟨vM a b,b.mono (by omega),a.mono (by omega)⟩
    ·split
     ·exact ⟨vM a b,a.mono (by omega),b.mono (by omega)⟩
     ·exact ⟨vM b a,r3_alm a b,xK _⟩
theorem zD {rs:List T3} {x:T3} (h:Rb rs) (hx:R3 (rs.length+1) x):Rb (rs++[x]):=λi y e=>by
 rcases Nat.lt_or_ge i rs.length with z | z
 ·rw [List.getElem?_append_left z] at e;exact h i y e
 ·rw [List.getElem?_append_right z] at e
  have:i - rs.length=0:=by
   rcases Nat.eq_zero_or_pos (i - rs.length) with q | q
   ·exact q
   ·rw [List.getElem?_eq_none (by simp;omega)] at e;cases e
  rw [this] at e;cases e
  rw [show i=rs.length by omega];exact hx
theorem wQ {rs:List T3} {h:List T3} {r:Row} {x:T3} (hb:Rb rs) (ok:r.Ok rs.length) (e:bu h (choice rs r)=some x):R3 (rs.length+1) x:=by
 obtain ⟨_,b1,b2⟩:=qU hb ok;unfold bu at e;split at e
 ·cases e;exact b1
 ·split at e
  ·cases e;exact b2
  ·cases e
end Hu
end Mine
set_option maxHeartbeats 1000000
namespace Mine
namespace Hu
theorem kE {h:List T3} (H:HK h) {t:Nat->Int}:∀ c∈fl (stp h t) h.length,iL h c:=λc hc=>by
 have ok:=H.cok;have n3:=H.n3;obtain ⟨i,hi,hx⟩:=sub_one hc;unfold stp at hx;rcases List.mem_append.mp hx with z | z
 ·split at z
  ·rw [List.mem_singleton.mp z];exact mG (dY (by omega) i)
  ·cases z
 ·split at z
  ·rename_i c0;rw [List.mem_singleton.mp z];intro f hf;obtain ⟨g,x,y,g0,x0,y0,e1,e2,e3⟩:=(qA (ok i) (ok (i+1)) c0).ex;have a1:=hf _ (dY (show 0 < h.length by omega) i);have a2:=hf _ (dY (show 0 < h.length by omega) (i+1))
   have e:g*tl f (mid (cor h i) (cor h (i+1)) (t i) (t (i+1)))=x*tl f (cor h i)+y*tl f (cor h (i+1)):=by
    have:g*tl f (mid (cor h i) (cor h (i+1)) (t i) (t (i+1)))=f.u*(g*(mid (cor h i) (cor h (i+1)) (t i) (t (i+1))).v)+f.v*(g*(mid (cor h i) (cor h (i+1)) (t i) (t (i+1))).w)+f.w*(g*(mid (cor h i) (cor h (i+1)) (t i) (t (i+1))).u):=by simp only [tl];grind
    rw [this,e1,e2,e3];simp only [tl];grind
   have m1:=Int.mul_nonneg x0 a1;have m2:=Int.mul_nonneg y0 a2;exact tP g0 (by rw [e];omega)
  ·cases z
theorem sk {h:List T3} {r X:T3} {t:Nat->Int} (W:Wk h t r X) {s:Int} (et:∀ i,t i=s*tl r (cor h i)):∀ c∈fl (stp h t) h.length,s*tl r c<=0:=λc hc=>by
 obtain ⟨i,hi,hx⟩:=sub_one hc;unfold stp at hx;rcases List.mem_append.mp hx with z | z
 ·split at z
  ·rename_i c0;rw [List.mem_singleton.mp z,<- et i];exact c0
  ·cases z
 ·split at z
  ·rename_i c0;rw [List.mem_singleton.mp z];have:=W.ml i c0;have e:tl r (mid (cor h i) (cor h (i+1)) (t i) (t (i+1)))=0:=this;rw [e];omega
  ·cases z
theorem wk_cut {h:List T3} {r:T3} (H:HK h) {p q:T3} (hp:p∈h) (hq:q∈h) (p0:tl r p < 0) (q0:0 < tl r q):∃ X,Wk h (tv r h) r X/\Wk h (tn r h) r X:=by
 have ok:=H.cok
 have nz:r.u≠0\/r.v≠0\/r.w≠0:=by
  rcases Decidable.em (r.u=0) with z1 | z1
  ·rcases Decidable.em (r.v=0) with z2 | z2
   ·refine .inr (.inr λz3=>?_);unfold tl at p0;rw [z1,z2,z3] at p0;omega
   ·exact .inr (.inl z2)
  ·exact .inl z1
 have xs:∃ X:T3,0 < X.u/\tl r X=0:=by
  refine ⟨⟨tl r q*p.u + -(tl r p)*q.u,tl r q*p.v + -(tl r p)*q.v,tl r q*p.w + -(tl r p)*q.w⟩,?_,?_⟩
  ·show 0 < tl r q*p.u + -(tl r p)*q.u;have:=Int.mul_pos q0 (H.ok p hp).n0;have:=Int.mul_pos (show 0 < -(tl r p) by omega) (H.ok q hq).n0;omega
  ·show r.u*(tl r q*p.v + -(tl r p)*q.v)+r.v*(tl r q*p.w + -(tl r p)*q.w)+r.w*(tl r q*p.u + -(tl r p)*q.u)=0;simp only [tl];grind
 obtain ⟨X,xu,xl⟩:=xs;obtain ⟨W1,W2⟩:=BW ok nz xu xl;exact ⟨X,W1,W2⟩
theorem nA {h:List T3}:∀(rows:List Row) (rs:List T3) (k:Nat) (t:T3),run h rows rs=.mixed k t->(∃ q∈h,0 < tl t q)/\∃ q∈h,tl t q < 0
 | [],rs,k,t,e=>by cases e
 | r::rest,rs,k,t,e=>by
  unfold run at e;cases q:bu h (choice rs r) with
  | some x=>rw [q] at e;exact nA rest _ k t e
  | none =>
   rw [q] at e;injection e with e1 e2
   rw [<- e2];exact iE q
theorem sC {h:List T3} {rows:List Row} {k:Nat} {t:T3} (e:run h rows []=.mixed k t):¬kU t h:=λz=>by
 obtain ⟨⟨a,ha,a0⟩,b,hb,b0⟩:=nA rows [] k t e;rcases z with z | z
 ·have:=z b hb;omega
 ·have:=z a ha;omega
def isFd:Row->Bool
 | .fd _ _ _=>true
 | _=>false
def fds (rows:List Row):Nat:=rows.countP isFd
theorem qz {h:List T3}:∀(rows:List Row) (rs:List T3) (k:Nat) (t:T3),run h rows rs=.mixed k t->∃ i r,rows[i]?=some r/\k=rs.length+i/\isFd r=true
 | [],rs,k,t,e=>by cases e
 | r::rest,rs,k,t,e=>by
  unfold run at e;cases q:bu h (choice rs r) with
  | some x =>
   rw [q] at e;obtain ⟨i,r',h1,h2,h3⟩:=qz rest _ k t e;exact ⟨i+1,r',by simpa using h1,by rw [h2,List.length_append,List.length_singleton];omega,h3⟩
  | none =>
   rw [q] at e;injection e with e1 e2
   refine ⟨0,r,rfl,by omega,?_⟩;cases r with
   | fd _ _ _=>rfl
   | lf k' =>
    obtain ⟨⟨a,_,a0⟩,_⟩:=iE q;have:tl z0 a=0:=pL a;have a0':0 < tl z0 a:=a0;omega
   | nt i =>
    obtain ⟨⟨a,_,a0⟩,_⟩:=iE q;have:tl z0 a=0:=pL a;have a0':0 < tl z0 a:=a0;omega
theorem ED {rows:List Row} {k:Nat} {r:Row} (h:rows[k]?=some r) (f:isFd r=true):fds (rows.drop k)=fds (rows.drop (k+1))+1:=by
 have hk:k < rows.length:=(List.getElem?_eq_some_iff.mp h).1
 have e:rows.drop k=r::rows.drop (k+1):=by
  rw [List.drop_eq_getElem_cons hk];rw [List.getElem?_eq_getElem hk] at h;cases h
  rfl
 rw [e];unfold fds;rw [List.countP_cons_of_pos f]
theorem qN {rows:List Row} {i j:Nat} (h:i<=j):fds (rows.drop j)<=fds (rows.drop i):=by
 have e:rows.drop j=(rows.drop i).drop (j - i):=by rw [List.drop_drop];congr 1;omega
 rw [e];exact (List.drop_sublist _ _).countP_le
theorem CW {h:List T3}:∀(rows:List Row) (rs:List T3),Rb rs->(∀(i:Nat) (r:Row),rows[i]?=some r->r.Ok (rs.length+i))->(∀ k t,run h rows rs=.mixed k t->R3 (k+1) t)/\∀ out,run h rows rs=.rules out->Rb out/\out.length=rs.length+rows.length
 | [],rs,hb,_=>⟨λk t e=>(by cases e),λout e=>(by cases e;exact ⟨hb,by simp⟩)⟩
 | r::rest,rs,hb,ok=>by
  have o0:r.Ok rs.length:=by have:=ok 0 r rfl;rwa [Nat.add_zero] at this
  have cb:=qU hb o0;cases q:bu h (choice rs r) with
  | none =>
   refine ⟨λk t e=>?_,λout e=>?_⟩
   ·unfold run at e;rw [q] at e;injection e with e1 e2
    rw [<- e2,<- e1];exact cb.1
   ·unfold run at e;rw [q] at e;cases e
  | some x =>
   have hx:=wQ hb o0 q;obtain ⟨i1,i2⟩:=CW (h:=h) rest (rs++[x]) (zD hb hx) (λi r' hr=>by have:=ok (i+1) r' (by simpa using hr);rw [List.length_append,List.length_singleton];rwa [show rs.length+1+i=rs.length+(i+1) by omega]);refine ⟨λk t e=>?_,λout e=>?_⟩
   ·unfold run at e;rw [q] at e;exact i1 k t e
   ·unfold run at e;rw [q] at e;obtain ⟨j1,j2⟩:=i2 out e;exact ⟨j1,by rw [j2,List.length_append,List.length_singleton,List.length_cons];omega⟩
inductive Tc where
 | leaf
 | cut (r:T3) (l g:Tc)
def Tc.gZ:Tc->Nat
 | .leaf=>0
 | .cut _ l g=>1+l.gZ+g.gZ
end Hu
namespace Hu
theorem gZ {bb:Nat} {h:List T3} (H:HKg bb h) {r:T3} (hr:R3 bb r) (n:¬kU r h):Cut bb h r:=by
 have a:∃ p∈h,tl r p < 0:=Decidable.byContradiction λz=>n (.inl λp hp=>by
  rcases Int.lt_or_le (tl r p) 0 with y | y
  ·exact absurd ⟨p,hp,y⟩ z
  ·exact y)
 have b:∃ p∈h,0 < tl r p:=Decidable.byContradiction λz=>n (.inr λp hp=>by
  rcases Int.lt_or_le 0 (tl r p) with y | y
  ·exact absurd ⟨p,hp,y⟩ z
  ·exact y)
 obtain ⟨p,hp,p0⟩:=a;obtain ⟨q,hq,q0⟩:=b;exact Af H hr hp hq p0 q0
namespace Tc
def deep:Tc->Nat
 | leaf=>0
 | cut _ l g=>max l.deep g.deep+1
def size:Tc->Nat
 | leaf=>1
 | cut _ l g=>l.size+g.size+1
def Sm (b:Nat):Tc->Prop
 | leaf=>True
 | cut r l g=>R3 b r/\l.Sm b/\g.Sm b
theorem Sm.mono {a b:Nat} (h:a<=b):∀{t:Tc},t.Sm a->t.Sm b
 | leaf,_=>trivial
 | cut r l g,⟨x,y,z⟩=>⟨x.mono h,Sm.mono h y,Sm.mono h z⟩
theorem size_pos:∀ t:Tc,0 < t.size
 | leaf=>by decide
 | cut _ l g=>by simp only [size];omega
theorem size_le:∀{t:Tc} {d:Nat},t.deep<=d->t.size+1<=2 ^ (d+1)
 | leaf,d,_=>by
  have:=Nat.one_le_two_pow (n:=d);simp only [size];rw [Nat.pow_succ];omega
 | cut r l g,0,h=>by simp only [deep] at h;omega
 | cut r l g,d+1,h=>by
  simp only [deep] at h;have a:=size_le (t:=l) (d:=d) (by omega);have b:=size_le (t:=g) (d:=d) (by omega);simp only [size];rw [Nat.pow_succ];omega
open Classical in
def told:Tc->List T3->Option (List (List T3))
 | leaf,h=>some [h]
 | cut r l g,h=>if kU r h then none else match l.told (low r h),g.told (high r h) with
  | some a,some b=>some (a++b)
  | _,_=>none
theorem gU {bb:Nat}:∀{t:Tc} {h:List T3} {L:List (List T3)},HKg bb h->t.Sm bb->t.told h=some L->∀ g∈L,HKg bb g/\g.length<=h.length+t.deep
 | leaf,h,L,H,_,e,g,hg=>by
  cases e
  rw [List.mem_singleton.mp hg];exact ⟨H,Nat.le_add_right _ _⟩
 | cut r l g,h,L,H,sm,e,x,hx=>by
  unfold told at e;split at e
  ·cases e
  ·rename_i nc;have c:=Hu.gZ H sm.1 nc;cases ea:l.told (low r h) with
   | none=>rw [ea] at e;cases e
   | some a=>cases eb:g.told (high r h) with
    | none=>rw [ea,eb] at e;cases e
    | some b =>
     rw [ea,eb] at e;cases e
     have l1:=c.ll;have l2:=c.lh;rcases List.mem_append.mp hx with z | z
     ·have:=gU c.lo sm.2.1 ea x z;exact ⟨this.1,by simp only [deep];have:=this.2;omega⟩
     ·have:=gU c.hi sm.2.2 eb x z;exact ⟨this.1,by simp only [deep];have:=this.2;omega⟩
def eI:List (Tc×List T3)->Option (List (List T3))
 | []=>some []
 | (t,h)::r=>match t.told h,eI r with
  | some a,some b=>some (a++b)
  | _,_=>none
theorem xA (h:List T3) (r:List (Tc×List T3)):eI ((leaf,h)::r)=(eI r).map (h::·):=by
 simp only [eI,told];cases eI r <;> rfl
theorem Ca {q:T3} {l g:Tc} {h:List T3} (n:kU q h) (r:List (Tc×List T3)):eI ((cut q l g,h)::r)=none:=by
 simp only [eI,told,if_pos n]
theorem Au {q:T3} {l g:Tc} {h:List T3} (n:¬kU q h) (r:List (Tc×List T3)):eI ((cut q l g,h)::r)=eI ((l,low q h)::(g,high q h)::r):=by
 simp only [eI,told,if_neg n];cases l.told (low q h) with
 | none=>rfl
 | some a=>cases g.told (high q h) with
  | none=>cases eI r <;> rfl
  | some b=>cases eI r with
   | none=>rfl
   | some c=>simp only [List.append_assoc]
end Tc
theorem CU {h:List T3}:∀(rows:List Row) (rs:List T3) (k:Nat) (t:T3),run h rows rs=.mixed k t->rs.length<=k
 | [],rs,k,t,e=>by cases e
 | r::rest,rs,k,t,e=>by
  unfold run at e;cases q:bu h (choice rs r) with
  | some x =>
   rw [q] at e;have:=CU rest _ k t e;rw [List.length_append] at this;exact Nat.le_of_succ_le this
  | none=>rw [q] at e;injection e with e1 _;omega
theorem yz {g:List T3} {c:T3×T3×T3} (h:(∀ q∈g,tl c.1 q<=0)\/∀ q∈g,0<=tl c.1 q):∃ x,bu g c=some x:=by
 unfold bu;split
 ·exact ⟨_,rfl⟩
 ·rename_i n;rcases h with z | z
  ·exact absurd z n
  ·rw [if_pos z];exact ⟨_,rfl⟩
theorem wO {h:List T3} {c:T3×T3×T3} {x:T3} (e:bu h c=some x):(∀ q∈h,tl c.1 q<=0)\/∀ q∈h,0<=tl c.1 q:=by
 unfold bu at e;split at e
 ·rename_i z;exact .inl z
 ·split at e
  ·rename_i z;exact .inr z
  ·cases e
theorem zB {h g:List T3} (s:∀ c∈g,iL h c):∀(rows:List Row) (rs rs':List T3),rs.length=rs'.length->(∀ p,iL g p->tv2 rs p=tv2 rs' p)->∀ k' t',run g rows rs'=.mixed k' t'->∃ k t,run h rows rs=.mixed k t/\k<=k'
 | [],rs,rs',_,_,k',t',e'=>by cases e'
 | r::rest,rs,rs',el,et,k',t',e'=>by
  have tt:∀ c∈g,tl (choice rs r).1 c=tl (choice rs' r).1 c:=λc hc=>by rw [fR,fR,et c (mG hc)]
  cases q:bu h (choice rs r) with
  | none =>
   refine ⟨rs.length,(choice rs r).1,by unfold run;rw [q],?_⟩;rw [el];exact CU _ _ _ _ e'
  | some x =>
   have sg:(∀ c∈g,tl (choice rs' r).1 c<=0)\/∀ c∈g,0<=tl (choice rs' r).1 c:=by
    rcases wO q with z | z
    ·exact .inl λc hc=>by rw [<- tt c hc];exact (s c hc).le z
    ·exact .inr λc hc=>by rw [<- tt c hc];exact (s c hc) _ z
   obtain ⟨x',q'⟩:=yz sg;unfold run at e';rw [q'] at e';obtain ⟨k,t,e,l⟩:=zB s rest (rs++[x]) (rs'++[x']) (by simp [el]) (λp C=>by rw [lO,lO,et p C,hE q (C.sub s),hE q' C,et p C]) k' t' e';exact ⟨k,t,by unfold run;rw [q];exact e,l⟩
def need (h:List T3) (rows:List Row):Nat:=match run h rows [] with
 | .rules _=>0
 | .mixed k _=>fds (rows.drop k)
theorem need_le (h:List T3) (rows:List Row):need h rows<=fds rows:=by
 unfold need;split
 ·exact Nat.zero_le _
 ·rename_i k t _;have:=qN (rows:=rows) (Nat.zero_le k);simpa using this
theorem wa {h g:List T3} (s:∀ c∈g,iL h c) (rows:List Row):need g rows<=need h rows:=by
 unfold need;cases e:run g rows [] with
 | rules rs=>exact Nat.zero_le _
 | mixed k' t' =>
  obtain ⟨k,t,e2,l⟩:=zB s rows [] [] rfl (λ_ _=>rfl) k' t' e;rw [e2];exact qN l
theorem wc {h g:List T3} (s:∀ c∈g,iL h c) {rows:List Row} {k:Nat} {t:T3} (e:run h rows []=.mixed k t) (hs:(∀ c∈g,tl t c<=0)\/∀ c∈g,0<=tl t c):need g rows+1<=need h rows:=by
 obtain ⟨i,r,hr,ek,fr⟩:=qz rows [] k t e;have ek:k=i:=by rw [ek];simp
 subst ek;have fk:=ED hr fr;unfold need;rw [e];cases e':run g rows [] with
 | rules rs=>show 0+1<=fds (rows.drop k);omega
 | mixed k' t' =>
  have:=vE s rows [] [] rfl (λ_ _=>rfl) k t e hs k' t' e';have:=qN (rows:=rows) (show k+1<=k' by omega);show fds (rows.drop k')+1<=fds (rows.drop k);omega
structure TnL (Ls:List (List Row)) (d:Nat) (h:List T3):Prop where
 hk:HK h
 ln:h.length+d<=20
 nd:(Ls.map (need h)).sum<=d
theorem xD {α:Type} {f g:α->Nat}:∀(l:List α),(∀ x∈l,f x<=g x)->(l.map f).sum<=(l.map g).sum
 | [],_=>Nat.le_refl _
 | a::l,h=>by
  have:=h a List.mem_cons_self;have:=xD l λx hx=>h x (List.mem_cons_of_mem _ hx);simp only [List.map_cons,List.sum_cons];omega
theorem xC {α:Type} {f g:α->Nat}:∀(l:List α) {x:α},(∀ x∈l,f x<=g x)->x∈l->f x+1<=g x->(l.map f).sum+1<=(l.map g).sum
 | a::l,x,h,hx,k=>by
  have h1:=h a List.mem_cons_self;have h2:=λx hx=>h x (List.mem_cons_of_mem a hx);simp only [List.map_cons,List.sum_cons];rcases List.mem_cons.mp hx with rfl | z
  ·have:=xD l h2;omega
  ·have:=xC l h2 z k;omega
theorem TnL.cut {Ls:List (List Row)} {d:Nat} {h:List T3} (T:TnL Ls d h) {rows:List Row} (hm:rows∈Ls) (ok:∀(i:Nat) (r:Row),rows[i]?=some r->r.Ok i) (few:rows.length<=60) {k:Nat} {t:T3} (e:run h rows []=.mixed k t):R3 61 t/\∃ d',d=d'+1/\TnL Ls d' (low t h)/\TnL Ls d' (high t h):=by
 obtain ⟨i,r,hr,ek,fr⟩:=qz rows [] k t e;have ek:k=i:=by rw [ek];simp
 subst ek;have hk:k < rows.length:=(List.getElem?_eq_some_iff.mp hr).1;have bt:R3 61 t:=((CW (h:=h) rows [] (λ_ _ z=>by simp at z) (λi r hr=>by simpa using ok i r hr)).1 k t e).mono (by omega);obtain ⟨⟨p2,hp2,ep2⟩,p1,hp1,ep1⟩:=nA rows [] k t e;have cut:=Af T.hk (bt.mono (by decide)) hp1 hp2 ep1 ep2;obtain ⟨X,W1,W2⟩:=wk_cut T.hk hp1 hp2 ep1 ep2;have e1:∀ i,tv t h i=1*tl t (cor h i):=λi=>(Int.one_mul _).symm;have e2:∀ i,tn t h i = -1*tl t (cor h i):=λi=>by show - tl t _=_;omega
 have t1:=sk W1 e1;have t2:=sk W2 e2;have c1:∀ c∈low t h,iL h c:=kE T.hk;have c2:∀ c∈high t h,iL h c:=kE T.hk;have l1:=cut.ll;have l2:=cut.lh;have ln:=T.ln;have nd:=T.nd;have n1:=xC (f:=need (low t h)) (g:=need h) Ls (λx _=>wa c1 x) hm (wc c1 e (.inl λc hc=>by have:=t1 c hc;omega));have n2:=xC (f:=need (high t h)) (g:=need h) Ls (λx _=>wa c2 x) hm (wc c2 e (.inr λc hc=>by have:=t2 c hc;omega));exact ⟨bt,d - 1,by omega,⟨cut.lo,by omega,by omega⟩,⟨cut.hi,by omega,by omega⟩⟩
end Hu
namespace Hu
end Hu
end Mine
set_option maxHeartbeats 4000000
namespace L2
open PySem PySem.Spec PyProof.Rows
def aO:TS:=λ_ _ _=>False
theorem ps_dead {X:Cx} {s:Stmt}:PS X s aO:=λ_ _ _ _ _ _ h=>h.elim
section
variable {X:Cx} {pins:List (Addr×Obj)} {σ:St} {H:Hp} {s:Shared} {scope:Scope} {cl:List (Str×Addr)} {x:Str} {js:List Nat} {fp:List Addr}
end
section
variable {X:Cx} {elt iter:Expr} {x:Str} {px pos:Pos} {ifs:List Expr} {scope:Scope} {cl:List (Str×Addr)} {wi:TI} {tc:TT} {te:TE} {js:List Nat}
end
open PySem.Calls PySem.W
section
variable {P:Program} {w:World} {K:W.Frag} {mg:Str->Option Value} {base:Heap} {N:List Str} {qual:Str} {scope:Scope} {f:Addr} {cd:Value} {A:Around} {outer:List Env} {s:Shared} {H:Hp} {E:XK}
theorem Dy:Passes (CXr P w) (eO (CXr P w) P w K mg base N qual scope f cd A outer s H E) E:=by
 intro pins σ H1 s1 e s' I hq;obtain ⟨ea,C,H2,rfl,⟨t,B,ho,hgn,un,hok,fl,h0,h1,cov⟩,q⟩:=hq;have hthere:∀ b o,s.heap.get? b=some o->∃ o',s1.heap.get? b=some o':=λb o z=>I.base.there b o z (λz=>nomatch z);show wpAny (model P w) (A.deeper (envOfC qual scope s.heap.objs.size f cd)) (leaving (envOfC qual scope s.heap.objs.size f cd) (.ref ea)) _ _ _;refine wpAny_leaves_onW I.ok.frames rfl fl λg fl2 up=>?_;have I2:Inv (eO (CXr P w) P w K mg base N qual scope f cd A outer s H E) pins σ H2 {s' with heap:=g,toks:=s'.toks}:=I.caught (C:=C) (ea:=ea) (t:=ea) ho hgn un hok cov fl2.1 up
 have new:s.heap.get? ea=none:=by
  cases z:s.heap.get? ea with
  | none=>rfl
  | some o=>obtain ⟨o',e'⟩:=hthere ea o z;rw [h1] at e';cases e'
 refine ⟨ea,C,H2,rfl,⟨t,B,I2.os,I2.bare,I2.base,I2.hok,fl2,h0,new,λb o z n hb=>?_⟩,q⟩
 have nf:b ∉ frs (envOfC qual scope s.heap.objs.size f cd::outer):=λk=>by
  rcases hb with ⟨u,hu⟩ | ⟨o',ho'⟩
  ·have:=I2.stkFree b k;rw [hu] at this;cases this
  ·exact (List.mem_cons.mp (I.stkSub b k)).elim (λy=>absurd (Nat.lt_of_lt_of_le (Heap.lt_size ho') I.ok.above) (by rw [y];exact Nat.lt_irrefl _)) n
 have key:(∃ o1,s'.heap.get? b=some o1)/\((∃ u,H2 b=some u)\/∃ o',s1.heap.get? b=some o'):=by
  rcases hb with ⟨u,hu⟩ | ⟨o',ho'⟩
  ·exact ⟨(hok b u hu).there,.inl ⟨u,hu⟩⟩
  ·obtain ⟨o2,e2⟩:=hthere b o' ho';exact ⟨un.there b o2 e2 (λz=>nomatch z),.inr ⟨o2,e2⟩⟩
 obtain ⟨⟨o1,e1⟩,k2⟩:=key;have e2:=cov b o1 e1 nf k2;have e3:=fl2.1 b o1 e2;have e4:some o=some o1:=z.symm.trans e3;cases e4
 exact e2
theorem bX {n:Nat} {x:Str} {ps:List Str} {sp:Sp} {e:Expr} {es:List Expr} {t:TA} {p pos:Pos} (D:cy P w K mg base n x ps sp) (hr:dj n (eO (CXr P w) P w K mg base N qual scope f cd A outer s H E).A) (hg:Gl (eO (CXr P w) P w K mg base N qual scope f cd A outer s H E) x) (ha:PA (eO (CXr P w) P w K mg base N qual scope f cd A outer s H E) (e::es) t)
  (hdb:(x == ("__debug__":Str))=false:=by decide) (he:starEach (e::es) (envOfC qual scope s.heap.objs.size f cd)=(false,eval e (envOfC qual scope s.heap.objs.size f cd))::starEach es (envOfC qual scope s.heap.objs.size f cd):=by rfl) (hpl:(backTo pos (starEach es (envOfC qual scope s.heap.objs.size f cd))).any (·.1)=false:=by rfl) :
  PE (eO (CXr P w) P w K mg base N qual scope f cd A outer s H E) (.Call (.Name x p) (e::es) [] pos) (pM sp [] E t):=by
 obtain ⟨g,fd,F,b,kp,m⟩:=D.ex;exact tV F hr hg m kp b .nil Dy ha hdb he hpl
end
variable {X:Cx}
def plainArg (e:Expr):Bool:=match e with
 | .Starred _ _=>false
 | _=>true
theorem kW {e:Expr} {es:List Expr} {env:Env} (h:plainArg e=true):starEach (e::es) env=(false,eval e env)::starEach es env:=by
 cases e <;> first | rfl | cases h
theorem paS {e:Expr} {es:List Expr} {te:TE} {t:TA} (ha:PE X e te) (hr:PA X es t) (h:plainArg e=true:=by rfl):PA X (e::es) (dN te t):=aa ha hr (kW h)
section
variable {prog:Program} {w:World} {A:Around} {E:Value->Shared->Prop} {h:Heap} {g:Array GenState} {d:Drawn} {t:Nat} {os:OsState}
variable {C fI:Addr} {bmB:List Value} {B newId initId:String}
end
section
variable {M:Model} {A:Around} {E:Value->Shared->Prop} {s:Shared} {base:Heap} {env:Env} {outer l:List Env} {L e:Addr} {cl fl:Value} {dc:Option Addr} {Q:Unit->Shared->Prop}
end
open PySem.Builtin PySem.Builtin.ObjectAttr
section
variable {prog:Program} {w:World} {A:Around} {s:Shared} {K:Frag} {x C:Addr} {ox:Obj} {od:Option Obj} {name:Str} {v:Value}
end
section
variable {P:Program} {w:World} {H:Hp} {h:Heap} {e C d:Addr} {dc:Option Addr} {fs:List (Str×V)}
end
section
variable {X:Cx} {pins:List (Addr×Obj)} {σ:St} {H:Hp} {s:Shared} {a C d:Addr} {fs:List (Str×V)} {f:Str} {y:V} {u:Value} {A:Around} {E:Value->Shared->Prop} {Q:Unit->Shared->Prop}
end
section
variable {X:Cx} {k:Nat} {f C:Addr} {fd:FuncData} {ps:List Str} {sp:Sp} {x:Str} {p pos:Pos} {e:Expr} {es:List Expr} {t:TA}
end
section
variable {P:Program} {w:World} {K:W.Frag} {mg:Str->Option Value} {base:Heap} {N:List Str} {qual:Str} {scope:Scope} {f:Addr} {cd:Value} {A:Around} {outer:List Env} {s:Shared} {H:Hp} {E:XK}
end
open PySem.Builtin.Getset_descriptor
section
variable {P:Program} {w:World} {K:W.Frag} {mg:Str->Option Value} {base:Heap} {N:List Str} {qual:Str} {scope:Scope} {f:Addr} {cd:Value} {A:Around} {outer:List Env} {s:Shared} {H:Hp} {E:XK}
end
section
variable {X:Cx}
end
section
variable {P:Program} {w:World} {K:W.Frag} {mg:Str->Option Value} {base:Heap} {N:List Str} {qual:Str} {scope:Scope} {f:Addr} {cd:Value} {A:Around} {outer:List Env} {s:Shared} {H:Hp} {E:XK}
end
section
variable {P:Program} {w:World} {K:W.Frag} {mg:Str->Option Value} {base:Heap} {N:List Str} {qual:Str} {scope:Scope} {f:Addr} {cd:Value} {A:Around} {outer:List Env} {s:Shared} {H:Hp} {E:XK}
end
end L2
namespace Mine
open PySem L2
def top (i:Nat):Stmt:=PySem.Challenge.pw_leansay_k56_too_many_folds.main.body.getD i (.Pass ⟨0,0,0,0⟩)
abbrev cf:Stmt:=inClass (top 24) 0
abbrev cB:Stmt:=inClass (top 24) 1
abbrev fm:Stmt:=inClass (top 24) 2
abbrev kP:Stmt:=inClass (top 24) 3
abbrev gN:Stmt:=inClass (top 24) 4
abbrev jU:Stmt:=inClass (top 24) 5
abbrev cO:Stmt:=inClass (top 24) 6
abbrev cM:Stmt:=inClass (top 25) 0
abbrev gi:Stmt:=inClass (top 25) 1
abbrev cE:Stmt:=inClass (top 26) 0
abbrev ft:Stmt:=inClass (top 26) 1
abbrev gk:Stmt:=inClass (top 27) 0
abbrev bL:Stmt:=inClass (top 27) 1
abbrev cP:Stmt:=inClass (top 27) 2
abbrev jo:Stmt:=inClass (top 28) 0
abbrev gh:Stmt:=inClass (top 28) 1
abbrev dE:Stmt:=inClass (top 28) 2
abbrev gW:Stmt:=inClass (top 28) 3
abbrev iB:Stmt:=inClass (top 28) 4
abbrev iC:Stmt:=inClass (top 29) 0
abbrev fq:Stmt:=inClass (top 29) 1
abbrev gq:Stmt:=inClass (top 29) 2
abbrev gX:Stmt:=inClass (top 29) 3
abbrev cV:Stmt:=inClass (top 30) 0
abbrev gj:Stmt:=inClass (top 30) 1
abbrev cW:Stmt:=inClass (top 31) 0
abbrev gp:Stmt:=inClass (top 31) 1
abbrev cw:Stmt:=inClass (top 32) 0
abbrev dU:Stmt:=inClass (top 32) 1
abbrev cD:Stmt:=inClass (top 33) 0
abbrev eV:Stmt:=inClass (top 33) 1
abbrev cN:Stmt:=inClass (top 34) 0
abbrev fo:Stmt:=inClass (top 34) 1
abbrev sLaid:Stmt:=fm
abbrev sOut:Stmt:=gN
abbrev gM:Stmt:=top 8
abbrev lx:Stmt:=top 9
abbrev tF:Stmt:=top 10
abbrev xI:Stmt:=top 11
abbrev mh:Stmt:=top 13
abbrev nq:Stmt:=top 14
abbrev cC:Stmt:=top 15
abbrev bU:Stmt:=top 16
abbrev jR:Stmt:=top 17
abbrev lg:Stmt:=top 19
abbrev eY:Stmt:=top 20
abbrev gJ:Stmt:=top 21
abbrev tE:Stmt:=top 22
abbrev fU:Stmt:=top 36
abbrev qi:Stmt:=top 42
abbrev iU:Stmt:=top 43
abbrev jP:Stmt:=top 44
abbrev iG:Stmt:=top 45
abbrev jT:Stmt:=top 46
abbrev jS:Stmt:=top 47
abbrev gH:Stmt:=top 48
abbrev lj:Stmt:=top 52
abbrev fZ:Stmt:=top 53
abbrev nj:Stmt:=top 54
abbrev ky:Stmt:=top 55
abbrev ig:Stmt:=top 56
abbrev cU:Stmt:=top 57
abbrev bD:Stmt:=top 58
abbrev gK:Stmt:=top 59
abbrev de:Stmt:=top 60
abbrev s_holds : Stmt := top 61
abbrev s_holds_for_both : Stmt := top 62
abbrev gf:Stmt:=top 65
abbrev mj:Stmt:=top 66
abbrev jn:Stmt:=top 67
abbrev gF:Stmt:=top 68
abbrev cA:Stmt:=top 69
abbrev kZ:Stmt:=top 70
abbrev kY:Stmt:=top 71
abbrev cH:Stmt:=top 72
abbrev jm:Stmt:=top 73
abbrev fj:Stmt:=top 74
abbrev tG:Stmt:=top 76
abbrev pC:Stmt:=top 77
abbrev AH:Stmt:=top 79
abbrev tH:Stmt:=top 79
abbrev CO:Stmt:=top 80
abbrev sNext:Stmt:=top 80
abbrev xJ:Stmt:=top 81
abbrev zu:Stmt:=top 81
abbrev nu:Stmt:=top 82
abbrev nv:Stmt:=top 83
abbrev jQ:Stmt:=top 84
abbrev vC:Stmt:=top 85
abbrev sLaw:Stmt:=top 85
variable {P:Program} {w:World} {K:W.Frag} {mg:Str->Option Value} {base:Heap}
theorem qf:aE ["self","name"] ["self","name"] (ak gk):=L2.fsc rfl (by decide+kernel)
theorem xZ {x:Str} {C:Addr} (T:MkF K mg x C "Letter.__init__" gk) (n:fK K C "name"):mL P w K mg base x C 1 ["self","name"] (ko C mC):=by
 refine Eb T qf (λ_ _ _ _ _ _=>L2.ar2 λ_ _=>rfl) ?_ ?_
 ·walk_at "i1";obtain ⟨a,dx,y,rfl,e,q⟩:=h;rfl
 walk_at "i2";obtain ⟨a,dx,y,rfl,e,q⟩:=h;have nd:=qf.nd;refine ⟨_,(aq (tO (pv 0) (pv 1) rfl)),?_⟩;exact ⟨_,rfl,_,rfl,a,C,dx,[],rfl,e,T.cl,n,(by show 0 < 1000;decide),q⟩
theorem zr:aE ["self","part"] ["self","part"] (ak jo):=L2.fsc rfl (by decide+kernel)
theorem ok_iNot {x:Str} {C:Addr} (T:MkF K mg x C "Not.__init__" jo) (n:fK K C "part"):mL P w K mg base x C 1 ["self","part"] (ko C qO):=by
 refine Eb T zr (λ_ _ _ _ _ _=>L2.ar2 λ_ _=>rfl) ?_ ?_
 ·walk_at "i1";obtain ⟨a,dx,y,rfl,e,q⟩:=h;rfl
 walk_at "i2";obtain ⟨a,dx,y,rfl,e,q⟩:=h;have nd:=zr.nd;refine ⟨_,(aq (tO (pv 0) (pv 1) rfl)),?_⟩;exact ⟨_,rfl,_,rfl,a,C,dx,[],rfl,e,T.cl,n,(by show 0 < 1000;decide),q⟩
theorem vz:aE ["self","one","other"] ["self","one","other"] (ak iC):=L2.fsc rfl (by decide+kernel)
theorem DM {x:Str} {C:Addr} (T:MkF K mg x C "Fold.__init__" iC) (n:fK K C "one") (n':fK K C "other"):mL P w K mg base x C 1 ["self","one","other"] (kj C):=by
 refine Eb T vz (λ_ _ _ _ _ _=>L2.ar3 λ_ _ _=>rfl) ?_ ?_
 ·walk_at "i1";obtain ⟨a,dx,y,z,rfl,e,q⟩:=h;rfl
 walk_at "i2";obtain ⟨a,dx,y,z,rfl,e,q⟩:=h;have nd:=vz.nd
 refine ⟨_,(ae (tO (pv 0) (pv 1) rfl)
  (aq (tO (pv 0) (pv 2) rfl))),?_⟩
 refine ⟨_,rfl,_,rfl,a,C,dx,[],rfl,e,T.cl,n,(by show 0 < 1000;decide),?_⟩;refine ⟨_,rfl,_,rfl,a,C,dx,_,rfl,af,T.cl,n',(by show 1 < 1000;decide),?_⟩;rw [Dn,pe];exact q
theorem sc_mS:aE ["self"] ["self"] (ak cf):=L2.fsc rfl (by decide+kernel)
theorem zM {c:CCs} {C:Addr} {t:Tr} (T:aU K C "made_of" "Saying.made_of" cf) (ht:t.kids=[]):aQ P w K mg base C "made_of" 1 ["self"] (sZ c t):=by
 refine bz T sc_mS (λ_ _ _ _ _ _=>L2.ar1 λ_=>rfl) ?_ ?_
 ·walk_at "i1";obtain ⟨a,rfl,o,q⟩:=h;rfl
 walk_at "i2";obtain ⟨a,rfl,o,q⟩:=h;have nd:=sc_mS.nd;refine ⟨_,(aq (aD (bO ah))),?_⟩;refine ⟨(by show 0<=sizeLine;decide),λl hl=>q l [] hl ?_⟩;rw [ht];exact .nil
theorem zo:aE ["self"] ["self"] (ak gh):=L2.fsc rfl (by decide+kernel)
theorem ok_mNot {c:CCs} {t:Tr} (T:aU K c.no "made_of" "Not.made_of" gh) (F:Fx K c):aQ P w K mg base c.no "made_of" 1 ["self"] (sZ c (.no t)):=by
 refine bz T zo (λ_ _ _ _ _ _=>L2.ar1 λ_=>rfl) ?_ ?_
 ·walk_at "i1";obtain ⟨a,rfl,o,q⟩:=h;rfl
 walk_at "i2";obtain ⟨a,rfl,o,q⟩:=h;have nd:=zo.nd;refine ⟨_,(aq (aD (bO (aa (iI (pv 0) rfl) ah)))),?_⟩;cases o with
 | no e o =>
  refine ⟨_,rfl,a,c.no,_,_,_,rfl,e,T.cl,F.nPart,sE _,(by show 1<=sizeLine;decide),λl hl=>q l _ hl ?_⟩;exact .cons ⟨_,rfl,o⟩ .nil
theorem vv:aE ["self"] ["self"] (ak fq):=L2.fsc rfl (by decide+kernel)
theorem DK {c:CCs} {u:W5} {t t':Tr} (T:aU K (c.fold u) "made_of" "Fold.made_of" fq) (F:Fx K c):aQ P w K mg base (c.fold u) "made_of" 1 ["self"] (sZ c (.fold u t t')):=by
 refine bz T vv (λ_ _ _ _ _ _=>L2.ar1 λ_=>rfl) ?_ ?_
 ·walk_at "i1";obtain ⟨a,rfl,o,q⟩:=h;rfl
 walk_at "i2";obtain ⟨a,rfl,o,q⟩:=h;have nd:=vv.nd;refine ⟨_,(aq (aD (bO (aa (iI (pv 0) rfl) (aa (iI (pv 0) rfl) ah))))),?_⟩;cases o with
 | fold e o o' =>
  refine ⟨_,rfl,a,_,_,_,_,rfl,e,T.cl,F.nOne u,wA _ _,_,rfl,a,_,_,_,_,rfl,e,T.cl,F.nOther u,qD _ _,(by show 2<=sizeLine;decide),λl hl=>q l _ hl ?_⟩;exact .cons ⟨_,rfl,o⟩ (.cons ⟨_,rfl,o'⟩ .nil)
theorem rW:aE ["self"] ["self"] (ak cM):=L2.fsc rfl (by decide+kernel)
theorem AO {c:CCs} {C:Addr} (T:aU K C "making_word" "Never.making_word" cM):aQ P w K mg base C "making_word" 1 ["self"] (fg c .never):=by
 refine bz T rW (λ_ _ _ _ _ _=>L2.ar1 λ_=>rfl) ?_ ?_
 ·walk_at "i1";obtain ⟨a,rfl,o,q⟩:=h;rfl
 walk_at "i2";obtain ⟨a,rfl,o,q⟩:=h;have nd:=rW.nd;refine ⟨_,(aq (aD aR)),?_⟩;exact q
theorem pX:aE ["self"] ["self"] (ak cE):=L2.fsc rfl (by decide+kernel)
theorem xV {c:CCs} {C:Addr} (T:aU K C "making_word" "Always.making_word" cE):aQ P w K mg base C "making_word" 1 ["self"] (fg c .always):=by
 refine bz T pX (λ_ _ _ _ _ _=>L2.ar1 λ_=>rfl) ?_ ?_
 ·walk_at "i1";obtain ⟨a,rfl,o,q⟩:=h;rfl
 walk_at "i2";obtain ⟨a,rfl,o,q⟩:=h;have nd:=pX.nd;refine ⟨_,(aq (aD aR)),?_⟩;exact q
theorem CK:aE ["self"] ["self"] (ak bL):=L2.fsc rfl (by decide+kernel)
theorem ok_wLp {c:CCs} (T:aU K c.le "making_word" "Letter.making_word" bL) (F:Fx K c):aQ P w K mg base c.le "making_word" 1 ["self"] (fg c .lp):=by
 refine bz T CK (λ_ _ _ _ _ _=>L2.ar1 λ_=>rfl) ?_ ?_
 ·walk_at "i1";obtain ⟨a,rfl,o,q⟩:=h;rfl
 walk_at "i2";obtain ⟨a,rfl,o,q⟩:=h;have nd:=CK.nd;refine ⟨_,(aq (aD (iI (pv 0) rfl))),?_⟩;cases o with
 | lp e=>exact ⟨_,rfl,a,_,_,_,_,rfl,e,T.cl,F.nName,kF _,q⟩
theorem CJ:aE ["self"] ["self"] (ak bL):=L2.fsc rfl (by decide+kernel)
theorem ok_wLq {c:CCs} (T:aU K c.le "making_word" "Letter.making_word" bL) (F:Fx K c):aQ P w K mg base c.le "making_word" 1 ["self"] (fg c .lq):=by
 refine bz T CJ (λ_ _ _ _ _ _=>L2.ar1 λ_=>rfl) ?_ ?_
 ·walk_at "i1";obtain ⟨a,rfl,o,q⟩:=h;rfl
 walk_at "i2";obtain ⟨a,rfl,o,q⟩:=h;have nd:=CJ.nd;refine ⟨_,(aq (aD (iI (pv 0) rfl))),?_⟩;cases o with
 | lq e=>exact ⟨_,rfl,a,_,_,_,_,rfl,e,T.cl,F.nName,kF _,q⟩
theorem zi:aE ["self"] ["self"] (ak dE):=L2.fsc rfl (by decide+kernel)
theorem ok_wNot {c:CCs} {C:Addr} {t:Tr} (T:aU K C "making_word" "Not.making_word" dE):aQ P w K mg base C "making_word" 1 ["self"] (fg c (.no t)):=by
 refine bz T zi (λ_ _ _ _ _ _=>L2.ar1 λ_=>rfl) ?_ ?_
 ·walk_at "i1";obtain ⟨a,rfl,o,q⟩:=h;rfl
 walk_at "i2";obtain ⟨a,rfl,o,q⟩:=h;have nd:=zi.nd;refine ⟨_,(aq (aD aR)),?_⟩;exact q
theorem vj:aE ["self"] ["self"] (ak cV):=L2.fsc rfl (by decide+kernel)
theorem DE {c:CCs} {C:Addr} {t t':Tr} (T:aU K C "making_word" "More.making_word" cV):aQ P w K mg base C "making_word" 1 ["self"] (fg c (.fold .more t t')):=by
 refine bz T vj (λ_ _ _ _ _ _=>L2.ar1 λ_=>rfl) ?_ ?_
 ·walk_at "i1";obtain ⟨a,rfl,o,q⟩:=h;rfl
 walk_at "i2";obtain ⟨a,rfl,o,q⟩:=h;have nd:=vj.nd;refine ⟨_,(aq (aD aR)),?_⟩;exact q
theorem vA:aE ["self","n","first","second"] ["self","n","first","second"] (ak gj):=L2.fsc rfl (by decide+kernel)
theorem DO {C:Addr} (T:aU K C "folded" "More.folded" gj) (cT:mg "min"=none):aQ P w K mg base C "folded" 1 ["self","n","first","second"] (hX .more):=by
 refine bz T vA (λ_ _ _ _ _ _=>L2.ar4 λ_ _ _ _=>rfl) ?_ ?_
 ·walk_at "i1";obtain ⟨a,n,i,j,rfl,q⟩:=h;rfl
 walk_at "i2";obtain ⟨a,n,i,j,rfl,q⟩:=h;have nd:=vA.nd;refine ⟨_,(aq (aD (aN (je rfl) rfl cT (by decide+kernel) (aa (aP dB (pv 2) (pv 3)) (aa (pv 1) ah))))),?_⟩;refine ⟨_,rfl,_,rfl,_,_,rfl,rfl,_,rfl,_,_,rfl,?_⟩;rw [nL];exact q
theorem vk:aE ["self"] ["self"] (ak cW):=L2.fsc rfl (by decide+kernel)
theorem DF {c:CCs} {C:Addr} {t t':Tr} (T:aU K C "making_word" "Less.making_word" cW):aQ P w K mg base C "making_word" 1 ["self"] (fg c (.fold .less t t')):=by
 refine bz T vk (λ_ _ _ _ _ _=>L2.ar1 λ_=>rfl) ?_ ?_
 ·walk_at "i1";obtain ⟨a,rfl,o,q⟩:=h;rfl
 walk_at "i2";obtain ⟨a,rfl,o,q⟩:=h;have nd:=vk.nd;refine ⟨_,(aq (aD aR)),?_⟩;exact q
theorem vB:aE ["self","n","first","second"] ["self","n","first","second"] (ak gp):=L2.fsc rfl (by decide+kernel)
theorem DP {C:Addr} (T:aU K C "folded" "Less.folded" gp) (dR:mg "max"=none):aQ P w K mg base C "folded" 1 ["self","n","first","second"] (hX .less):=by
 refine bz T vB (λ_ _ _ _ _ _=>L2.ar4 λ_ _ _ _=>rfl) ?_ ?_
 ·walk_at "i1";obtain ⟨a,n,i,j,rfl,q⟩:=h;rfl
 walk_at "i2";obtain ⟨a,n,i,j,rfl,q⟩:=h;have nd:=vB.nd;refine ⟨_,(aq (aD (aN (kI rfl) rfl dR (by decide+kernel) (aa (aP gP (aP dB (pv 2) (pv 3)) (pv 1)) (eM ah))))),?_⟩;refine ⟨_,rfl,_,rfl,_,_,rfl,rfl,_,rfl,_,_,rfl,rfl,_,_,rfl,?_⟩;rw [qC];exact q
theorem oj:aE ["self"] ["self"] (ak cw):=L2.fsc rfl (by decide+kernel)
theorem vV {c:CCs} {C:Addr} {t t':Tr} (T:aU K C "making_word" "Greater.making_word" cw):aQ P w K mg base C "making_word" 1 ["self"] (fg c (.fold .greater t t')):=by
 refine bz T oj (λ_ _ _ _ _ _=>L2.ar1 λ_=>rfl) ?_ ?_
 ·walk_at "i1";obtain ⟨a,rfl,o,q⟩:=h;rfl
 walk_at "i2";obtain ⟨a,rfl,o,q⟩:=h;have nd:=oj.nd;refine ⟨_,(aq (aD aR)),?_⟩;exact q
theorem ow:aE ["self","n","first","second"] ["self","n","first","second"] (ak dU):=L2.fsc rfl (by decide+kernel)
theorem vX {C:Addr} (T:aU K C "folded" "Greater.folded" dU) (dR:mg "max"=none):aQ P w K mg base C "folded" 1 ["self","n","first","second"] (hX .greater):=by
 refine bz T ow (λ_ _ _ _ _ _=>L2.ar4 λ_ _ _ _=>rfl) ?_ ?_
 ·walk_at "i1";obtain ⟨a,n,i,j,rfl,q⟩:=h;rfl
 walk_at "i2";obtain ⟨a,n,i,j,rfl,q⟩:=h;have nd:=ow.nd;refine ⟨_,(aq (aD (aN (kI rfl) rfl dR (by decide+kernel) (aa (pv 2) (aa (pv 3) ah))))),?_⟩;refine ⟨_,rfl,_,rfl,_,_,rfl,?_⟩;rw [qC];exact q
theorem pW:aE ["self"] ["self"] (ak cD):=L2.fsc rfl (by decide+kernel)
theorem xU {c:CCs} {C:Addr} {t t':Tr} (T:aU K C "making_word" "Lesser.making_word" cD):aQ P w K mg base C "making_word" 1 ["self"] (fg c (.fold .lesser t t')):=by
 refine bz T pW (λ_ _ _ _ _ _=>L2.ar1 λ_=>rfl) ?_ ?_
 ·walk_at "i1";obtain ⟨a,rfl,o,q⟩:=h;rfl
 walk_at "i2";obtain ⟨a,rfl,o,q⟩:=h;have nd:=pW.nd;refine ⟨_,(aq (aD aR)),?_⟩;exact q
theorem qg:aE ["self","n","first","second"] ["self","n","first","second"] (ak eV):=L2.fsc rfl (by decide+kernel)
theorem ya {C:Addr} (T:aU K C "folded" "Lesser.folded" eV) (cT:mg "min"=none):aQ P w K mg base C "folded" 1 ["self","n","first","second"] (hX .lesser):=by
 refine bz T qg (λ_ _ _ _ _ _=>L2.ar4 λ_ _ _ _=>rfl) ?_ ?_
 ·walk_at "i1";obtain ⟨a,n,i,j,rfl,q⟩:=h;rfl
 walk_at "i2";obtain ⟨a,n,i,j,rfl,q⟩:=h;have nd:=qg.nd;refine ⟨_,(aq (aD (aN (je rfl) rfl cT (by decide+kernel) (aa (pv 2) (aa (pv 3) ah))))),?_⟩;refine ⟨_,rfl,_,rfl,_,_,rfl,?_⟩;rw [nL];exact q
theorem rX:aE ["self"] ["self"] (ak cN):=L2.fsc rfl (by decide+kernel)
theorem AQ {c:CCs} {C:Addr} {t t':Tr} (T:aU K C "making_word" "Leads.making_word" cN):aQ P w K mg base C "making_word" 1 ["self"] (fg c (.fold .leads t t')):=by
 refine bz T rX (λ_ _ _ _ _ _=>L2.ar1 λ_=>rfl) ?_ ?_
 ·walk_at "i1";obtain ⟨a,rfl,o,q⟩:=h;rfl
 walk_at "i2";obtain ⟨a,rfl,o,q⟩:=h;have nd:=rX.nd;refine ⟨_,(aq (aD aR)),?_⟩;exact q
theorem si:aE ["self","n","first","second"] ["self","n","first","second"] (ak fo):=L2.fsc rfl (by decide+kernel)
theorem AX {C:Addr} (T:aU K C "folded" "Leads.folded" fo) (cT:mg "min"=none):aQ P w K mg base C "folded" 1 ["self","n","first","second"] (hX .leads):=by
 refine bz T si (λ_ _ _ _ _ _=>L2.ar4 λ_ _ _ _=>rfl) ?_ ?_
 ·walk_at "i1";obtain ⟨a,n,i,j,rfl,q⟩:=h;rfl
 walk_at "i2";obtain ⟨a,n,i,j,rfl,q⟩:=h;have nd:=si.nd;refine ⟨_,(aq (aD (aN (je rfl) rfl cT (by decide+kernel) (aa (aP dB (aP gP (pv 1) (pv 2)) (pv 3)) (aa (pv 1) ah))))),?_⟩;refine ⟨_,rfl,_,rfl,_,_,rfl,rfl,_,rfl,_,_,rfl,rfl,_,rfl,_,_,rfl,?_⟩;rw [nL];exact q
theorem zj:aE ["self"] ["self"] (ak cB):=L2.fsc rfl (by decide+kernel)
theorem pF {c:CCs} {t:Tr} (T:aU K (c.of t) "pieces" "Saying.pieces" cB) (ht:t.pieces=[.w t.word]) (G:aQ P w K mg base (c.of t) "making_word" 1 ["self"] (fg c t)):aQ P w K mg base (c.of t) "pieces" 2 ["self"] (lU c t):=by
 refine bz T zj (λ_ _ _ _ _ _=>L2.ar1 λ_=>rfl) ?_ ?_
 ·walk_at "i1";obtain ⟨a,rfl,o,q⟩:=h;rfl
 walk_at "i2";obtain ⟨a,rfl,o,q⟩:=h;have nd:=zj.nd;refine ⟨_,(aq (aD (bO (aa (bF (k:=1) (pv 0) (hr.mono (by decide))) ah)))),?_⟩;obtain ⟨dx,fs,ea,nf⟩:=o.cls;refine ⟨_,rfl,a,_,_,_,_,_,rfl,ea,nf _ (by decide+kernel),G,a,rfl,o,(by show 1<=sizeLine;decide),λl hl=>q l _ hl ?_⟩;rw [ht];exact .cons (.w _) .nil
theorem zk:aE ["self"] ["self"] (ak gW):=L2.fsc rfl (by decide+kernel)
theorem ok_pNot {c:CCs} {t:Tr} (T:aU K c.no "pieces" "Not.pieces" gW) (F:Fx K c):aQ P w K mg base c.no "pieces" 2 ["self"] (lU c (.no t)):=by
 refine bz T zk (λ_ _ _ _ _ _=>L2.ar1 λ_=>rfl) ?_ ?_
 ·walk_at "i1";obtain ⟨a,rfl,o,q⟩:=h;rfl
 walk_at "i2";obtain ⟨a,rfl,o,q⟩:=h;have nd:=zk.nd;refine ⟨_,(aq (aD (bO (aa aR (aa (iI (pv 0) rfl) ah))))),?_⟩;cases o with
 | no e o=>exact ⟨_,rfl,a,_,_,_,_,rfl,e,T.cl,F.nPart,sE _,(by show 2<=sizeLine;decide),λl hl=>q l _ hl (.cons (.w _) (.cons (.t o) .nil))⟩
theorem vn:aE ["self"] ["self"] (ak gq):=L2.fsc rfl (by decide+kernel)
theorem DH {c:CCs} {u:W5} {t t':Tr} (T:aU K (c.fold u) "pieces" "Fold.pieces" gq) (F:Fx K c) (G:aQ P w K mg base (c.fold u) "making_word" 1 ["self"] (fg c (.fold u t t'))):aQ P w K mg base (c.fold u) "pieces" 2 ["self"] (lU c (.fold u t t')):=by
 refine bz T vn (λ_ _ _ _ _ _=>L2.ar1 λ_=>rfl) ?_ ?_
 ·walk_at "i1";obtain ⟨a,rfl,o,q⟩:=h;rfl
 walk_at "i2";obtain ⟨a,rfl,o,q⟩:=h;have nd:=vn.nd;refine ⟨_,(aq (aD (bO (aa aR (aa (iI (pv 0) rfl) (aa (bF (k:=1) (pv 0) (hr.mono (by decide))) (aa (iI (pv 0) rfl) (aa aR ah)))))))),?_⟩;cases o with
 | fold e o o' =>
  refine ⟨_,rfl,a,_,_,_,_,rfl,e,T.cl,F.nOne u,wA _ _,_,rfl,a,_,_,_,_,_,rfl,e,fX (by decide+kernel) (fX (by decide+kernel) rfl),G,a,rfl,.fold e o o',?_⟩;exact ⟨_,rfl,a,_,_,_,_,rfl,e,T.cl,F.nOther u,qD _ _,(by show 5<=sizeLine;decide),λl hl=>q l _ hl (.cons (.w _) (.cons (.t o) (.cons (.w _) (.cons (.t o') (.cons (.w _) .nil)))))⟩
theorem pV:aE ["self","worths","n","x","y"] ["self","worths","n","x","y"] (ak gi):=L2.fsc rfl (by decide+kernel)
theorem xS {c:CCs} {C:Addr} (T:aU K C "weigh" "Never.weigh" gi):aQ P w K mg base C "weigh" 2 ["self","worths","n","x","y"] (jj c .never):=by
 refine bz T pV (λ_ _ _ _ _ _=>L2.ar5 λ_ _ _ _ _=>rfl) ?_ ?_
 ·walk_at "i1";obtain ⟨a,l,n,i,j,R,R',rfl,o,e,hz,hs,q⟩:=h;rfl
 walk_at "i2";obtain ⟨a,l,n,i,j,R,R',rfl,o,e,hz,hs,q⟩:=h;have nd:=pV.nd;refine ⟨_,(aq (aZ (dP PySem.F.plainAttrs_list PySem.F.slot_list_append PySem.F.type_list_append bA (pv 1) (eM ah)))),?_⟩;have es:R'=(hV n i j).leaf .never::R:=iO hs rfl;subst es;refine ⟨_,rfl,.inl ⟨rfl,_,SqL.of e⟩,l,_,_,rfl,rfl,e,lT hz,?_⟩;exact q _ (jO _ _) (by rw [af];exact congrArg _ (congrArg _ (fA _ _)))
theorem oi:aE ["self","worths","n","x","y"] ["self","worths","n","x","y"] (ak ft):=L2.fsc rfl (by decide+kernel)
theorem vU {c:CCs} {C:Addr} (T:aU K C "weigh" "Always.weigh" ft):aQ P w K mg base C "weigh" 2 ["self","worths","n","x","y"] (jj c .always):=by
 refine bz T oi (λ_ _ _ _ _ _=>L2.ar5 λ_ _ _ _ _=>rfl) ?_ ?_
 ·walk_at "i1";obtain ⟨a,l,n,i,j,R,R',rfl,o,e,hz,hs,q⟩:=h;rfl
 walk_at "i2";obtain ⟨a,l,n,i,j,R,R',rfl,o,e,hz,hs,q⟩:=h;have nd:=oi.nd;refine ⟨_,(aq (aZ (dP PySem.F.plainAttrs_list PySem.F.slot_list_append PySem.F.type_list_append bA (pv 1) (aa (pv 2) ah)))),?_⟩;have es:R'=(hV n i j).leaf .always::R:=iO hs rfl;subst es;refine ⟨_,rfl,.inl ⟨rfl,_,SqL.of e⟩,_,rfl,l,_,_,rfl,rfl,e,lT hz,?_⟩;exact q _ (jO _ _) (by rw [af];exact congrArg _ (congrArg _ (fA _ _)))
theorem zh:aE ["self","worths","n","x","y"] ["self","worths","n","x","y"] (ak cP):=L2.fsc rfl (by decide+kernel)
theorem ok_wgLp {c:CCs} (T:aU K c.le "weigh" "Letter.weigh" cP) (F:Fx K c):aQ P w K mg base c.le "weigh" 2 ["self","worths","n","x","y"] (jj c .lp):=by
 refine bz T zh (λ_ _ _ _ _ _=>L2.ar5 λ_ _ _ _ _=>rfl) ?_ ?_
 ·walk_at "i1";obtain ⟨a,l,n,i,j,R,R',rfl,o,e,hz,hs,q⟩:=h;rfl
 walk_at "i2";obtain ⟨a,l,n,i,j,R,R',rfl,o,e,hz,hs,q⟩:=h;have nd:=zh.nd;refine ⟨_,(aq (aZ (dP PySem.F.plainAttrs_list PySem.F.slot_list_append PySem.F.type_list_append bA (pv 1) (aa (jV (au aM (iI (pv 0) rfl) aR (aC _)) (pv 3) (pv 4)) ah)))),?_⟩;have es:R'=(hV n i j).leaf .lp::R:=iO hs rfl;subst es;cases o with
 | lp eo =>
  refine ⟨_,rfl,.inl ⟨rfl,_,SqL.of e⟩,_,rfl,a,_,_,_,_,rfl,eo,T.cl,F.nName,kF _,rfl,_,rfl,?_⟩;rw [is_pp];refine cj ⟨_,rfl,l,_,_,rfl,rfl,e,lT hz,?_⟩;exact q _ (jO _ _) (by rw [af];exact congrArg _ (congrArg _ (fA _ _)))
theorem zg:aE ["self","worths","n","x","y"] ["self","worths","n","x","y"] (ak cP):=L2.fsc rfl (by decide+kernel)
theorem ok_wgLq {c:CCs} (T:aU K c.le "weigh" "Letter.weigh" cP) (F:Fx K c):aQ P w K mg base c.le "weigh" 2 ["self","worths","n","x","y"] (jj c .lq):=by
 refine bz T zg (λ_ _ _ _ _ _=>L2.ar5 λ_ _ _ _ _=>rfl) ?_ ?_
 ·walk_at "i1";obtain ⟨a,l,n,i,j,R,R',rfl,o,e,hz,hs,q⟩:=h;rfl
 walk_at "i2";obtain ⟨a,l,n,i,j,R,R',rfl,o,e,hz,hs,q⟩:=h;have nd:=zg.nd;refine ⟨_,(aq (aZ (dP PySem.F.plainAttrs_list PySem.F.slot_list_append PySem.F.type_list_append bA (pv 1) (aa (jV (au aM (iI (pv 0) rfl) aR (aC _)) (pv 3) (pv 4)) ah)))),?_⟩;have es:R'=(hV n i j).leaf .lq::R:=iO hs rfl;subst es;cases o with
 | lq eo =>
  refine ⟨_,rfl,.inl ⟨rfl,_,SqL.of e⟩,_,rfl,a,_,_,_,_,rfl,eo,T.cl,F.nName,kF _,rfl,_,rfl,?_⟩;rw [is_qp];refine aT ⟨_,rfl,l,_,_,rfl,rfl,e,lT hz,?_⟩;exact q _ (jO _ _) (by rw [af];exact congrArg _ (congrArg _ (fA _ _)))
theorem vi:aE ["self","worths","n","x","y"] ["self","worths","n","x","y"] (ak iB):=L2.fsc rfl (by decide+kernel)
theorem DD {c:CCs} {C:Addr} {t:Tr} (T:aU K C "weigh" "Not.weigh" iB):aQ P w K mg base C "weigh" 2 ["self","worths","n","x","y"] (jj c (.no t)):=by
 refine bz T vi (λ_ _ _ _ _ _=>L2.ar5 λ_ _ _ _ _=>rfl) ?_ ?_
 ·walk_at "i1";obtain ⟨a,l,n,i,j,R,R',rfl,o,e,hz,hs,q⟩:=h;rfl
 walk_at "i2";obtain ⟨a,l,n,i,j,R,R',rfl,o,e,hz,hs,q⟩:=h;have nd:=vi.nd;refine ⟨_,(aq (aZ (dP PySem.F.plainAttrs_list PySem.F.slot_list_append PySem.F.type_list_append bA (pv 1) (aa (aP gP (pv 2) (il PySem.F.plainAttrs_list PySem.F.slot_list_pop PySem.F.type_list_pop jt (pv 1))) ah)))),?_⟩;obtain ⟨b,R1,rfl,rfl⟩:=yZ hs;have hz':R1.length < 1000:=hz;have el:H l=some (.lst (R1.reverse.map V.int++[V.int b])):=by rw [e];exact congrArg _ (congrArg _ (fA b R1).symm)
 refine ⟨_,rfl,.inl ⟨rfl,_,SqL.of el⟩,_,rfl,_,rfl,.inl ⟨rfl,_,SqL.of el⟩,l,_,_,rfl,rfl,el,hJ _ _,?_⟩;rw [List.dropLast_concat];refine ⟨_,_,rfl,rfl,l,_,_,rfl,rfl,af,by rw [List.length_map,List.length_reverse];exact Nat.lt_trans hz' (by decide),?_⟩;rw [pe];exact q _ (jO _ _) (by rw [af];exact congrArg _ (congrArg _ (fA _ _)))
theorem rV:aE ["self","worths","n","x","y","second","first"] ["self","worths","n","x","y"] (ak gX):=L2.fsc rfl (by decide+kernel)
theorem AN {c:CCs} {u:W5} {t t':Tr} (T:aU K (c.fold u) "weigh" "Fold.weigh" gX) (G:aQ P w K mg base (c.fold u) "folded" 1 ["self","n","first","second"] (hX u)):aQ P w K mg base (c.fold u) "weigh" 2 ["self","worths","n","x","y"] (jj c (.fold u t t')):=by
 refine bz T rV (λ_ _ _ _ _ _=>L2.ar5 λ_ _ _ _ _=>rfl) ?_ ?_
 ·walk_at "i1";obtain ⟨a,l,n,i,j,R,R',rfl,o,e,hz,hs,q⟩:=h;rfl
 walk_at "i2";obtain ⟨a,l,n,i,j,R,R',rfl,o,e,hz,hs,q⟩:=h;have nd:=rV.nd
 refine ⟨_,(ae (aG (i:=5) nd rfl (Or.inl rfl) (il PySem.F.plainAttrs_list PySem.F.slot_list_pop PySem.F.type_list_pop jt (pv 1)))
  (ae (aG (i:=6) nd rfl (Or.inl rfl) (il PySem.F.plainAttrs_list PySem.F.slot_list_pop PySem.F.type_list_pop jt (pv 1)))
  (aq (aZ (dP PySem.F.plainAttrs_list PySem.F.slot_list_append PySem.F.type_list_append bA (pv 1) (aa (qp (k:=1) (pv 0) (hr.mono (by decide)) (aa (pv 2) (aa (pv 6) (aa (pv 5) ah)))) ah)))))),?_⟩
 obtain ⟨b2,b1,R1,rfl,rfl⟩:=rP hs;have hz':R1.length+1 < 1000:=hz;have el:H l=some (.lst (R1.reverse.map V.int++[V.int b1]++[V.int b2])):=by rw [e,fA,fA]
 obtain ⟨dx,fs,ea,nf⟩:=o.cls;have nal:a≠l:=sA ea e (by intro z;cases z)
 refine ⟨_,rfl,.inl ⟨rfl,_,SqL.of el⟩,l,_,_,rfl,rfl,el,hJ _ _,?_⟩;rw [List.dropLast_concat];refine ⟨_,rfl,.inl ⟨rfl,_,SqL.of af⟩,l,_,_,rfl,rfl,af,hJ _ _,?_⟩;rw [List.dropLast_concat,pe];refine ⟨_,rfl,.inl ⟨rfl,_,SqL.of af⟩,_,rfl,a,_,_,_,_,_,rfl,by rw [aB nal];exact ea,nf _ (by decide+kernel),G,_,rfl,_,rfl,_,rfl,a,n,b1,b2,rfl,?_⟩;refine ⟨l,_,_,rfl,rfl,af,by rw [List.length_map,List.length_reverse];exact Nat.lt_trans (Nat.lt_of_succ_lt hz') (by decide),?_⟩;rw [pe];exact q _ (jO _ _) (by rw [af];exact congrArg _ (congrArg _ (fA _ _)))
abbrev oO:List Str:=["one","other","greater","lesser","rest"]
theorem iT:aE oO ["one","other"] (ak gM):=L2.fsc rfl (by decide+kernel)
abbrev ye:List Str:=["top","bottom","factor"]
theorem oq:aE ye ["top","bottom"] (ak lx):=L2.fsc rfl (by decide+kernel)
abbrev n_minus:List Str:=["one","other"]
theorem vq:aE n_minus ["one","other"] (ak tF):=L2.fsc rfl (by decide+kernel)
abbrev n_less:List Str:=["one","other"]
theorem zp:aE n_less ["one","other"] (ak xI):=L2.fsc rfl (by decide+kernel)
abbrev DX:List Str:=[]
theorem AE:aE DX [] (ak mh):=L2.fsc rfl (by decide+kernel)
abbrev Bf:List Str:=["rule","point"]
theorem pY:aE Bf ["rule","point"] (ak nq):=L2.fsc rfl (by decide+kernel)
abbrev mw:List Str:=["rule","hull"]
theorem hZ:aE mw ["rule","hull"] (ak cC):=L2.fsc rfl (by decide+kernel)
abbrev nJ:List Str:=["one","other","at_one","at_other","numbers","factor"]
theorem iA:aE nJ ["one","other","at_one","at_other"] (ak bU):=L2.fsc rfl (by decide+kernel)
abbrev wk:List Str:=["hull","rule","told","low","high","k","corner","following","between"]
theorem CM:aE wk ["hull","rule"] (ak jR):=L2.fsc rfl (by decide+kernel)
abbrev n_both:List Str:=["one","other"]
theorem zt:aE n_both ["one","other"] (ak qi):=L2.fsc rfl (by decide+kernel)
abbrev Bc:List Str:=["one","other"]
theorem pU:aE Bc ["one","other"] (ak iU):=L2.fsc rfl (by decide+kernel)
abbrev wg:List Str:=["word"]
theorem lV:aE wg ["word"] (ak jP):=L2.fsc rfl (by decide+kernel)
abbrev rq:List Str:=["word","one","other"]
theorem jN:aE rq ["word","one","other"] (ak iG):=L2.fsc rfl (by decide+kernel)
abbrev wo:List Str:=["row","rules","rule"]
theorem lY:aE wo ["row","rules"] (ak jT):=L2.fsc rfl (by decide+kernel)
abbrev wm:List Str:=["hull","choice","told"]
theorem lX:aE wm ["hull","choice"] (ak jS):=L2.fsc rfl (by decide+kernel)
abbrev oJ:List Str:=["rows","hull","rules","k","row","choice","rule"]
theorem iQ:aE oJ ["rows","hull"] (ak gH):=L2.fsc rfl (by decide+kernel)
abbrev yd:List Str:=["tree","found","trees","hulls","branch","hull","parts"]
theorem oo:aE yd ["tree"] (ak lj):=L2.fsc rfl (by decide+kernel)
abbrev rn:List Str:=["folds"]
theorem fh:aE rn ["folds"] (ak fZ):=L2.fsc rfl (by decide+kernel)
abbrev Be:List Str:=["hull","rows","told","test","parts"]
theorem kX:aE Be ["hull","rows"] (ak nj):=L2.fsc rfl (by decide+kernel)
abbrev Bj:List Str:=["saying"]
theorem jk:aE Bj ["saying"] (ak ky):=L2.fsc rfl (by decide+kernel)
abbrev qu:List Str:=["one","other","rows","fold"]
theorem jA:aE qu ["one","other"] (ak ig):=L2.fsc rfl (by decide+kernel)
abbrev lA:List Str:=["one","other"]
theorem cL:aE lA ["one","other"] (ak cU):=L2.fsc rfl (by decide+kernel)
abbrev my:List Str:=["rows","tree","hulls","told"]
theorem ic:aE my ["rows","tree"] (ak bD):=L2.fsc rfl (by decide+kernel)
abbrev oN:List Str:=["rule","corner","least"]
theorem iS:aE oN ["rule","corner","least"] (ak gK):=L2.fsc rfl (by decide+kernel)
abbrev oM:List Str:=["rule","hull","least"]
theorem iR:aE oM ["rule","hull","least"] (ak de):=L2.fsc rfl (by decide+kernel)
abbrev n_holds : List Str := ["saying", "tree", "least", "leaves"]
theorem sc_holds : aE n_holds ["saying", "tree", "least"] (ak s_holds) := L2.fsc rfl (by decide+kernel)
abbrev n_holds_for_both : List Str := ["one", "other", "tree", "both", "leaves"]
theorem sc_holds_for_both : aE n_holds_for_both ["one", "other", "tree"] (ak s_holds_for_both) := L2.fsc rfl (by decide+kernel)
abbrev ro:List Str:=["saying","tree","least","point","hull","corner","found"]
theorem fi:aE ro ["saying"] (ak gf):=L2.fsc rfl (by decide+kernel)
abbrev DY:List Str:=["saying","told"]
theorem ku:aE DY ["saying"] (ak mj):=L2.fsc rfl (by decide+kernel)
abbrev ue:List Str:=["one","other","a","b","c"]
theorem kO:aE ue ["one","other"] (ak jn):=L2.fsc rfl (by decide+kernel)
abbrev wq:List Str:=["hull","rule","bounds"]
theorem lZ:aE wq ["hull","rule"] (ak gF):=L2.fsc rfl (by decide+kernel)
abbrev oK:List Str:=["saying","rows","regions","hull","rule"]
theorem dS:aE oK ["saying"] (ak cA):=L2.fsc rfl (by decide+kernel)
abbrev yc:List Str:=["top","bottom"]
theorem om:aE yc ["top","bottom"] (ak kZ):=L2.fsc rfl (by decide+kernel)
abbrev yb:List Str:=["bounds","n","x","lowest","highest","a","b","c","least","rest"]
theorem oh:aE yb ["bounds","n","x"] (ak kY):=L2.fsc rfl (by decide+kernel)
abbrev rk:List Str:=["hull","bounds","n","first","last","x","y"]
theorem jM:aE rk ["hull","bounds","n"] (ak cH):=L2.fsc rfl (by decide+kernel)
abbrev ud:List Str:=["regions","n","hull","bounds","point"]
theorem kN:aE ud ["regions","n"] (ak jm):=L2.fsc rfl (by decide+kernel)
abbrev qv:List Str:=["saying","regions","n","point"]
theorem eU:aE qv ["saying"] (ak fj):=L2.fsc rfl (by decide+kernel)
abbrev n_lack:List Str:=["one","other","told"]
theorem pB:aE n_lack ["one","other"] (ak tG):=L2.fsc rfl (by decide+kernel)
abbrev n_alike:List Str:=["one","other","tree","hull","corner"]
theorem ma:aE n_alike ["one","other"] (ak pC):=L2.fsc rfl (by decide+kernel)
abbrev Bh:List Str:=["_law_cells","_law_many","_law_words","_law_tree","_law_k","_law_cell"]
theorem qa:aE Bh ["_law_cells","_law_many","_law_words"] (ak nu):=L2.fsc rfl (by decide+kernel)
abbrev Bi:List Str:=["_law_ask","_law_one","_law_other","_law_tree"]
theorem qc:aE Bi ["_law_ask","_law_one","_law_other","_law_tree"] (ak nv):=L2.fsc rfl (by decide+kernel)
abbrev wj:List Str:=["_law_ask","_law_one","_law_other","_law_tree","_law_caught","e"]
theorem lW:aE wj ["_law_ask","_law_one","_law_other","_law_tree"] (ak jQ):=L2.fsc rfl (by decide+kernel)
def t3D (p:T3):PyData:=.tuple [.int p.u,.int p.v,.int p.w]
section
variable {K:W.Frag} {H H':Hp} {a:Addr} {v:V} {p:T3}
theorem gE (g:SqT K H a [.int p.u,.int p.v,.int p.w]):Dat K H (t3D p) (.ref a):=⟨a,_,rfl,g,_,_,rfl,rfl,_,_,rfl,rfl,_,_,rfl,rfl,rfl⟩
theorem fO (g:Dat K H (t3D p) v):∃ a,v=.ref a/\SqT K H a [.int p.u,.int p.v,.int p.w]:=by
 obtain ⟨a,xs,rfl,g,x,r,rfl,hx,y,t,rfl,hy,z,u,rfl,hz,hu⟩:=g;cases (show x=V.int p.u from hx)
 cases (show y=V.int p.v from hy)
 cases (show z=V.int p.w from hz)
 cases (show u=[] from hu)
 exact ⟨a,rfl,g⟩
theorem pN {xs:List V} {h:List T3} (g:DatAll K H (h.map t3D) xs) {i:Nat} (e:h[i]?=some p):∃ x,xs[i]?=some x/\Dat K H (t3D p) x:=g.get (by rw [List.getElem?_map,e];rfl)
theorem jJ {xs:List V} {h:List T3} (g:DatAll K H (h.map t3D) xs) {i:Nat} {x:V} (e:xs[i]?=some x):∃ p,h[i]?=some p/\Dat K H (t3D p) x:=by
 obtain ⟨d,e1,e2⟩:=g.get' e;rw [List.getElem?_map] at e1;cases z:h[i]? with
 | none=>rw [z] at e1;cases e1
 | some s=>rw [z] at e1;cases e1;exact ⟨s,rfl,e2⟩
theorem fS {xs:List V} {h:List T3} (g:DatAll K H (h.map t3D) xs):xs.length=h.length:=by rw [g.len,List.length_map]
end
def Bg (x:Int):Prop:=x.natAbs < 2 ^ 8000
theorem fV {a b:Int} (ha:Bg a) (hb:Bg b):IntMulOk a b:=IntMulOk.of_le (m:=8000) (n:=8000) (Ag ha) (Ag hb) (by decide)
theorem eQ {x:Int} {n:Nat} (h:x.natAbs < 2 ^ n) (hn:n<=8000):Bg x:=Nat.lt_of_lt_of_le h (Nat.pow_le_pow_right (by decide) hn)
theorem wI {t x:Int} (h0:x≠0) (h:Bg x):CDivK t x:=⟨h0,Nat.lt_of_lt_of_le ((Nat.log2_lt (by omega)).mpr h) (by decide)⟩
def pS:Sp:=λvs H Q _=>∃ a b:Int,vs=[.int a,.int b]/\Q (.int (Lo.gc a b)) H
def spTl (K:W.Frag):Sp:=λvs H Q _=>∃(x y:V) (r p:T3),vs=[x,y]/\Dat K H (t3D r) x/\Dat K H (t3D p) y/\Hu.R3 3000 r/\Hu.R3 3000 p/\Q (.int (Hu.tl r p)) H
def Ct (K:W.Frag):Sp:=λvs H Q _=>∃(x:V) (l:Addr) (us:List V) (r:T3) (h:List T3),vs=[x,.ref l]/\Dat K H (t3D r) x/\SqL K H l us/\DatAll K H (h.map t3D) us/\Hu.R3 3000 r/\(∀ p∈h,Hu.R3 3000 p)/\h.length<=900/\(∀ H',aH H H'->SqL K H' l us)/\
 ∀(d:Addr) (H':Hp),aH H H'->H d=none->H' d=some (.lst ((h.map (Hu.tl r)).map V.int))->Q (.ref d) H'
def spCB (K:W.Frag):Sp:=λvs H Q _=>∃(x y:V) (p q:T3) (s t:Int),vs=[x,y,.int s,.int t]/\Dat K H (t3D p) x/\Dat K H (t3D q) y/\Hu.P3 600 p/\Hu.P3 600 q/\s*t < 0/\s.natAbs < 2 ^ 2000/\t.natAbs < 2 ^ 2000/\
 ∀(v:V) (H':Hp),aH H H'->Dat K H' (t3D (Hu.mid p q s t)) v->Q v H'
theorem AW (T:aF K mg "common_factor" gM) (ke:mg "abs"=none):Def P w K mg base 1 "common_factor" ["one","other"] pS:=by
 refine aW T iT (λ_ _ _ _ _ _=>L2.ar2 λ_ _=>rfl) ?_ ?_
 ·walk_at "i1";obtain ⟨a,b,rfl,_⟩:=h;rfl
 walk_at "i2";obtain ⟨a,b,rfl,q⟩:=h;have nd:=iT.nd
 refine ⟨_,(ae (aG (i:=2) nd rfl (Or.inl rfl) (aN jZ rfl ke (by decide+kernel) (aa (pv 0) ah)))
  (ae (aG (i:=3) nd rfl (Or.inl rfl) (aN jZ rfl ke (by decide+kernel) (aa (pv 1) ah)))
  (ae (mr PassesOwn.never (au sv (pv 3) ao (aC _)) (ae (aG (i:=4) nd rfl (Or.inl rfl) (aP tY (pv 2) (pv 3)))
  (ae (aG (i:=2) nd rfl (Or.inl rfl) (pv 3))
  (aq (aG (i:=3) nd rfl (Or.inl rfl) (pv 4))))))
  (aq (aD (pv 2)))))),?_⟩
 refine ⟨_,rfl,_,rfl,_,rfl,_,rfl,?_⟩;rw [fH,fH];refine ⟨λm σ H'=>H'=H/\∃(g l:Int) (o:Option V),σ=[some (.int a),some (.int b),some (.int g),some (.int l),o]/\0<=g/\0<=l/\l.toNat=m/\Lo.gc g l=Lo.gc a b,⟨_,rfl,_,_,_,rfl,by omega,by omega,rfl,Lo.Bw a b⟩,?_⟩;rintro m σ H' ⟨rfl,g,l,o,rfl,hg,hl,rfl,e⟩
 refine ⟨_,rfl,rfl,_,rfl,?_⟩;refine gG (λc=>?_) (λc=>?_)
 ·have c':l≠0:=λz=>by
   rw [z,decide_eq_true (rfl:V.int 0=V.int 0)] at c;cases c
  have c2:0 < l:=by omega
  refine ⟨λσ' H''=>H''=H'/\σ'=[some (.int a),some (.int b),some (.int l),some (.int (g.fmod l)),some (.int (g.fmod l))],?_,?_⟩
  ·rintro σ' H'' ⟨rfl,rfl⟩
   have z0:=Int.fmod_nonneg_of_pos g c2;have z1:=Int.fmod_lt_of_pos g c2;exact ⟨_,(show (g.fmod l).toNat < l.toNat by omega),rfl,l,g.fmod l,_,rfl,by omega,z0,rfl,by rw [Lo.gc_turn];exact e⟩
  ·exact ⟨_,rfl,_,rfl,_,_,rfl,rfl,c',_,rfl,_,rfl,rfl,rfl⟩
 ·have l0:l=0:=by
   by_cases z:l=0
   ·exact z
   ·exfalso;refine c ?_;have n:¬ (V.int l=V.int 0):=λq=>z (V.int.inj q);simp [n]
  subst l0;rw [Lo.gc_zero hg] at e;subst e;exact ⟨_,rfl,q⟩
theorem r3b {r:T3} (h:Hu.R3 3000 r):Bg r.u/\Bg r.v/\Bg r.w:=⟨eQ h.a (by decide),eQ h.b (by decide),eQ h.c (by decide)⟩
theorem ok_told (T:aF K mg "told_by" nq):Def P w K mg base 1 "told_by" ["rule","point"] (spTl K):=by
 refine aW T pY (λ_ _ _ _ _ _=>L2.ar2 λ_ _=>rfl) ?_ ?_
 ·walk_at "i1";obtain ⟨x,y,r,p,rfl,_⟩:=h;rfl
 walk_at "i2";obtain ⟨x,y,r,p,rfl,dx,dy,br,bp,q⟩:=h;obtain ⟨ar,rfl,sr⟩:=fO dx;obtain ⟨ap,rfl,st⟩:=fO dy;obtain ⟨r1,r2,r3⟩:=r3b br;obtain ⟨p1,p2,p3⟩:=r3b bp;have nd:=pY.nd;refine ⟨_,(aq (aD (aP dB (aP dB (aP bH (aK aL (pv 0) ao (λ_ _=>rfl)) (aK aL (pv 1) ao (λ_ _=>rfl))) (aP bH (aK aL (pv 0) ao (λ_ _=>rfl)) (aK aL (pv 1) ao (λ_ _=>rfl)))) (aP bH (aK aL (pv 0) ao (λ_ _=>rfl)) (aK aL (pv 1) ao (λ_ _=>rfl)))))),?_⟩;exact ⟨_,rfl,_,_,_,_,rfl,rfl,sr,rfl,_,rfl,_,_,_,_,rfl,rfl,st,rfl,_,_,rfl,rfl,fV r1 p2,_,rfl,_,_,_,_,rfl,rfl,sr,rfl,_,rfl,_,_,_,_,rfl,rfl,st,rfl,_,_,rfl,rfl,fV r2 p3,_,_,rfl,rfl,_,rfl,_,_,_,_,rfl,rfl,sr,rfl,_,rfl,_,_,_,_,rfl,rfl,st,rfl,_,_,rfl,rfl,fV r3 p1,_,_,rfl,rfl,q⟩
theorem Ce {H1:Hp} {l D:Addr} {us:List V} {r:T3} {h:List T3} {te:TE} {js:List Nat} {σ:St} {R:Hp->Prop} (hl:∀ H',aH H1 H'->SqL K H' l us) (da:DatAll K H1 (h.map t3D) us) (few:h.length<=900) (hD:H1 D=none)
  (step:∀(v:V) (p:T3) (H':Hp) (k:VK),aH H1 H'->p∈h->Dat K H' (t3D p) v->k (.int (Hu.tl r p)) H'->te (some v::ck js σ) H' k)
  (fin:∀ H',aH H1 H'->H' D=some (.lst ((h.map (Hu.tl r)).map V.int))->R H') :
  ∃ W:Nat->Nat->Hp->Prop,(∃ m,W 0 m (upd H1 D (.lst [])))/\∀ i m H2,W i m H2->((Itl K l).stop i H2/\R H2)\/
   ((
    Itl K l).go i H2/\∀ v H3,(Itl K l).yld i H2 v H3->og (some v::ck js σ) H3 λb H4=>if b=true then te (some v::ck js σ) H4 λy H5 =>
    ∃ ys,H5 D=some (.lst ys)/\ys.length < sizeLine/\∃ m',m' < m/\W (i+1) m' (upd H5 D (.lst (ys++[y]))) else ∃ m',m' < m/\W (i+1) m' H4):=by
 have lu:=fS da;refine ⟨λi m H2=>m=us.length - i/\i<=us.length/\aH H1 H2/\H2 D=some (.lst (((h.take i).map (Hu.tl r)).map V.int)),⟨_,rfl,Nat.zero_le _,az hD _,af⟩,?_⟩;rintro i m H2 ⟨rfl,hi,sm,hlD⟩
 by_cases hlt:i < us.length
 ·refine .inr ⟨⟨us,_,hl _ sm,List.getElem?_eq_getElem hlt⟩,λv H3 y=>?_⟩;obtain ⟨rfl,y⟩:=y;obtain ⟨p,hp,dp⟩:=jJ (da.ts sm.ts) (y us (hl _ sm));refine lQ ?_;refine step v p _ _ sm (List.mem_of_getElem? hp) dp ?_;refine ⟨_,hlD,bI (by simp;omega),us.length - (i+1),by omega,rfl,hlt,bc sm hD _,?_⟩;rw [af]
  have e:h.take (i+1)=h.take i++[p]:=by
   obtain ⟨q1,q2⟩:=List.getElem?_eq_some_iff.mp hp;rw [List.take_succ_eq_append_getElem q1,q2]
  rw [e,List.map_append,List.map_append];rfl
 ·have ei:i=us.length:=by omega
  subst ei;refine .inl ⟨⟨us,hl _ sm,Nat.le_refl _⟩,fin _ sm ?_⟩;rw [hlD,lu,List.take_length]
theorem ok_tic (T:aF K mg "told_in_corners" cC) (jh:Def P w K mg base 1 "told_by" ["rule","point"] (spTl K)):Def P w K mg base 2 "told_in_corners" ["rule","hull"] (Ct K):=by
 refine aW T hZ (λ_ _ _ _ _ _=>L2.ar2 λ_ _=>rfl) ?_ ?_
 ·walk_at "i1";obtain ⟨x,l,us,r,h,rfl,_⟩:=h;rfl
 walk_at "i2";obtain ⟨x,l,us,r,h,rfl,dx,sl,da,br,bp,few,hl,k⟩:=h;have nd:=hZ.nd;refine ⟨_,(aq (aD (fE rfl (bR (pv 1)) rfl (by decide+kernel) (by decide+kernel) rfl (show ∀ p∈Scope.names _,p.2=NameKind.free->List.lookup p.1 (ak cC).names=some .cell\/List.lookup p.1 (ak cC).names=some .free by decide+kernel) (dX (j:=0) rfl (Or.inl rfl) (by decide+kernel) (Or.inl rfl) dC) (show (["corner","rule"]:List Str).Nodup by decide+kernel) (λ_ _ _ _=>gv) (λ_ _ _ _=>(aI jh (hr.mono (by decide)) rfl (aa (pv 1) (aa (pv 0) ah))))))),?_⟩;refine ⟨_,rfl,l,rfl,⟨us,sl⟩,λD hD=>?_⟩;exact Ce (r:=r) hl da few hD (λv p H' kk sm hp dp q=>⟨_,rfl,_,rfl,x,v,r,p,rfl,dx.ts sm.ts,dp,br,bp p hp,q⟩) λH' sm e=>k D H' sm hD e
structure B4 where
 a:Int
 b:Int
 c:Int
 l:Int
def b4D (q:B4):PyData:=.tuple [.int q.a,.int q.b,.int q.c,.int q.l]
def B4.Kp (q:B4) (n x y:Int):Prop:=q.l<=q.a*x+q.b*y+q.c*n
def B4.R (q:B4):Prop:=q.a.natAbs < 2 ^ 200/\q.b.natAbs < 2 ^ 200/\q.c.natAbs < 2 ^ 200/\q.l.natAbs < 2 ^ 200
def Kept (bs:List B4) (n x y:Int):Prop:=∀ q∈bs,q.Kp n x y
def rup (t b:Int):Int:=-((-t).fdiv b)
theorem tI {t b y:Int} (hb:0 < b):rup t b<=y↔t<=b*y:=by
 unfold rup;rw [Int.fdiv_eq_ediv_of_nonneg _ (Int.le_of_lt hb)];have:=Int.le_ediv_iff_mul_le (a:=-y) (b:=-t) hb;rw [show -(-t / b)<=y↔-y<=-t / b by omega,this,Int.neg_mul,Int.mul_comm];omega
theorem fdn_le {t b y:Int} (hb:b < 0):y<=t.fdiv b↔t<=b*y:=by
 rw [<- Int.neg_fdiv_neg,Int.fdiv_eq_ediv_of_nonneg _ (show 0<=-b by omega)];rw [Int.le_ediv_iff_mul_le (show 0 < -b by omega),Int.mul_neg,Int.mul_comm];omega
def sb (p q:T3):B4:=⟨p.w*q.u - p.u*q.w,p.u*q.v - p.v*q.u,p.v*q.w - p.w*q.v,0⟩
theorem sb_kp (p q:T3) (n x y:Int):(sb p q).Kp n x y↔0<=Hu.det p q ⟨n,x,y⟩:=by
 unfold B4.Kp sb;rw [show (p.w*q.u - p.u*q.w)*x+(p.u*q.v - p.v*q.u)*y+(p.v*q.w - p.w*q.v)*n=Hu.det p q ⟨n,x,y⟩ by simp only [Hu.det];grind]
def rb4 (r:T3):B4:=⟨-r.u,-r.v,1 - r.w,1⟩
theorem Di (r:T3) (n x y:Int):(rb4 r).Kp n x y↔Hu.tl r ⟨n,x,y⟩ < n:=by
 show 1<=-r.u*x + -r.v*y+(1 - r.w)*n↔_;have e:-r.u*x + -r.v*y+(1 - r.w)*n=n - Hu.tl r ⟨n,x,y⟩:=by simp only [Hu.tl];grind
 rw [e];omega
def yA (h:List T3) (r:T3):List B4:=(List.range h.length).map (λi=>sb (Hu.cor h i) (Hu.cor h (i+1)))++[rb4 r]
theorem BH (h:List T3) (r:T3) (n x y:Int):Kept (yA h r) n x y↔Hu.Ins h ⟨n,x,y⟩/\Hu.tl r ⟨n,x,y⟩ < n:=by
 unfold Kept yA;constructor
 ·intro k;refine ⟨λi hi=>(sb_kp _ _ _ _ _).mp (k _ (List.mem_append_left _ (List.mem_map.mpr ⟨i,List.mem_range.mpr hi,rfl⟩))),(Di _ _ _ _).mp (k _ (List.mem_append_right _ List.mem_cons_self))⟩
 ·rintro ⟨k1,k2⟩ q hq
  rcases List.mem_append.mp hq with z | z
  ·obtain ⟨i,hi,rfl⟩:=List.mem_map.mp z;exact (sb_kp _ _ _ _ _).mpr (k1 i (List.mem_range.mp hi))
  ·rw [List.mem_singleton.mp z];exact (Di _ _ _ _).mpr k2
section
variable {K:W.Frag} {H H':Hp} {v:V} {q:B4}
theorem b4_el (d:Dat K H (b4D q) v):∃ a,v=.ref a/\SqT K H a [.int q.a,.int q.b,.int q.c,.int q.l]:=by
 obtain ⟨a,xs,rfl,s,x,t,rfl,hx,y,t2,rfl,hy,z,t3,rfl,hz,w,t4,rfl,hw,h4⟩:=d;cases (show x=V.int q.a from hx)
 cases (show y=V.int q.b from hy)
 cases (show z=V.int q.c from hz)
 cases (show w=V.int q.l from hw)
 cases (show t4=[] from h4)
 exact ⟨a,rfl,s⟩
theorem b4_mk {a:Addr} (s:SqT K H a [.int q.a,.int q.b,.int q.c,.int q.l]):Dat K H (b4D q) (.ref a):=⟨a,_,rfl,s,_,_,rfl,rfl,_,_,rfl,rfl,_,_,rfl,rfl,_,_,rfl,rfl,rfl⟩
theorem b4_at' {xs:List V} {bs:List B4} (g:DatAll K H (bs.map b4D) xs) {i:Nat} {x:V} (e:xs[i]?=some x):∃ r,bs[i]?=some r/\Dat K H (b4D r) x:=by
 obtain ⟨d,e1,e2⟩:=g.get' e;rw [List.getElem?_map] at e1;cases z:bs[i]? with
 | none=>rw [z] at e1;cases e1
 | some s=>rw [z] at e1;cases e1;exact ⟨s,rfl,e2⟩
theorem b4_len {xs:List V} {bs:List B4} (g:DatAll K H (bs.map b4D) xs):xs.length=bs.length:=by rw [g.len,List.length_map]
end
theorem cut01 {x:V} {us:List V}:mD (x::us) none (some 1)=[x]:=by
 unfold mD
 rw [_root_.HT.vD,show _root_.HT.sIx (x::us).length (x::us).length (some 1)=1 from by
  rw [show (some (1:Int))=some ((1:Nat):Int) from rfl,_root_.HT.zw,List.length_cons];omega]
 rfl
theorem cut1L (x:V) (us:List V):mD (x::us) (some 1) none=us:=by
 unfold mD
 rw [show _root_.HT.sIx (x::us).length 0 (some 1)=1 from by
  rw [show (some (1:Int))=some ((1:Nat):Int) from rfl,_root_.HT.zw,List.length_cons];omega,_root_.HT.vD]
 show List.take ((x::us).length - 1) us=us;rw [List.length_cons,Nat.add_sub_cancel,List.take_length]
def Cv:Sp:=λvs H Q _=>∃ t b:Int,vs=[.int t,.int b]/\b≠0/\Bg b/\Q (.int (rup t b)) H
def spSb (K:W.Frag):Sp:=λvs H Q _=>∃(x y:V) (p q:T3),vs=[x,y]/\Dat K H (t3D p) x/\Dat K H (t3D q) y/\Hu.R3 3000 p/\Hu.R3 3000 q/\∀(t:Addr) (H':Hp),aH H H'->Dat K H' (b4D (sb p q)) (.ref t)->Q (.ref t) H'
def CH (K:W.Frag):Sp:=λvs H Q _=>∃(l:Addr) (x:V) (us:List V) (h:List T3) (r:T3),vs=[.ref l,x]/\H l=some (.lst us)/\DatAll K H (h.map t3D) us/\Dat K H (t3D r) x/\(∀ p∈h,Hu.R3 3000 p)/\0 < h.length/\h.length<=100/\∀(l':Addr) (ws:List V) (H':Hp),aH H H'->H l'=none->H' l'=some (.lst ws)->DatAll K H' ((yA h r).map b4D) ws->Q (.ref l') H'
def spYw (K:W.Frag):Sp:=λvs H Q _=>∃(l:Addr) (ws:List V) (bs:List B4) (n x:Int),vs=[.ref l,.int n,.int x]/\H l=some (.lst ws)/\DatAll K H (bs.map b4D) ws/\(∀ q∈bs,q.R)/\0<=n/\n.natAbs < 2 ^ 200/\x.natAbs < 2 ^ 200/\(∀ y,0<=y->y<=n->Kept bs n x y->Q (.int y) H)/\((∀ y,0<=y->y<=n->¬Kept bs n x y)->Q .non H)
theorem ok_rup (T:aF K mg "round_up" kZ):Def P w K mg base 1 "round_up" ["top","bottom"] Cv:=by
 refine aW T om (λ_ _ _ _ _ _=>L2.ar2 λ_ _=>rfl) ?_ ?_
 ·walk_at "i1";obtain ⟨t,b,rfl,_⟩:=h;rfl
 walk_at "i2";obtain ⟨t,b,rfl,b0,bb,q⟩:=h;have nd:=om.nd;refine ⟨_,(aq (aD (oz jI (aP iZ (oz jI (pv 0)) (pv 1))))),?_⟩;exact ⟨_,rfl,_,rfl,_,rfl,_,_,rfl,rfl,wI b0 bb,_,rfl,q⟩
theorem ok_sb (T:aF K mg "side_bound" jn):Def P w K mg base 1 "side_bound" ["one","other"] (spSb K):=by
 refine aW T kO (λ_ _ _ _ _ _=>L2.ar2 λ_ _=>rfl) ?_ ?_
 ·walk_at "i1";obtain ⟨x,y,p,q,rfl,_⟩:=h;rfl
 walk_at "i2";obtain ⟨x,y,p,q,rfl,dx,dy,bp,bq,k⟩:=h;obtain ⟨ax,rfl,sx⟩:=fO dx;obtain ⟨ay,rfl,sy⟩:=fO dy;obtain ⟨p1,p2,p3⟩:=r3b bp;obtain ⟨q1,q2,q3⟩:=r3b bq;have nd:=kO.nd
 refine ⟨_,(ae (aG (i:=2) nd rfl (Or.inl rfl) (aP gP (aP bH (aK aL (pv 0) ao (λ_ _=>rfl)) (aK aL (pv 1) ao (λ_ _=>rfl))) (aP bH (aK aL (pv 0) ao (λ_ _=>rfl)) (aK aL (pv 1) ao (λ_ _=>rfl)))))
  (ae (aG (i:=3) nd rfl (Or.inl rfl) (aP gP (aP bH (aK aL (pv 0) ao (λ_ _=>rfl)) (aK aL (pv 1) ao (λ_ _=>rfl))) (aP bH (aK aL (pv 0) ao (λ_ _=>rfl)) (aK aL (pv 1) ao (λ_ _=>rfl)))))
  (ae (aG (i:=4) nd rfl (Or.inl rfl) (aP gP (aP bH (aK aL (pv 0) ao (λ_ _=>rfl)) (aK aL (pv 1) ao (λ_ _=>rfl))) (aP bH (aK aL (pv 0) ao (λ_ _=>rfl)) (aK aL (pv 1) ao (λ_ _=>rfl)))))
  (aq (aD (bB (aa (pv 2) (aa (pv 3) (aa (pv 4) (eM ah)))))))))),?_⟩
 refine ⟨_,rfl,_,_,_,_,rfl,rfl,sx,rfl,_,rfl,_,_,_,_,rfl,rfl,sy,rfl,_,_,rfl,rfl,fV p3 q1,_,rfl,_,_,_,_,rfl,rfl,sx,rfl,_,rfl,_,_,_,_,rfl,rfl,sy,rfl,_,_,rfl,rfl,fV p1 q3,_,_,rfl,rfl,?_⟩;refine ⟨_,rfl,_,_,_,_,rfl,rfl,sx,rfl,_,rfl,_,_,_,_,rfl,rfl,sy,rfl,_,_,rfl,rfl,fV p1 q2,_,rfl,_,_,_,_,rfl,rfl,sx,rfl,_,rfl,_,_,_,_,rfl,rfl,sy,rfl,_,_,rfl,rfl,fV p2 q1,_,_,rfl,rfl,?_⟩;refine ⟨_,rfl,_,_,_,_,rfl,rfl,sx,rfl,_,rfl,_,_,_,_,rfl,rfl,sy,rfl,_,_,rfl,rfl,fV p2 q3,_,rfl,_,_,_,_,rfl,rfl,sx,rfl,_,rfl,_,_,_,_,rfl,rfl,sy,rfl,_,_,rfl,rfl,fV p3 q2,_,_,rfl,rfl,?_⟩;refine ⟨_,rfl,_,rfl,_,rfl,(by show 4<=sizeLine;decide),λt ht=>?_⟩;exact k t _ (az ht _) (b4_mk (q:=sb p q) (SqT.of af))
theorem ok_yw (T:aF K mg "y_within" kY) (dR:mg "max"=none) (cT:mg "min"=none) (lM:Def P w K mg base 1 "round_up" ["top","bottom"] Cv):Def P w K mg base 2 "y_within" ["bounds","n","x"] (spYw K):=by
 refine aW T oh (λ_ _ _ _ _ _=>L2.ar3 λ_ _ _=>rfl) ?_ ?_
 ·walk_at "i1";obtain ⟨l,ws,bs,n,x,rfl,_⟩:=h;rfl
 walk_at "i2";obtain ⟨l,ws,bs,n,x,rfl,el,da,rb,n0,bn,bx,q1,q2⟩:=h;have nd:=oh.nd;have bnB:Bg n:=eQ bn (by decide);have bxB:Bg x:=eQ bx (by decide)
 refine ⟨_,(ae (aG (i:=3) nd rfl (Or.inl rfl) ao)
  (ae (aG (i:=4) nd rfl (Or.inl rfl) (pv 1))
  (ae (eE PassesOwn.never rfl (bR (pv 0)) (qm rfl (bE (aV (i:=5) nd rfl (Or.inl rfl)) (bE (aV (i:=6) nd rfl (Or.inl rfl)) (bE (aV (i:=7) nd rfl (Or.inl rfl)) (bE (aV (i:=8) nd rfl (Or.inl rfl)) fD))))) (ae (aG (i:=9) nd rfl (Or.inl rfl) (aP gP (aP gP (pv 8) (aP bH (pv 5) (pv 2))) (aP bH (pv 7) (pv 1))))
  (aq (aJ (au qq (pv 6) ao (aC _)) (aq (aG (i:=3) nd rfl (Or.inl rfl) (aN (kI rfl) rfl dR (by decide+kernel) (aa (pv 3) (aa (aI lM (hr.mono (by decide)) rfl (aa (pv 9) (aa (pv 6) ah))) ah))))) (aq (aJ (au oA (pv 6) ao (aC _)) (aq (aG (i:=4) nd rfl (Or.inl rfl) (aN (je rfl) rfl cT (by decide+kernel) (aa (pv 4) (aa (aP iZ (pv 9) (pv 6)) ah))))) (aq (aJ (au qq (pv 9) ao (aC _)) (aq (aD cI)) av))))))))
  (aq (aD (jV (au oB (pv 3) (pv 4) (aC _)) (pv 3) cI)))))),?_⟩
 refine ⟨_,rfl,_,rfl,l,rfl,⟨ws,SqL.of el⟩,?_⟩;refine fF (xs:=ws) (λi σ H'=>H'=H/\∃(lo hi:Int) (o5 o6 o7 o8 o9:Option V),σ=[some (.ref l),some (.int n),some (.int x),some (.int lo),some (.int hi),o5,o6,o7,o8,o9]/\∀ y,(0<=y/\y<=n/\Kept (bs.take i) n x y)↔(lo<=y/\y<=hi)) ⟨rfl,0,n,_,_,_,_,_,rfl,λy=>⟨λz=>⟨z.1,z.2.1⟩,λz=>⟨z.1,z.2,λq hq=>by simp at hq⟩⟩⟩ (λi σ H' _ z=>by rw [z.1];exact SqL.of el) (λi v σ H' hv z=>?_) (λσ H' z=>?_)
 ·obtain ⟨rfl,lo,hi,o5,o6,o7,o8,o9,rfl,iv⟩:=z;obtain ⟨b,hb,db⟩:=b4_at' da hv;obtain ⟨ba,rfl,sb⟩:=b4_el db;obtain ⟨r1,r2,r3,r4⟩:=rb b (List.mem_of_getElem? hb);have tk:bs.take (i+1)=bs.take i++[b]:=by rw [List.take_add_one,hb];rfl
  have kt:∀ y,Kept (bs.take (i+1)) n x y↔Kept (bs.take i) n x y/\b.l - b.a*x - b.c*n<=b.b*y:=λy=>by
   rw [tk];unfold Kept;constructor
   ·intro k;have k2:=k b (List.mem_append_right _ List.mem_cons_self);unfold B4.Kp at k2;exact ⟨λq hq=>k q (List.mem_append_left _ hq),by omega⟩
   ·rintro ⟨k1,k2⟩ q hq
    rcases List.mem_append.mp hq with z | z
    ·exact k1 q z
    ·rw [List.mem_singleton.mp z];unfold B4.Kp;omega
  refine ⟨ba,_,rfl,sb,rfl,_,_,rfl,_,_,rfl,_,_,rfl,_,_,rfl,rfl,?_⟩;refine ⟨_,rfl,_,rfl,_,rfl,_,_,rfl,rfl,fV (eQ r1 (by decide)) bxB,_,_,rfl,rfl,_,rfl,_,rfl,_,_,rfl,rfl,fV (eQ r3 (by decide)) bnB,_,_,rfl,rfl,?_⟩;refine ⟨_,rfl,_,_,rfl,rfl,_,rfl,gG (λc1=>?_) (λc1=>?_)⟩
  ·have c1:0 < b.b:=of_decide_eq_true c1;refine ⟨_,rfl,_,rfl,_,rfl,_,b.b,rfl,by omega,eQ r2 (by decide),?_⟩;refine ⟨_,_,rfl,?_⟩;refine ⟨rfl,_,hi,_,_,_,_,_,rfl,λy=>?_⟩;rw [kt];have e:=tI (t:=b.l - b.a*x - b.c*n) (y:=y) c1;have v:=iv y;generalize rup (b.l - b.a*x - b.c*n) b.b=z at *;split <;> constructor
   ·rintro ⟨a1,a2,a3,a4⟩;have:=v.mp ⟨a1,a2,a3⟩;have:=e.mpr a4;omega
   ·rintro ⟨a1,a2⟩;have w:=v.mpr ⟨by omega,a2⟩;exact ⟨w.1,w.2.1,w.2.2,e.mp a1⟩
   ·rintro ⟨a1,a2,a3,a4⟩;exact v.mp ⟨a1,a2,a3⟩
   ·rintro ⟨a1,a2⟩;have w:=v.mpr ⟨a1,a2⟩;exact ⟨w.1,w.2.1,w.2.2,e.mp (by omega)⟩
  ·have c1:¬0 < b.b:=λz=>c1 (decide_eq_true z);refine ⟨_,rfl,_,_,rfl,rfl,_,rfl,gG (λc2=>?_) (λc2=>?_)⟩
   ·have c2:b.b < 0:=of_decide_eq_true c2;refine ⟨_,rfl,_,rfl,_,rfl,_,_,rfl,rfl,wI (by omega) (eQ r2 (by decide)),?_⟩;refine ⟨_,_,rfl,?_⟩;refine ⟨rfl,lo,_,_,_,_,_,_,rfl,λy=>?_⟩;rw [kt];have e:=fdn_le (t:=b.l - b.a*x - b.c*n) (y:=y) c2;have v:=iv y;generalize (b.l - b.a*x - b.c*n).fdiv b.b=z at *;split <;> constructor
    ·rintro ⟨a1,a2,a3,a4⟩;have:=v.mp ⟨a1,a2,a3⟩;have:=e.mpr a4;omega
    ·rintro ⟨a1,a2⟩;have w:=v.mpr ⟨a1,by omega⟩;exact ⟨w.1,w.2.1,w.2.2,e.mp a2⟩
    ·rintro ⟨a1,a2,a3,a4⟩;exact v.mp ⟨a1,a2,a3⟩
    ·rintro ⟨a1,a2⟩;have w:=v.mpr ⟨a1,a2⟩;exact ⟨w.1,w.2.1,w.2.2,e.mp (by omega)⟩
   ·have c2:¬b.b < 0:=λz=>c2 (decide_eq_true z);have b0:b.b=0:=by omega
    refine ⟨_,rfl,_,_,rfl,rfl,_,rfl,gG (λc3=>?_) (λc3=>?_)⟩
    ·have c3:0 < b.l - b.a*x - b.c*n:=of_decide_eq_true c3;refine q2 λy y0 y1 k=>?_;have k2:=k b (List.mem_of_getElem? hb);unfold B4.Kp at k2;rw [b0,Int.zero_mul] at k2;omega
    ·have c3:¬0 < b.l - b.a*x - b.c*n:=λz=>c3 (decide_eq_true z);refine ⟨rfl,lo,hi,_,_,_,_,_,rfl,λy=>?_⟩;rw [kt,b0,Int.zero_mul];have v:=iv y;constructor
     ·rintro ⟨a1,a2,a3,a4⟩;exact v.mp ⟨a1,a2,a3⟩
     ·rintro z;have w:=v.mpr z;exact ⟨w.1,w.2.1,w.2.2,by omega⟩
 ·obtain ⟨rfl,lo,hi,o5,o6,o7,o8,o9,rfl,iv⟩:=z;rw [b4_len da,List.take_length] at iv;refine ⟨_,rfl,_,rfl,_,_,rfl,rfl,_,rfl,gG (λc=>?_) (λc=>?_)⟩
  ·have c:lo<=hi:=of_decide_eq_true c;have w:=(iv lo).mpr ⟨Int.le_refl _,c⟩;exact ⟨_,rfl,q1 lo w.1 w.2.1 w.2.2⟩
  ·have c:¬lo<=hi:=λz=>c (decide_eq_true z);refine q2 λy y0 y1 k=>?_;have:=(iv y).mp ⟨y0,y1,k⟩;omega
theorem jr {X:Cx} {K:W.Frag} {es:List Expr} {k:Nat} {pos:Pos} {t:TGs} {n:Nat} (e:X.K=K) (hc:X.calm=true) (h:PGs X es t)
  (hn:(assignEach es X.env).length=n:=by rfl) (hst:(assignEach es X.env).findIdx? (·.1)=none:=by rfl):PG X (.Tuple es k pos) (Ew K n t):=by
 subst e;exact qm hc h hn hst
theorem len2 {o:St} (h:o.length=2):∃ a b,o=[a,b]:=match o,h with | [a,b],_=>⟨a,b,rfl⟩
theorem EM {H1:Hp} {l D:Addr} {a b c g:Int} {te:TE} {js:List Nat} {σ:St} {R:Hp->Prop} (hl:H1 l=some (.lst [.int a,.int b,.int c])) (hD:H1 D=none)
  (step:∀(n:Int) (H':Hp) (k:VK),k (.int (n.fdiv g)) H'->te (some (.int n)::ck js σ) H' k)
  (fin:∀ H',aH H1 H'->H' D=some (.lst [.int (a.fdiv g),.int (b.fdiv g),.int (c.fdiv g)])->R H') :
  ∃ W:Nat->Nat->Hp->Prop,(∃ m,W 0 m (upd H1 D (.lst [])))/\∀ i m H2,W i m H2->((Itl K l).stop i H2/\R H2)\/
   ((
    Itl K l).go i H2/\∀ v H3,(Itl K l).yld i H2 v H3->og (some v::ck js σ) H3 λb H4=>if b=true then te (some v::ck js σ) H4 λy H5 =>
    ∃ ys,H5 D=some (.lst ys)/\ys.length < sizeLine/\∃ m',m' < m/\W (i+1) m' (upd H5 D (.lst (ys++[y]))) else ∃ m',m' < m/\W (i+1) m' H4):=by
 refine ⟨λi m H2=>m=3 - i/\i<=3/\aH H1 H2/\H2 D=some (.lst ([V.int (a.fdiv g),.int (b.fdiv g),.int (c.fdiv g)].take i)),⟨_,rfl,Nat.zero_le _,az hD _,af⟩,?_⟩;rintro i m H2 ⟨rfl,hi,sm,hlD⟩
 have sl:SqL K H2 l [.int a,.int b,.int c]:=SqL.of (sm _ _ hl)
 by_cases hlt:i < 3
 ·refine .inr ⟨⟨_,_,sl,List.getElem?_eq_getElem (show i < 3 from hlt)⟩,λv H3 y=>?_⟩;obtain ⟨rfl,y⟩:=y;have z:=y _ sl;refine lQ ?_;rcases (show i=0\/i=1\/i=2 by omega) with rfl | rfl | rfl
  ·cases z
   exact step _ _ _ ⟨_,hlD,bI (by simp),3 - 1,by omega,rfl,by omega,bc sm hD _,af⟩
  ·cases z
   exact step _ _ _ ⟨_,hlD,bI (by simp),3 - 2,by omega,rfl,by omega,bc sm hD _,af⟩
  ·cases z
   exact step _ _ _ ⟨_,hlD,bI (by simp),3 - 3,by omega,rfl,by omega,bc sm hD _,af⟩
 ·have ei:i=3:=by omega
  subst ei;exact .inl ⟨⟨_,sl,Nat.le_refl _⟩,fin _ sm hlD⟩
theorem DW {p q s t:Int} {a b:T3} (p0:0<=p) (q0:0<=q) (p1:p < 2 ^ 600) (q1:q < 2 ^ 600) (hs:s.natAbs < 2 ^ 2000) (ht:t.natAbs < 2 ^ 2000):0<=Hu.nm p q s t/\Bg (Hu.nm p q s t):=by
 obtain ⟨a,b⟩:=Hu.nm_b p0 q0 p1 q1 hs ht;exact ⟨a,eQ b (by decide)⟩
theorem gg_bg {U V W:Int} (h0:0 < U) (h:Bg U):Hu.gg U V W≠0/\Bg (Hu.gg U V W):=by
 have g0:=Hu.lF (V:=V) (W:=W) h0;have g1:=Hu.gg_le (V:=V) (W:=W) h0;exact ⟨by omega,Nat.lt_of_le_of_lt (by omega) h⟩
theorem ok_cb (T:aF K mg "corner_between" bU) (ir:mg "zip"=none) (ke:mg "abs"=none) (cY:mg "tuple"=none) (eX:Def P w K mg base 1 "common_factor" ["one","other"] pS):Def P w K mg base 2 "corner_between" ["one","other","at_one","at_other"] (spCB K):=by
 refine aW T iA (λ_ _ _ _ _ _=>L2.ar4 λ_ _ _ _=>rfl) ?_ ?_
 ·walk_at "i1";obtain ⟨x,y,p,q,s,t,rfl,_⟩:=h;rfl
 walk_at "i2";obtain ⟨x,y,p,q,s,t,rfl,dx,dy,hp,hq,st,hs,ht,k⟩:=h;obtain ⟨ax,rfl,sx⟩:=fO dx;obtain ⟨ay,rfl,sy⟩:=fO dy;have nd:=iA.nd;obtain ⟨u0,ub⟩:=DW (a:=p) (b:=p) (Int.le_of_lt hp.n0) (Int.le_of_lt hq.n0) hp.n1 hq.n1 hs ht;obtain ⟨v0,vb⟩:=DW (a:=p) (b:=p) hp.x0 hq.x0 hp.x1 hq.x1 hs ht;obtain ⟨w0,wb⟩:=DW (a:=p) (b:=p) hp.y0 hq.y0 hp.y1 hq.y1 hs ht;have up:=Hu.ju hp hq st;obtain ⟨g0,gb⟩:=gg_bg (V:=Hu.nm p.v q.v s t) (W:=Hu.nm p.w q.w s t) up ub;have bs:Bg (s.natAbs:Int):=eQ (n:=2000) (by simpa using hs) (by decide);have bt:Bg (t.natAbs:Int):=eQ (n:=2000) (by simpa using ht) (by decide);have pb:=r3b (hp.r.mono (by decide));have qb:=r3b (hq.r.mono (by decide))
 refine ⟨_,(ae (vN (i:=4) (xs:=["first","second"]) nd rfl (Or.inl rfl) (Or.inl rfl) rfl rfl (tS rfl ir (pv 0) (pv 1)) rfl (by decide+kernel) (by decide+kernel) (show ∀ p∈Scope.names _,p.2=NameKind.free->List.lookup p.1 (ak bU).names=some .cell\/List.lookup p.1 (ak bU).names=some .free by decide+kernel) (dX (j:=3) rfl (Or.inl rfl) (by decide+kernel) (Or.inl rfl) (dX (j:=2) rfl (Or.inl rfl) (by decide+kernel) (Or.inl rfl) dC)) (show (["first","second","at_other","at_one"]:List Str).Nodup by decide+kernel) (λ_ _ _ _=>jr (K:=K) (n:=2) rfl rfl (bE (aV (i:=0) (show (["first","second","at_other","at_one"]:List Str).Nodup by decide+kernel) rfl (Or.inl rfl) (.inr rfl)) (bE (aV (i:=1) (show (["first","second","at_other","at_one"]:List Str).Nodup by decide+kernel) rfl (Or.inl rfl) (.inr rfl)) fD))) (λ_ _ _ _=>(aP dB (aP bH (aN jZ rfl ke (by decide+kernel) (aa (pv 2) ah)) (pv 0)) (aP bH (aN jZ rfl ke (by decide+kernel) (aa (pv 3) ah)) (pv 1)))))
  (ae (aG (i:=5) nd rfl (Or.inr rfl) (aI eX (hr.mono (by decide)) rfl (aa (aI eX (hr.mono (by decide)) rfl (aa (aK bY (pv 4) ao (λ_ _=>rfl)) (aa (aK bY (pv 4) ao (λ_ _=>rfl)) ah))) (aa (aK bY (pv 4) ao (λ_ _=>rfl)) ah))))
  (aq (aD (iY gD rfl cY (by decide+kernel) (aa (fE rfl (bR (pv 4)) rfl (by decide+kernel) (by decide+kernel) rfl (show ∀ p∈Scope.names _,p.2=NameKind.free->List.lookup p.1 (ak bU).names=some .cell\/List.lookup p.1 (ak bU).names=some .free by decide+kernel) (dX (j:=5) rfl (Or.inl rfl) (by decide+kernel) (Or.inl rfl) dC) (show (["number","factor"]:List Str).Nodup by decide+kernel) (λ_ _ _ _=>gv) (λ_ _ _ _=>(aP iZ (pv 0) (pv 1)))) ah)))))),?_⟩
 refine ⟨_,rfl,_,rfl,ax,ay,_,_,rfl,rfl,sx,sy,λD hD=>?_⟩;refine ⟨λi m H2=>m=3 - i/\i<=3/\aH H H2/\H2 D=some (.lst ([V.int (Hu.nm p.u q.u s t),.int (Hu.nm p.v q.v s t),.int (Hu.nm p.w q.w s t)].take i)),⟨_,rfl,Nat.zero_le _,az hD _,af⟩,?_⟩;rintro i m H2 ⟨rfl,hi,sm,hlD⟩
 have sx2:=sx.ts sm.ts;have sy2:=sy.ts sm.ts
 by_cases hlt:i < 3
 ·refine .inr ⟨⟨_,_,sx2,sy2,hlt,Nat.le_refl _⟩,λo ho v H3 y=>?_⟩;obtain ⟨T',vs,nT,rfl,rfl,x,y,rfl,hx,hy⟩:=y;have zx:=hx _ sx2;have zy:=hy _ sy2;obtain ⟨o1,o2,rfl⟩:=len2 ho;have uT:=az nT (.tup [x,y]);refine ⟨T',_,rfl,SqT.of af,rfl,_,_,rfl,_,_,rfl,rfl,[some x,some y],rfl,rfl,?_⟩;have hlD2:=uT _ _ hlD;rcases (show i=0\/i=1\/i=2 by omega) with rfl | rfl | rfl
  ·cases zx
   cases zy
   refine ⟨_,rfl,_,rfl,_,rfl,_,_,rfl,rfl,(by rw [fH];exact fV bt pb.1),_,rfl,_,rfl,_,rfl,_,_,rfl,rfl,(by rw [fH];exact fV bs qb.1),_,_,rfl,rfl,?_⟩;refine ⟨_,hlD2,bI (by simp),3 - 1,by omega,rfl,by omega,bc (sm.trans uT) hD _,?_⟩;rw [af,fH,fH];rfl
  ·cases zx
   cases zy
   refine ⟨_,rfl,_,rfl,_,rfl,_,_,rfl,rfl,(by rw [fH];exact fV bt pb.2.1),_,rfl,_,rfl,_,rfl,_,_,rfl,rfl,(by rw [fH];exact fV bs qb.2.1),_,_,rfl,rfl,?_⟩;refine ⟨_,hlD2,bI (by simp),3 - 2,by omega,rfl,by omega,bc (sm.trans uT) hD _,?_⟩;rw [af,fH,fH];rfl
  ·cases zx
   cases zy
   refine ⟨_,rfl,_,rfl,_,rfl,_,_,rfl,rfl,(by rw [fH];exact fV bt pb.2.2),_,rfl,_,rfl,_,rfl,_,_,rfl,rfl,(by rw [fH];exact fV bs qb.2.2),_,_,rfl,rfl,?_⟩;refine ⟨_,hlD2,bI (by simp),3 - 3,by omega,rfl,by omega,bc (sm.trans uT) hD _,?_⟩;rw [af,fH,fH];rfl
 have ei:i=3:=by omega
 subst ei;refine .inl ⟨⟨_,_,sx2,sy2,Nat.le_refl _,Nat.le_refl _⟩,?_⟩;have hl3:H2 D=some (.lst [.int (Hu.nm p.u q.u s t),.int (Hu.nm p.v q.v s t),.int (Hu.nm p.w q.w s t)]):=hlD;have sD:SqL K H2 D [.int (Hu.nm p.u q.u s t),.int (Hu.nm p.v q.v s t),.int (Hu.nm p.w q.w s t)]:=SqL.of hl3;refine ⟨_,rfl,_,_,_,_,rfl,rfl,sD,rfl,_,rfl,_,_,_,_,rfl,rfl,sD,rfl,_,_,rfl,_,rfl,_,_,_,_,rfl,rfl,sD,rfl,_,_,rfl,?_⟩;refine ⟨_,rfl,D,rfl,⟨_,sD⟩,λD2 hD2=>?_⟩;refine EM (K:=K) (g:=Hu.gg (Hu.nm p.u q.u s t) (Hu.nm p.v q.v s t) (Hu.nm p.w q.w s t)) hl3 hD2 ?step ?fin
 case step =>
  intro n H' kk q;exact ⟨_,rfl,_,rfl,_,_,rfl,rfl,wI g0 gb,q⟩
 intro H' sm2 e2;refine ⟨D2,_,rfl,.inl ⟨SqL.of e2,λtt htt=>?_⟩⟩;have u3:=az htt (.tup [.int ((Hu.nm p.u q.u s t).fdiv (Hu.gg (Hu.nm p.u q.u s t) (Hu.nm p.v q.v s t) (Hu.nm p.w q.w s t))),.int ((Hu.nm p.v q.v s t).fdiv (Hu.gg (Hu.nm p.u q.u s t) (Hu.nm p.v q.v s t) (Hu.nm p.w q.w s t))),.int ((Hu.nm p.w q.w s t).fdiv (Hu.gg (Hu.nm p.u q.u s t) (Hu.nm p.v q.v s t) (Hu.nm p.w q.w s t)))]);exact k _ _ (sm.trans (sm2.trans u3)) (gE (p:=Hu.mid p q s t) (SqT.of af))
def uv (s:Stmt):List Stmt:=match s with
 | .For _ _ b _ _=>b
 | _=>[]
def stAt (s:Stmt) (i:Nat):Stmt:=(bP s).getD i (.Pass ⟨0,0,0,0⟩)
def CutR (K:W.Frag) (H H':Hp) (r:T3) (h:List T3) (v:V):Prop:=∃(t a b:Addr) (us1 us2:List V),v=.ref t/\a≠b/\H a=none/\H b=none/\SqT K H' t [.ref a,.ref b]/\H' a=some (.lst us1)/\H' b=some (.lst us2)/\DatAll K H' ((Hu.low r h).map t3D) us1/\DatAll K H' ((Hu.high r h).map t3D) us2
def CG (K:W.Frag) (CN:Addr):Sp:=λvs H Q E=>∃(l:Addr) (x:V) (us:List V) (h:List T3) (r:T3),vs=[.ref l,x]/\H l=some (.lst us)/\DatAll K H (h.map t3D) us/\Dat K H (t3D r) x/\Hu.xi 600 256 h/\Hu.R3 1200 r/\
 (Hu.kU r h->∀ H',aH H H'->E (.ref CN) none H')/\(¬Hu.kU r h->∀(v:V) (H':Hp),aH H H'->CutR K H H' r h v->Q v H')
structure MI (K:W.Frag) (H H':Hp) (lo hi:Addr) (L1 L2:List T3):Prop where
 sm:aH H H'
 ex:∃ us1 us2,H' lo=some (.lst us1)/\H' hi=some (.lst us2)/\DatAll K H' (L1.map t3D) us1/\DatAll K H' (L2.map t3D) us2
section
variable {K:W.Frag} {H H' H'':Hp} {lo hi:Addr} {L1 L2:List T3} {p:T3} {v:V} {us:List V}
theorem MI.new (m:MI K H H' lo hi L1 L2) (s:aH H' H''):MI K H H'' lo hi L1 L2:=by
 obtain ⟨u1,u2,e1,e2,d1,d2⟩:=m.ex;exact ⟨m.sm.trans s,u1,u2,s _ _ e1,s _ _ e2,d1.ts s.ts,d2.ts s.ts⟩
theorem MI.app1 (m:MI K H H' lo hi L1 L2) (h0:H lo=none) (ne:lo≠hi) (e:H' lo=some (.lst us)) (d:Dat K H' (t3D p) v):MI K H (upd H' lo (.lst (us++[v]))) lo hi (L1++[p]) L2:=by
 obtain ⟨u1,u2,e1,e2,d1,d2⟩:=m.ex;rw [e] at e1;cases e1
 have t:Tst H' (upd H' lo (.lst (us++[v]))):=dM e;refine ⟨bc m.sm h0 _,_,u2,af,by rw [aB (Ne.symm ne)];exact e2,?_,d2.ts t⟩;rw [List.map_append];exact (d1.ts t).snoc (d.ts t)
theorem MI.app2 (m:MI K H H' lo hi L1 L2) (h0:H hi=none) (ne:lo≠hi) (e:H' hi=some (.lst us)) (d:Dat K H' (t3D p) v):MI K H (upd H' hi (.lst (us++[v]))) lo hi L1 (L2++[p]):=by
 obtain ⟨u1,u2,e1,e2,d1,d2⟩:=m.ex;rw [e] at e2;cases e2
 have t:Tst H' (upd H' hi (.lst (us++[v]))):=dM e;refine ⟨bc m.sm h0 _,u1,_,by rw [aB ne];exact e1,af,d1.ts t,?_⟩;rw [List.map_append];exact (d2.ts t).snoc (d.ts t)
theorem MI.len (m:MI K H H' lo hi L1 L2) (l1:L1.length<=990) (l2:L2.length<=990):(∃ us,H' lo=some (.lst us)/\us.length<=1000)/\∃ us,H' hi=some (.lst us)/\us.length<=1000:=by
 obtain ⟨u1,u2,e1,e2,d1,d2⟩:=m.ex;exact ⟨⟨u1,e1,by rw [fS d1];omega⟩,u2,e2,by rw [fS d2];omega⟩
end
theorem pj {r:T3} {h:List T3} {i:Nat} (hi:i < h.length):atI ((h.map (Hu.tl r)).map V.int) ((i:Nat):Int)=some (.int (Hu.tv r h i)):=by
 refine bS ?_;rw [List.getElem?_map,List.getElem?_map,Hu.mE hi];rfl
theorem ok_cut {CN:Addr} (T:aF K mg "cut" jR) (mM:mg "NoCut"=some (.ref CN)) (X_NoCut:PySem.W.excIn K CN bmV "ValueError.__new__"=true) (cT:mg "min"=none) (dR:mg "max"=none) (fe:mg "enumerate"=none) (cK:mg "len"=none)
  (fM:Def P w K mg base 2 "told_in_corners" ["rule","hull"] (Ct K)) (nY:Def P w K mg base 2 "corner_between" ["one","other","at_one","at_other"] (spCB K)):cy P w K mg base 3 "cut" ["hull","rule"] (CG K CN):=by
 refine dG T CM (λ_ _ _ _ _ _=>L2.ar2 λ_ _=>rfl) ?_ ?_
 ·walk_at "i1";obtain ⟨l,x,us,h,r,rfl,_⟩:=h;rfl
 walk_at "i2";obtain ⟨l,x,us,h,r,rfl,hl,da,dx,hu,hr3,kn,kc⟩:=h;have nd:=CM.nd;have lu:=fS da;have hpos:=hu.pos;have hfew:=hu.few;have br:Hu.R3 3000 r:=hr3.mono (by decide);have bp:∀ p∈h,Hu.R3 3000 p:=λp hp=>((hu.ok p hp).r).mono (by decide);have tb:∀ i,(Hu.tv r h i).natAbs < 2 ^ 2000:=λi=>Nat.lt_of_lt_of_le (Hu.tl_b hr3 (hu.ok _ (Hu.dY hpos i)).r) (Nat.pow_le_pow_right (by decide) (by decide));have tB:∀ i,Bg (Hu.tv r h i):=λi=>eQ (tb i) (by decide)
 have t3:∃ t,PSs (eO (CXr P w) P w K mg base wk "cut" (ak jR) f cdv A outer s H E) ((uv (stAt jR 4)).drop 3) t/\
   ∀(
    N B:St->Hp->Prop) (H1 H':Hp) (d lo hi:Addr) (v:V) (i:Nat) (L1 L2:List T3) (o8:Option V),i < h.length->MI K H1 H' lo hi L1 L2->H1 l=some (.lst us)->H1 d=some (.lst ((h.map (Hu.tl r)).map V.int))->H1 lo=none->H1 hi=none->lo≠hi->DatAll K H1 (h.map t3D) us->Dat K H' (t3D (Hu.cor h i)) v->L1.length<=900->L2.length<=900->
    (∀(H'':Hp) (o8':Option V),MI K H1 H'' lo hi (L1++(if Hu.tv r h i*Hu.tv r h (i+1) < 0 then [Hu.mid (Hu.cor h i) (Hu.cor h (i+1)) (Hu.tv r h i) (Hu.tv r h (i+1))] else [])) (L2++(if Hu.tv r h i*Hu.tv r h (i+1) < 0 then [Hu.mid (Hu.cor h i) (Hu.cor h (i+1)) (Hu.tv r h i) (Hu.tv r h (i+1))] else []))->
     N [some (.ref l),some x,some (.ref d),some (.ref lo),some (.ref hi),some (.int i),some v,some (.int (((i+1) % h.length:Nat):Int)),o8'] H'')->
    t {nx:=N,ct:=N,bk:=B,rt:=Q} [some (.ref l),some x,some (.ref d),some (.ref lo),some (.ref hi),some (.int i),some v,some (.int (((i+1) % h.length:Nat):Int)),o8] H':=by
  refine ⟨_,(aq (aJ (au oA (aP bH (aK bY (pv 2) (pv 5) (λ_ _=>rfl)) (aK bY (pv 2) (pv 7) (λ_ _=>rfl))) ao (aC _)) (ae (aG (i:=8) nd rfl (Or.inl rfl) (aI nY (hr.mono (by decide)) rfl (aa (pv 6) (aa (aK bY (pv 0) (pv 7) (λ_ _=>rfl)) (aa (aK bY (pv 2) (pv 5) (λ_ _=>rfl)) (aa (aK bY (pv 2) (pv 7) (λ_ _=>rfl)) ah))))))
  (ae (aZ (dP PySem.F.plainAttrs_list PySem.F.slot_list_append PySem.F.type_list_append bA (pv 3) (aa (pv 8) ah)))
  (aq (aZ (dP PySem.F.plainAttrs_list PySem.F.slot_list_append PySem.F.type_list_append bA (pv 4) (aa (pv 8) ah)))))) av)),?_⟩
  intro N B H1 H' d lo hi v i L1 L2 o8 hi' mi hl1 hd1 hlo hhi ne da1 dv l1 l2 n;have jl:(i+1) % h.length < h.length:=Nat.mod_lt _ hpos;have sd:SqL K H' d ((h.map (Hu.tl r)).map V.int):=SqL.of (mi.sm _ _ hd1);have ai:=pj (r:=r) hi';have aj:=pj (r:=r) jl;rw [Hu.tv_mod] at aj;refine ⟨_,rfl,_,rfl,_,_,_,_,rfl,rfl,sd,ai,_,rfl,_,rfl,_,_,_,_,rfl,rfl,sd,aj,_,_,rfl,rfl,fV (tB _) (tB _),_,_,rfl,rfl,_,rfl,?_⟩;refine gG (λc=>?_) (λc=>?_)
  ·have c':Hu.tv r h i*Hu.tv r h (i+1) < 0:=of_decide_eq_true c;rw [if_pos c'] at n;obtain ⟨y,hy,dy⟩:=pN (da1.ts mi.sm.ts) (Hu.mE jl);rw [Hu.uA] at dy;have sl:SqL K H' l us:=SqL.of (mi.sm _ _ hl1);refine ⟨_,rfl,_,rfl,_,rfl,_,_,_,_,rfl,rfl,sl,bS hy,_,rfl,_,rfl,_,_,_,_,rfl,rfl,sd,ai,_,rfl,_,rfl,_,_,_,_,rfl,rfl,sd,aj,v,y,Hu.cor h i,Hu.cor h (i+1),_,_,rfl,dv,dy,hu.ok _ (Hu.dY hpos i),hu.ok _ (Hu.dY hpos (i+1)),c',tb _,tb _,λm H2 s2 dm=>?_⟩;have m2:=mi.new s2;obtain ⟨⟨u1,e1,k1⟩,u2,e2,k2⟩:=m2.len (by omega) (by omega);refine ⟨_,rfl,.inl ⟨rfl,_,SqL.of e1⟩,_,rfl,lo,u1,_,rfl,rfl,e1,bI k1,?_⟩;have m3:=m2.app1 hlo ne e1 dm;have e2':(upd H2 lo (.lst (u1++[m]))) hi=some (.lst u2):=by rw [aB (Ne.symm ne)];exact e2
   refine ⟨_,rfl,.inl ⟨rfl,_,SqL.of e2'⟩,_,rfl,hi,u2,_,rfl,rfl,e2',bI k2,?_⟩;exact n _ _ (m3.app2 hhi ne e2' (dm.ts (dM e1)))
  ·have c':¬Hu.tv r h i*Hu.tv r h (i+1) < 0:=λz=>c (decide_eq_true z);rw [if_neg c',List.append_nil,List.append_nil] at n;exact n _ _ mi
 obtain ⟨t3,ht3,hq3⟩:=t3
 have t2:∃ t,PSs (eO (CXr P w) P w K mg base wk "cut" (ak jR) f cdv A outer s H E) ((uv (stAt jR 4)).drop 2) t/\
   ∀(
    N B:St->Hp->Prop) (H1 H':Hp) (d lo hi:Addr) (v:V) (i:Nat) (L1 L2:List T3) (o8:Option V),i < h.length->MI K H1 H' lo hi L1 L2->H1 l=some (.lst us)->H1 d=some (.lst ((h.map (Hu.tl r)).map V.int))->H1 lo=none->H1 hi=none->lo≠hi->DatAll K H1 (h.map t3D) us->Dat K H' (t3D (Hu.cor h i)) v->L1.length<=800->L2.length<=800->
    (∀(H'':Hp) (o8':Option V),MI K H1 H'' lo hi (L1++(if Hu.tv r h i*Hu.tv r h (i+1) < 0 then [Hu.mid (Hu.cor h i) (Hu.cor h (i+1)) (Hu.tv r h i) (Hu.tv r h (i+1))] else [])) (L2++Hu.stp h (Hu.tn r h) i)->
     N [some (.ref l),some x,some (.ref d),some (.ref lo),some (.ref hi),some (.int i),some v,some (.int (((i+1) % h.length:Nat):Int)),o8'] H'')->
    t {nx:=N,ct:=N,bk:=B,rt:=Q} [some (.ref l),some x,some (.ref d),some (.ref lo),some (.ref hi),some (.int i),some v,some (.int (((i+1) % h.length:Nat):Int)),o8] H':=by
  refine ⟨_,ae (aJ (au vT (aK bY (pv 2) (pv 5) (λ_ _=>rfl)) ao (aC _)) (aq (aZ (dP PySem.F.plainAttrs_list PySem.F.slot_list_append PySem.F.type_list_append bA (pv 4) (aa (pv 6) ah)))) av) ht3,?_⟩;intro N B H1 H' d lo hi v i L1 L2 o8 hi' mi hl1 hd1 hlo hhi ne da1 dv l1 l2 n;have sd:SqL K H' d ((h.map (Hu.tl r)).map V.int):=SqL.of (mi.sm _ _ hd1);have ai:=pj (r:=r) hi';rw [Hu.Cm] at n;refine ⟨_,rfl,_,rfl,_,_,_,_,rfl,rfl,sd,ai,_,_,rfl,rfl,_,rfl,?_⟩;refine gG (λc=>?_) (λc=>?_)
  ·have c':0<=Hu.tv r h i:=of_decide_eq_true c;rw [if_pos c'] at n;obtain ⟨_,u2,e2,k2⟩:=mi.len (by omega) (by omega);refine ⟨_,rfl,.inl ⟨rfl,_,SqL.of e2⟩,_,rfl,hi,u2,_,rfl,rfl,e2,bI k2,?_⟩;refine hq3 N B H1 _ d lo hi v i L1 (L2++[Hu.cor h i]) o8 hi' (mi.app2 hhi ne e2 dv) hl1 hd1 hlo hhi ne da1 (dv.ts (dM e2)) (by omega) (by simp;omega) λH'' o' m=>n H'' o' ?_;rw [List.append_assoc] at m;exact m
  ·have c':¬0<=Hu.tv r h i:=λz=>c (decide_eq_true z);rw [if_neg c',List.nil_append] at n;exact hq3 N B H1 _ d lo hi v i L1 L2 o8 hi' mi hl1 hd1 hlo hhi ne da1 dv (by omega) (by omega) n
 obtain ⟨t2,ht2,hq2⟩:=t2
 have t1:∃ t,PSs (eO (CXr P w) P w K mg base wk "cut" (ak jR) f cdv A outer s H E) (uv (stAt jR 4)) t/\
   ∀(
    N B:St->Hp->Prop) (H1 H':Hp) (d lo hi:Addr) (v:V) (i:Nat) (L1 L2:List T3) (o7 o8:Option V),i < h.length->MI K H1 H' lo hi L1 L2->H1 l=some (.lst us)->H1 d=some (.lst ((h.map (Hu.tl r)).map V.int))->H1 lo=none->H1 hi=none->lo≠hi->DatAll K H1 (h.map t3D) us->Dat K H' (t3D (Hu.cor h i)) v->L1.length<=700->L2.length<=700->
    (∀(H'':Hp) (o7' o8':Option V),MI K H1 H'' lo hi (L1++Hu.stp h (Hu.tv r h) i) (L2++Hu.stp h (Hu.tn r h) i)->
     N [some (.ref l),some x,some (.ref d),some (.ref lo),some (.ref hi),some (.int i),some v,o7',o8'] H'')->
    t {nx:=N,ct:=N,bk:=B,rt:=Q} [some (.ref l),some x,some (.ref d),some (.ref lo),some (.ref hi),some (.int i),some v,o7,o8] H':=by
  refine ⟨_,ae (aG (i:=7) nd rfl (Or.inl rfl) (aP tY (aP dB (pv 5) ao) (aN di rfl cK (by decide+kernel) (aa (pv 0) ah)))) (ae (aJ (au oB (aK bY (pv 2) (pv 5) (λ_ _=>rfl)) ao (aC _)) (aq (aZ (dP PySem.F.plainAttrs_list PySem.F.slot_list_append PySem.F.type_list_append bA (pv 3) (aa (pv 6) ah)))) av) ht2),?_⟩;intro N B H1 H' d lo hi v i L1 L2 o7 o8 hi' mi hl1 hd1 hlo hhi ne da1 dv l1 l2 n;have sl:SqL K H' l us:=SqL.of (mi.sm _ _ hl1);have sd:SqL K H' d ((h.map (Hu.tl r)).map V.int):=SqL.of (mi.sm _ _ hd1);have ai:=pj (r:=r) hi';refine ⟨_,rfl,_,_,rfl,rfl,_,rfl,_,_,rfl,.inl ⟨_,sl,rfl⟩,_,_,rfl,rfl,(by rw [lu];omega),?_⟩;rw [lu];dsimp only;rw [Hu.EA];refine ⟨_,rfl,_,rfl,_,_,_,_,rfl,rfl,sd,ai,_,_,rfl,rfl,_,rfl,?_⟩;refine gG (λc=>?_) (λc=>?_)
  ·have c':Hu.tv r h i<=0:=of_decide_eq_true c;obtain ⟨⟨u1,e1,k1⟩,_⟩:=mi.len (by omega) (by omega);refine ⟨_,rfl,.inl ⟨rfl,_,SqL.of e1⟩,_,rfl,lo,u1,_,rfl,rfl,e1,bI k1,?_⟩;refine hq2 N B H1 _ d lo hi v i (L1++[Hu.cor h i]) L2 o8 hi' (mi.app1 hlo ne e1 dv) hl1 hd1 hlo hhi ne da1 (dv.ts (dM e1)) (by simp;omega) (by omega) λH'' o' m=>n H'' _ o' ?_;rw [List.append_assoc] at m;rw [show Hu.stp h (Hu.tv r h) i=[Hu.cor h i]++(if Hu.tv r h i*Hu.tv r h (i+1) < 0 then [Hu.mid (Hu.cor h i) (Hu.cor h (i+1)) (Hu.tv r h i) (Hu.tv r h (i+1))] else []) by unfold Hu.stp;rw [if_pos c']];exact m
  ·have c':¬Hu.tv r h i<=0:=λz=>c (decide_eq_true z);refine hq2 N B H1 _ d lo hi v i L1 L2 o8 hi' mi hl1 hd1 hlo hhi ne da1 dv (by omega) (by omega) λH'' o' m=>n H'' _ o' ?_;rw [show Hu.stp h (Hu.tv r h) i=(if Hu.tv r h i*Hu.tv r h (i+1) < 0 then [Hu.mid (Hu.cor h i) (Hu.cor h (i+1)) (Hu.tv r h i) (Hu.tv r h (i+1))] else []) by unfold Hu.stp;rw [if_neg c',List.nil_append]];exact m
 obtain ⟨t1,ht1,hq1⟩:=t1
 have t4:∃ t,PSs (eO (CXr P w) P w K mg base wk "cut" (ak jR) f cdv A outer s H E) ((bP jR).drop 2) t/\
   ∀(H1:Hp) (d:Addr),¬Hu.kU r h->aH H H1->H1 d=some (.lst ((h.map (Hu.tl r)).map V.int))->t {nx:=λ_ H'=>Q .non H',rt:=Q} [some (.ref l),some x,some (.ref d),none,none,none,none,none,none] H1:=by
  refine ⟨_,ae (aG (i:=3) nd rfl (Or.inl rfl) (bO ah)) (ae (aG (i:=4) nd rfl (Or.inl rfl) (bO ah)) (ae (eE PassesOwn.leaving rfl (zJ rfl fe (pv 0)) (qm rfl (bE (aV (i:=5) nd rfl (Or.inl rfl)) (bE (aV (i:=6) nd rfl (Or.inl rfl)) fD))) ht1) (aq (aD (bB (aa (pv 3) (aa (pv 4) ah))))))),?_⟩;intro H1 d nc sm hd;have hl1:=sm _ _ hl;have da1:=da.ts sm.ts;refine ⟨(by show 0<=sizeLine;decide),λlo hlo=>⟨(by show 0<=sizeLine;decide),λhi hhi=>?_⟩⟩;have u1:=az hlo (.lst []);have u2:=az hhi (.lst []);have ne:lo≠hi:=λz=>by subst z;rw [af] at hhi;cases hhi
  have hhi1:H1 hi=none:=by rw [aB (Ne.symm ne)] at hhi;exact hhi
  refine ⟨_,rfl,l,rfl,⟨us,SqL.of ((u1.trans u2) _ _ hl1)⟩,?_⟩
  refine wF (xs:=us) (λi σ H'=>i<=us.length/\MI K H1 H' lo hi (Hu.fl (Hu.stp h (Hu.tv r h)) i) (Hu.fl (Hu.stp h (Hu.tn r h)) i)/\∃ o5 o6 o7 o8,σ=[some (.ref l),some x,some (.ref d),some (.ref lo),some (.ref hi),o5,o6,o7,o8])
   ⟨Nat.zero_le _,⟨u1.trans u2,[],[],u2 _ _ af,af,rfl,rfl⟩,_,_,_,_,rfl⟩ (λi σ H' _ z=>SqL.of (z.2.1.sm _ _ hl1)) (λi v T' σ H' hv z hT=>?_) (λσ H' z=>?_)
  ·obtain ⟨_,mi,o5,o6,o7,o8,rfl⟩:=z;have hi':i < us.length:=(List.getElem?_eq_some_iff.mp hv).1;have uT:=az hT (.tup [.int i,v]);obtain ⟨p,hp,dp⟩:=jJ (da1.ts mi.sm.ts) hv;have ep:p=Hu.cor h i:=by rw [Hu.mE (by omega)] at hp;exact (Option.some.inj hp).symm
   subst ep;have f1:=Hu.yq (Hu.uV hu (Hu.tv r h)).len i;have f2:=Hu.yq (Hu.uV hu (Hu.tn r h)).len i;refine ⟨T',_,rfl,SqT.of af,rfl,_,_,rfl,_,_,rfl,rfl,?_⟩;refine hq1 _ _ H1 _ d lo hi v i _ _ o7 o8 (by omega) (mi.new uT) hl1 hd hlo hhi1 ne da1 (dp.ts uT.ts) (by omega) (by omega) λH'' o7' o8' m=>⟨hi',?_,_,_,_,_,rfl⟩;rw [Hu.bo,Hu.bo];exact m
  ·obtain ⟨_,mi,o5,o6,o7,o8,rfl⟩:=z;rw [lu] at mi;refine ⟨_,rfl,_,rfl,(by show 2<=sizeLine;decide),λtt htt=>?_⟩;have u3:=az htt (.tup [.ref lo,.ref hi]);obtain ⟨w1,w2,e1,e2,d1,d2⟩:=(mi.new u3).ex;refine kc nc _ _ (sm.trans (mi.sm.trans u3)) ⟨tt,lo,hi,w1,w2,rfl,ne,?_,?_,SqT.of af,e1,e2,d1,d2⟩
   ·exact sm.free hlo
   ·exact sm.free hhi1
 obtain ⟨t4,ht4,hq4⟩:=t4;refine ⟨_,ae (aG (i:=2) nd rfl (Or.inl rfl) (aI fM (hr.mono (by decide)) rfl (aa (pv 1) (aa (pv 0) ah)))) (ae (aJ (PW.pt (zE (au vT (aN (nR rfl) rfl cT (by decide+kernel) (aa (pv 2) ah)) ao (aC _)) (tM (au oB (aN (nS rfl) rfl dR (by decide+kernel) (aa (pv 2) ah)) ao (aC _))))) (aq (vO rfl mM X_NoCut (aa aR ah))) av) ht4),?_⟩;refine ⟨_,rfl,_,rfl,x,l,us,r,h,rfl,dx,SqL.of hl,da,br,bp,by omega,λH' s'=>SqL.of (s' _ _ hl),λd H1 s1 hd0 hd=>?_⟩;have hne:0 < (h.map (Hu.tl r)).length:=by rw [List.length_map];exact hpos
 refine ⟨_,rfl,d,_,rfl,SqL.of hd,hne,λM hM hmin=>?_⟩;refine ⟨_,_,rfl,rfl,_,rfl,?_⟩;refine gG (λc=>?_) (λc=>?_)
 ·have c':0<=M:=of_decide_eq_true c;exact ⟨(by show 1<=sizeLine;decide),kn (.inl λp hp=>Int.le_trans c' (hmin _ (List.mem_map.mpr ⟨p,hp,rfl⟩))) _ s1⟩
 have c1:¬0<=M:=λz=>c (decide_eq_true z);refine ⟨_,rfl,d,_,rfl,SqL.of hd,hne,λM2 hM2 hmax=>?_⟩;refine ⟨_,_,rfl,rfl,_,rfl,?_⟩;refine gG (λc=>?_) (λc=>?_)
 ·have c':M2<=0:=of_decide_eq_true c;exact ⟨(by show 1<=sizeLine;decide),kn (.inr λp hp=>Int.le_trans (hmax _ (List.mem_map.mpr ⟨p,hp,rfl⟩)) c') _ s1⟩
 have c2:¬M2<=0:=λz=>c (decide_eq_true z);obtain ⟨p1,hp1,ep1⟩:=List.mem_map.mp hM;obtain ⟨p2,hp2,ep2⟩:=List.mem_map.mp hM2;refine hq4 H1 d (λnc=>?_) s1 hd;rcases nc with z | z
 ·have:=z p1 hp1;omega
 ·have:=z p2 hp2;omega
def lw (k:Nat):Str:=if k=0 then "never" else if k=1 then "always" else if k=2 then "p" else "q"
def fw (k:Nat):Str:=if k=0 then "more" else if k=1 then "less" else if k=2 then "greater" else if k=3 then "lesser" else "leads"
def rwV:Hu.Row->List PyData
 | .lf k=>[.str (lw k)]
 | .nt i=>[.str "not",.int i]
 | .fd k i j=>[.str (fw k),.int i,.int j]
def rwX:Hu.Row->List V
 | .lf k=>[.str (lw k)]
 | .nt i=>[.str "not",.int i]
 | .fd k i j=>[.str (fw k),.int i,.int j]
def nB (r:Hu.Row):PyData:=.tuple (rwV r)
def lI (rows:List Hu.Row):Prop:=∀(k:Nat) (r:Hu.Row),rows[k]?=some r->r.Ok k
section
variable {K:W.Frag} {H H':Hp} {v:V} {r:Hu.Row}
theorem row_el (g:Dat K H (nB r) v):∃ a,v=.ref a/\SqT K H a (rwX r):=by
 cases r with
 | lf k =>
  obtain ⟨a,xs,rfl,g,x,t,rfl,hx,ht⟩:=g;cases (show x=V.str (lw k) from hx)
  cases (show t=[] from ht)
  exact ⟨a,rfl,g⟩
 | nt i =>
  obtain ⟨a,xs,rfl,g,x,t,rfl,hx,y,u,rfl,hy,ht⟩:=g;cases (show x=V.str "not" from hx)
  cases (show y=V.int i from hy)
  cases (show u=[] from ht)
  exact ⟨a,rfl,g⟩
 | fd k i j =>
  obtain ⟨a,xs,rfl,g,x,t,rfl,hx,y,u,rfl,hy,z,w,rfl,hz,ht⟩:=g;cases (show x=V.str (fw k) from hx)
  cases (show y=V.int i from hy)
  cases (show z=V.int j from hz)
  cases (show w=[] from ht)
  exact ⟨a,rfl,g⟩
theorem row_mk {a:Addr} (g:SqT K H a (rwX r)):Dat K H (nB r) (.ref a):=by
 cases r with
 | lf k=>exact ⟨a,_,rfl,g,_,_,rfl,rfl,rfl⟩
 | nt i=>exact ⟨a,_,rfl,g,_,_,rfl,rfl,_,_,rfl,rfl,rfl⟩
 | fd k i j=>exact ⟨a,_,rfl,g,_,_,rfl,rfl,_,_,rfl,rfl,_,_,rfl,rfl,rfl⟩
theorem row_at' {xs:List V} {rows:List Hu.Row} (g:DatAll K H (rows.map nB) xs) {i:Nat} {x:V} (e:xs[i]?=some x):∃ r,rows[i]?=some r/\Dat K H (nB r) x:=by
 obtain ⟨d,e1,e2⟩:=g.get' e;rw [List.getElem?_map] at e1;cases z:rows[i]? with
 | none=>rw [z] at e1;cases e1
 | some s=>rw [z] at e1;cases e1;exact ⟨s,rfl,e2⟩
theorem row_len {xs:List V} {rows:List Hu.Row} (g:DatAll K H (rows.map nB) xs):xs.length=rows.length:=by rw [g.len,List.length_map]
end
def sp2 (K:W.Frag) (f:T3->T3->T3):Sp:=λvs H Q _=>∃(x y:V) (p q:T3),vs=[x,y]/\Dat K H (t3D p) x/\Dat K H (t3D q) y/\∀(t:Addr) (H':Hp),aH H H'->Dat K H' (t3D (f p q)) (.ref t)->Q (.ref t) H'
def Ch (K:W.Frag) (H:Hp) (c:T3×T3×T3) (v:V):Prop:=∃(t:Addr) (x y z:V),v=.ref t/\SqT K H t [x,y,z]/\Dat K H (t3D c.1) x/\Dat K H (t3D c.2.1) y/\Dat K H (t3D c.2.2) z
def CA (K:W.Frag):Sp:=λvs H Q _=>∃ k:Nat,vs=[.str (lw k)]/\k < 4/\∀ v,Dat K H (t3D (Hu.lft k)) v->Q v H
def CD (K:W.Frag):Sp:=λvs H Q _=>∃(k:Nat) (x y:V) (a b:T3),vs=[.str (fw k),x,y]/\k < 5/\Dat K H (t3D a) x/\Dat K H (t3D b) y/\∀(v:V) (H':Hp),aH H H'->Ch K H' (Hu.fch k a b) v->Q v H'
theorem ok_both (T:aF K mg "both" qi) (ir:mg "zip"=none) (cY:mg "tuple"=none):Def P w K mg base 1 "both" ["one","other"] (sp2 K Hu.pl):=by
 refine aW T zt (λ_ _ _ _ _ _=>L2.ar2 λ_ _=>rfl) ?_ ?_
 ·walk_at "i1";obtain ⟨x,y,p,q,rfl,_⟩:=h;rfl
 walk_at "i2";obtain ⟨x,y,p,q,rfl,dx,dy,k⟩:=h;obtain ⟨ax,rfl,sx⟩:=fO dx;obtain ⟨ay,rfl,sy⟩:=fO dy;have nd:=zt.nd;refine ⟨_,(aq (aD (iY gD rfl cY (by decide+kernel) (aa (iX (xs:=["first","second"]) rfl (tS rfl ir (pv 0) (pv 1)) rfl (by decide+kernel) (by decide+kernel) (show ∀ p∈Scope.names _,p.2=NameKind.free->List.lookup p.1 (ak qi).names=some .cell\/List.lookup p.1 (ak qi).names=some .free by decide+kernel) dC (show (["first","second"]:List Str).Nodup by decide+kernel) (λ_ _ _ _=>jr (K:=K) (n:=2) rfl rfl (bE (aV (i:=0) (show (["first","second"]:List Str).Nodup by decide+kernel) rfl (Or.inl rfl) (.inr rfl)) (bE (aV (i:=1) (show (["first","second"]:List Str).Nodup by decide+kernel) rfl (Or.inl rfl) (.inr rfl)) fD))) (λ_ _ _ _=>(aP dB (pv 0) (pv 1)))) ah)))),?_⟩;refine ⟨_,rfl,_,rfl,ax,ay,_,_,rfl,rfl,sx,sy,λD hD=>?_⟩;refine ⟨λi m H2=>m=3 - i/\i<=3/\aH H H2/\H2 D=some (.lst ([V.int (p.u+q.u),.int (p.v+q.v),.int (p.w+q.w)].take i)),⟨_,rfl,Nat.zero_le _,az hD _,af⟩,?_⟩;rintro i m H2 ⟨rfl,hi,sm,hlD⟩
 have sx2:=sx.ts sm.ts;have sy2:=sy.ts sm.ts
 by_cases hlt:i < 3
 ·refine .inr ⟨⟨_,_,sx2,sy2,hlt,Nat.le_refl _⟩,λo ho v H3 y=>?_⟩;obtain ⟨T',vs,nT,rfl,rfl,x,y,rfl,hx,hy⟩:=y;have zx:=hx _ sx2;have zy:=hy _ sy2;obtain ⟨o1,o2,rfl⟩:=len2 ho;have uT:=az nT (.tup [x,y]);refine ⟨T',_,rfl,SqT.of af,rfl,_,_,rfl,_,_,rfl,rfl,[some x,some y],rfl,rfl,?_⟩;have hlD2:=uT _ _ hlD;rcases (show i=0\/i=1\/i=2 by omega) with rfl | rfl | rfl
  ·cases zx
   cases zy
   exact ⟨_,rfl,_,rfl,_,_,rfl,rfl,_,hlD2,bI (by simp),3 - 1,by omega,rfl,by omega,bc (sm.trans uT) hD _,af⟩
  ·cases zx
   cases zy
   exact ⟨_,rfl,_,rfl,_,_,rfl,rfl,_,hlD2,bI (by simp),3 - 2,by omega,rfl,by omega,bc (sm.trans uT) hD _,af⟩
  ·cases zx
   cases zy
   exact ⟨_,rfl,_,rfl,_,_,rfl,rfl,_,hlD2,bI (by simp),3 - 3,by omega,rfl,by omega,bc (sm.trans uT) hD _,af⟩
 have ei:i=3:=by omega
 subst ei;refine .inl ⟨⟨_,_,sx2,sy2,Nat.le_refl _,Nat.le_refl _⟩,?_⟩;refine ⟨D,_,rfl,.inl ⟨SqL.of hlD,λtt htt=>?_⟩⟩;exact k tt _ (sm.trans (az htt _)) (gE (p:=Hu.pl p q) (SqT.of af))
theorem xR (T:aF K mg "without" iU) (ir:mg "zip"=none) (cY:mg "tuple"=none):Def P w K mg base 1 "without" ["one","other"] (sp2 K Hu.mi):=by
 refine aW T pU (λ_ _ _ _ _ _=>L2.ar2 λ_ _=>rfl) ?_ ?_
 ·walk_at "i1";obtain ⟨x,y,p,q,rfl,_⟩:=h;rfl
 walk_at "i2";obtain ⟨x,y,p,q,rfl,dx,dy,k⟩:=h;obtain ⟨ax,rfl,sx⟩:=fO dx;obtain ⟨ay,rfl,sy⟩:=fO dy;have nd:=pU.nd;refine ⟨_,(aq (aD (iY gD rfl cY (by decide+kernel) (aa (iX (xs:=["first","second"]) rfl (tS rfl ir (pv 0) (pv 1)) rfl (by decide+kernel) (by decide+kernel) (show ∀ p∈Scope.names _,p.2=NameKind.free->List.lookup p.1 (ak iU).names=some .cell\/List.lookup p.1 (ak iU).names=some .free by decide+kernel) dC (show (["first","second"]:List Str).Nodup by decide+kernel) (λ_ _ _ _=>jr (K:=K) (n:=2) rfl rfl (bE (aV (i:=0) (show (["first","second"]:List Str).Nodup by decide+kernel) rfl (Or.inl rfl) (.inr rfl)) (bE (aV (i:=1) (show (["first","second"]:List Str).Nodup by decide+kernel) rfl (Or.inl rfl) (.inr rfl)) fD))) (λ_ _ _ _=>(aP gP (pv 0) (pv 1)))) ah)))),?_⟩;refine ⟨_,rfl,_,rfl,ax,ay,_,_,rfl,rfl,sx,sy,λD hD=>?_⟩;refine ⟨λi m H2=>m=3 - i/\i<=3/\aH H H2/\H2 D=some (.lst ([V.int (p.u - q.u),.int (p.v - q.v),.int (p.w - q.w)].take i)),⟨_,rfl,Nat.zero_le _,az hD _,af⟩,?_⟩;rintro i m H2 ⟨rfl,hi,sm,hlD⟩
 have sx2:=sx.ts sm.ts;have sy2:=sy.ts sm.ts
 by_cases hlt:i < 3
 ·refine .inr ⟨⟨_,_,sx2,sy2,hlt,Nat.le_refl _⟩,λo ho v H3 y=>?_⟩;obtain ⟨T',vs,nT,rfl,rfl,x,y,rfl,hx,hy⟩:=y;have zx:=hx _ sx2;have zy:=hy _ sy2;obtain ⟨o1,o2,rfl⟩:=len2 ho;have uT:=az nT (.tup [x,y]);refine ⟨T',_,rfl,SqT.of af,rfl,_,_,rfl,_,_,rfl,rfl,[some x,some y],rfl,rfl,?_⟩;have hlD2:=uT _ _ hlD;rcases (show i=0\/i=1\/i=2 by omega) with rfl | rfl | rfl
  ·cases zx
   cases zy
   exact ⟨_,rfl,_,rfl,_,_,rfl,rfl,_,hlD2,bI (by simp),3 - 1,by omega,rfl,by omega,bc (sm.trans uT) hD _,af⟩
  ·cases zx
   cases zy
   exact ⟨_,rfl,_,rfl,_,_,rfl,rfl,_,hlD2,bI (by simp),3 - 2,by omega,rfl,by omega,bc (sm.trans uT) hD _,af⟩
  ·cases zx
   cases zy
   exact ⟨_,rfl,_,rfl,_,_,rfl,rfl,_,hlD2,bI (by simp),3 - 3,by omega,rfl,by omega,bc (sm.trans uT) hD _,af⟩
 have ei:i=3:=by omega
 subst ei;refine .inl ⟨⟨_,_,sx2,sy2,Nat.le_refl _,Nat.le_refl _⟩,?_⟩;refine ⟨D,_,rfl,.inl ⟨SqL.of hlD,λtt htt=>?_⟩⟩;exact k tt _ (sm.trans (az htt _)) (gE (p:=Hu.mi p q) (SqT.of af))
theorem ok_leaf (T:aF K mg "leaf_rule" jP) (hG:eG K mg "NEVER" [0,0,0]) (fJ:eG K mg "ALWAYS" [0,0,1]) (lK:eG K mg "LETTER_P" [1,0,0]) (lJ:eG K mg "LETTER_Q" [0,1,0]):Def P w K mg base 1 "leaf_rule" ["word"] (CA K):=by
 refine aW T lV (λ_ _ _ _ _ _=>L2.ar1 λ_=>rfl) ?_ ?_
 ·walk_at "i1";obtain ⟨k,rfl,_⟩:=h;rfl
 walk_at "i2";obtain ⟨k,rfl,hk,q⟩:=h;obtain ⟨aNE,mO,sNE⟩:=hG.ex;obtain ⟨aAL,eS,sAL⟩:=fJ.ex;obtain ⟨aLP,yO,sLP⟩:=lK.ex;obtain ⟨aLQ,yN,sLQ⟩:=lJ.ex;have nd:=lV.nd
 refine ⟨_,(ae (aJ (au aM (pv 0) aR (aC _)) (aq (aD (bV (v:=V.ref aNE) rfl mO rfl))) av)
  (ae (aJ (au aM (pv 0) aR (aC _)) (aq (aD (bV (v:=V.ref aAL) rfl eS rfl))) av)
  (aq (aD (jV (au aM (pv 0) aR (aC _)) (bV (v:=V.ref aLP) rfl yO rfl) (bV (v:=V.ref aLQ) rfl yN rfl)))))),?_⟩
 rcases (by omega:k=0\/k=1\/k=2\/k=3) with rfl | rfl | rfl | rfl
 ·refine ⟨_,rfl,rfl,_,rfl,?_⟩;rw [show decide (V.str (lw 0)=V.str "never")=true by decide+kernel];exact cj (q _ (gE (p:=⟨0,0,0⟩) (sNE H)))
 ·refine ⟨_,rfl,rfl,_,rfl,?_⟩;rw [show decide (V.str (lw 1)=V.str "never")=false by decide+kernel];refine aT ?_;refine ⟨_,rfl,rfl,_,rfl,?_⟩;rw [show decide (V.str (lw 1)=V.str "always")=true by decide+kernel];exact cj (q _ (gE (p:=⟨0,0,1⟩) (sAL H)))
 ·refine ⟨_,rfl,rfl,_,rfl,?_⟩;rw [show decide (V.str (lw 2)=V.str "never")=false by decide+kernel];refine aT ?_;refine ⟨_,rfl,rfl,_,rfl,?_⟩;rw [show decide (V.str (lw 2)=V.str "always")=false by decide+kernel];refine aT ?_;refine ⟨_,rfl,rfl,_,rfl,?_⟩;rw [show decide (V.str (lw 2)=V.str "p")=true by decide+kernel];exact cj (q _ (gE (p:=⟨1,0,0⟩) (sLP H)))
 ·refine ⟨_,rfl,rfl,_,rfl,?_⟩;rw [show decide (V.str (lw 3)=V.str "never")=false by decide+kernel];refine aT ?_;refine ⟨_,rfl,rfl,_,rfl,?_⟩;rw [show decide (V.str (lw 3)=V.str "always")=false by decide+kernel];refine aT ?_;refine ⟨_,rfl,rfl,_,rfl,?_⟩;rw [show decide (V.str (lw 3)=V.str "p")=false by decide+kernel];exact aT (q _ (gE (p:=⟨0,1,0⟩) (sLQ H)))
theorem ok_fold (T:aF K mg "fold_choice" iG) (hG:eG K mg "NEVER" [0,0,0]) (fJ:eG K mg "ALWAYS" [0,0,1]) (rd:Def P w K mg base 1 "both" ["one","other"] (sp2 K Hu.pl)) (dZ:Def P w K mg base 1 "without" ["one","other"] (sp2 K Hu.mi)):Def P w K mg base 2 "fold_choice" ["word","one","other"] (CD K):=by
 refine aW T jN (λ_ _ _ _ _ _=>L2.ar3 λ_ _ _=>rfl) ?_ ?_
 ·walk_at "i1";obtain ⟨k,x,y,a,b,rfl,_⟩:=h;rfl
 walk_at "i2";obtain ⟨k,x,y,a,b,rfl,hk,dx,dy,q⟩:=h;obtain ⟨aNE,mO,sNE⟩:=hG.ex;obtain ⟨aAL,eS,sAL⟩:=fJ.ex;have dAL:∀ H,Dat K H (t3D Hu.al) (.ref aAL):=λH=>gE (p:=Hu.al) (sAL H);have dNE:∀ H,Dat K H (t3D Hu.z0) (.ref aNE):=λH=>gE (p:=Hu.z0) (sNE H);have nd:=jN.nd
 refine ⟨_,(ae (aJ (au aM (pv 0) aR (aC _)) (aq (aD (bB (aa (aI dZ (hr.mono (by decide)) rfl (aa (aI rd (hr.mono (by decide)) rfl (aa (pv 1) (aa (pv 2) ah))) (aa (bV (v:=V.ref aAL) rfl eS rfl) ah))) (aa (aI rd (hr.mono (by decide)) rfl (aa (pv 1) (aa (pv 2) ah))) (aa (bV (v:=V.ref aAL) rfl eS rfl) ah)))))) av)
  (ae (aJ (au aM (pv 0) aR (aC _)) (aq (aD (bB (aa (aI dZ (hr.mono (by decide)) rfl (aa (aI rd (hr.mono (by decide)) rfl (aa (pv 1) (aa (pv 2) ah))) (aa (bV (v:=V.ref aAL) rfl eS rfl) ah))) (aa (bV (v:=V.ref aNE) rfl mO rfl) (aa (aI dZ (hr.mono (by decide)) rfl (aa (aI rd (hr.mono (by decide)) rfl (aa (pv 1) (aa (pv 2) ah))) (aa (bV (v:=V.ref aAL) rfl eS rfl) ah))) ah)))))) av)
  (ae (aJ (au aM (pv 0) aR (aC _)) (aq (aD (bB (aa (aI dZ (hr.mono (by decide)) rfl (aa (pv 1) (aa (pv 2) ah))) (aa (pv 2) (aa (pv 1) ah)))))) av)
  (ae (aJ (au aM (pv 0) aR (aC _)) (aq (aD (bB (aa (aI dZ (hr.mono (by decide)) rfl (aa (pv 1) (aa (pv 2) ah))) (aa (pv 1) (aa (pv 2) ah)))))) av)
  (aq (aD (bB (aa (aI dZ (hr.mono (by decide)) rfl (aa (pv 2) (aa (pv 1) ah))) (aa (aI rd (hr.mono (by decide)) rfl (aa (bV (v:=V.ref aAL) rfl eS rfl) (aa (aI dZ (hr.mono (by decide)) rfl (aa (pv 2) (aa (pv 1) ah))) ah))) (aa (bV (v:=V.ref aAL) rfl eS rfl) ah)))))))))),?_⟩
 have d2:(2:Nat)<=sizeLine:=by decide
 have d3:(3:Nat)<=sizeLine:=by decide
 rcases (by omega:k=0\/k=1\/k=2\/k=3\/k=4) with rfl | rfl | rfl | rfl | rfl
 ·refine ⟨_,rfl,rfl,_,rfl,?_⟩;rw [show decide (V.str (fw 0)=V.str "more")=true by decide+kernel];refine cj ?_;refine ⟨_,rfl,_,rfl,_,_,a,b,rfl,dx,dy,λt1 H1 s1 e1=>?_⟩;refine ⟨_,_,_,_,rfl,e1,dAL H1,λt2 H2 s2 e2=>?_⟩;have m2:=s1.trans s2;refine ⟨_,rfl,_,rfl,_,_,a,b,rfl,dx.ts m2.ts,dy.ts m2.ts,λt3 H3 s3 e3=>⟨d3,λt ht=>?_⟩⟩;have u:=az ht (.tup [.ref t2,.ref t3,.ref aAL]);exact q _ _ (m2.trans (s3.trans u)) ⟨t,_,_,_,rfl,SqT.of af,(e2.ts s3.ts).ts u.ts,e3.ts u.ts,dAL _⟩
 ·refine ⟨_,rfl,rfl,_,rfl,?_⟩;rw [show decide (V.str (fw 1)=V.str "more")=false by decide+kernel];refine aT ?_;refine ⟨_,rfl,rfl,_,rfl,?_⟩;rw [show decide (V.str (fw 1)=V.str "less")=true by decide+kernel];refine cj ?_;refine ⟨_,rfl,_,rfl,_,_,a,b,rfl,dx,dy,λt1 H1 s1 e1=>?_⟩;refine ⟨_,_,_,_,rfl,e1,dAL H1,λt2 H2 s2 e2=>?_⟩;have m2:=s1.trans s2;refine ⟨_,rfl,_,rfl,_,_,a,b,rfl,dx.ts m2.ts,dy.ts m2.ts,λt3 H3 s3 e3=>?_⟩;refine ⟨_,_,_,_,rfl,e3,dAL H3,λt4 H4 s4 e4=>⟨d3,λt ht=>?_⟩⟩;have u:=az ht (.tup [.ref t2,.ref aNE,.ref t4]);exact q _ _ (m2.trans (s3.trans (s4.trans u))) ⟨t,_,_,_,rfl,SqT.of af,((e2.ts s3.ts).ts s4.ts).ts u.ts,dNE _,e4.ts u.ts⟩
 ·refine ⟨_,rfl,rfl,_,rfl,?_⟩;rw [show decide (V.str (fw 2)=V.str "more")=false by decide+kernel];refine aT ?_;refine ⟨_,rfl,rfl,_,rfl,?_⟩;rw [show decide (V.str (fw 2)=V.str "less")=false by decide+kernel];refine aT ?_;refine ⟨_,rfl,rfl,_,rfl,?_⟩;rw [show decide (V.str (fw 2)=V.str "greater")=true by decide+kernel];refine cj ?_;refine ⟨_,rfl,_,rfl,_,_,a,b,rfl,dx,dy,λt1 H1 s1 e1=>?_⟩;refine ⟨_,rfl,_,rfl,d3,λt ht=>?_⟩;have u:=az ht (.tup [.ref t1,y,x]);exact q _ _ (s1.trans u) ⟨t,_,_,_,rfl,SqT.of af,e1.ts u.ts,(dy.ts s1.ts).ts u.ts,(dx.ts s1.ts).ts u.ts⟩
 ·refine ⟨_,rfl,rfl,_,rfl,?_⟩;rw [show decide (V.str (fw 3)=V.str "more")=false by decide+kernel];refine aT ?_;refine ⟨_,rfl,rfl,_,rfl,?_⟩;rw [show decide (V.str (fw 3)=V.str "less")=false by decide+kernel];refine aT ?_;refine ⟨_,rfl,rfl,_,rfl,?_⟩;rw [show decide (V.str (fw 3)=V.str "greater")=false by decide+kernel];refine aT ?_;refine ⟨_,rfl,rfl,_,rfl,?_⟩;rw [show decide (V.str (fw 3)=V.str "lesser")=true by decide+kernel];refine cj ?_;refine ⟨_,rfl,_,rfl,_,_,a,b,rfl,dx,dy,λt1 H1 s1 e1=>?_⟩;refine ⟨_,rfl,_,rfl,d3,λt ht=>?_⟩;have u:=az ht (.tup [.ref t1,x,y]);exact q _ _ (s1.trans u) ⟨t,_,_,_,rfl,SqT.of af,e1.ts u.ts,(dx.ts s1.ts).ts u.ts,(dy.ts s1.ts).ts u.ts⟩
 ·refine ⟨_,rfl,rfl,_,rfl,?_⟩;rw [show decide (V.str (fw 4)=V.str "more")=false by decide+kernel];refine aT ?_;refine ⟨_,rfl,rfl,_,rfl,?_⟩;rw [show decide (V.str (fw 4)=V.str "less")=false by decide+kernel];refine aT ?_;refine ⟨_,rfl,rfl,_,rfl,?_⟩;rw [show decide (V.str (fw 4)=V.str "greater")=false by decide+kernel];refine aT ?_;refine ⟨_,rfl,rfl,_,rfl,?_⟩;rw [show decide (V.str (fw 4)=V.str "lesser")=false by decide+kernel];refine aT ?_;refine ⟨_,rfl,_,rfl,_,_,b,a,rfl,dy,dx,λt1 H1 s1 e1=>?_⟩;refine ⟨_,rfl,_,rfl,_,_,b,a,rfl,dy.ts s1.ts,dx.ts s1.ts,λt2 H2 s2 e2=>?_⟩;refine ⟨_,_,_,_,rfl,dAL H2,e2,λt3 H3 s3 e3=>⟨d3,λt ht=>?_⟩⟩;have u:=az ht (.tup [.ref t1,.ref t3,.ref aAL]);exact q _ _ (s1.trans (s2.trans (s3.trans u))) ⟨t,_,_,_,rfl,SqT.of af,((e1.ts s2.ts).ts s3.ts).ts u.ts,e3.ts u.ts,dAL _⟩
def vd (K:W.Frag):Sp:=λvs H Q _=>∃(x:V) (lr:Addr) (ws:List V) (r:Hu.Row) (rs:List T3),vs=[x,.ref lr]/\Dat K H (nB r) x/\H lr=some (.lst ws)/\DatAll K H (rs.map t3D) ws/\r.Ok rs.length/\∀(v:V) (H':Hp),aH H H'->Ch K H' (Hu.choice rs r) v->Q v H'
def va (K:W.Frag):Sp:=λvs H Q _=>∃(l:Addr) (v:V) (us:List V) (h:List T3) (c:T3×T3×T3),vs=[.ref l,v]/\H l=some (.lst us)/\DatAll K H (h.map t3D) us/\Ch K H c v/\Hu.R3 3000 c.1/\(∀ p∈h,Hu.R3 3000 p)/\0 < h.length/\h.length<=900/\
 (∀(x:T3) (u:V) (H':Hp),aH H H'->Hu.bu h c=some x->Dat K H' (t3D x) u->Q u H')/\(Hu.bu h c=none->∀ H',aH H H'->Q .non H')
def pw (K:W.Frag):Sp:=λvs H Q _=>∃(l lh:Addr) (us hs:List V) (rows:List Hu.Row) (h:List T3),vs=[.ref l,.ref lh]/\H l=some (.lst us)/\DatAll K H (rows.map nB) us/\lI rows/\0 < rows.length/\rows.length<=100/\H lh=some (.lst hs)/\DatAll K H (h.map t3D) hs/\(∀ p∈h,Hu.R3 3000 p)/\0 < h.length/\h.length<=900/\
 (∀(rs:List T3) (t lr:Addr) (ws:List V) (H':Hp),aH H H'->Hu.run h rows []=.rules rs->Hu.Rb rs->rs.length=rows.length->H lr=none->SqT K H' t [.str "rules",.ref lr]->H' lr=some (.lst ws)->DatAll K H' (rs.map t3D) ws->Q (.ref t) H')/\
 (∀(k:Nat) (tt:T3) (t:Addr) (v:V) (H':Hp),aH H H'->Hu.run h rows []=.mixed k tt->k < rows.length->Hu.R3 (k+1) tt->SqT K H' t [.str "mixed",.int k,v]->Dat K H' (t3D tt) v->Q (.ref t) H')
theorem getD_at {rs:List T3} {i:Nat} (hi:i < rs.length):rs[i]?=some (rs.getD i Hu.z0):=by rw [List.getD_eq_getElem?_getD,List.getElem?_eq_getElem hi];rfl
theorem AZ (T:aF K mg "choice_of" jT) (cK:mg "len"=none) (hG:eG K mg "NEVER" [0,0,0]) (fJ:eG K mg "ALWAYS" [0,0,1]) (dZ:Def P w K mg base 1 "without" ["one","other"] (sp2 K Hu.mi)) (xj:Def P w K mg base 1 "leaf_rule" ["word"] (CA K))
  (rG:Def P w K mg base 2 "fold_choice" ["word","one","other"] (CD K)):Def P w K mg base 3 "choice_of" ["row","rules"] (vd K):=by
 refine aW T lY (λ_ _ _ _ _ _=>L2.ar2 λ_ _=>rfl) ?_ ?_
 ·walk_at "i1";obtain ⟨x,lr,ws,r,rs,rfl,_⟩:=h;rfl
 walk_at "i2";obtain ⟨x,lr,ws,r,rs,rfl,dx,hl,da,ok,q⟩:=h;obtain ⟨aNE,mO,sNE⟩:=hG.ex;obtain ⟨aAL,eS,sAL⟩:=fJ.ex;have dAL:∀ H,Dat K H (t3D Hu.al) (.ref aAL):=λH=>gE (p:=Hu.al) (sAL H);have dNE:∀ H,Dat K H (t3D Hu.z0) (.ref aNE):=λH=>gE (p:=Hu.z0) (sNE H);obtain ⟨a,rfl,sx⟩:=row_el dx;have nd:=lY.nd;have d3:(3:Nat)<=sizeLine:=by decide
 have sl:SqL K H lr ws:=SqL.of hl
 refine ⟨_,(ae (aJ (au aM (aN di rfl cK (by decide+kernel) (aa (pv 0) ah)) ao (aC _)) (aq (aD (aI rG (hr.mono (by decide)) rfl (aa (aK aL (pv 0) ao (λ_ _=>rfl)) (aa (aK bY (pv 1) (aK aL (pv 0) ao (λ_ _=>rfl)) (λ_ _=>rfl)) (aa (aK bY (pv 1) (aK aL (pv 0) ao (λ_ _=>rfl)) (λ_ _=>rfl)) ah)))))) av)
  (ae (aG (i:=2) nd rfl (Or.inl rfl) (jV (au aM (aN di rfl cK (by decide+kernel) (aa (pv 0) ah)) ao (aC _)) (aI xj (hr.mono (by decide)) rfl (aa (aK aL (pv 0) ao (λ_ _=>rfl)) ah)) (aI dZ (hr.mono (by decide)) rfl (aa (bV (v:=V.ref aAL) rfl eS rfl) (aa (aK bY (pv 1) (aK aL (pv 0) ao (λ_ _=>rfl)) (λ_ _=>rfl)) ah)))))
  (aq (aD (bB (aa (bV (v:=V.ref aNE) rfl mO rfl) (aa (pv 2) (aa (pv 2) ah)))))))),?_⟩
 cases r with
 | fd k i j =>
  obtain ⟨hk,hi,hj⟩:=ok;obtain ⟨y,hy,dy⟩:=pN da (getD_at hi);obtain ⟨z,hz,dz⟩:=pN da (getD_at hj);refine ⟨_,rfl,_,_,rfl,.inr ⟨_,sx,rfl⟩,rfl,_,rfl,cj ?_⟩;exact ⟨_,rfl,_,_,_,_,rfl,rfl,sx,rfl,_,rfl,_,rfl,_,_,_,_,rfl,rfl,sx,rfl,_,_,_,_,rfl,rfl,sl,bS hy,_,rfl,_,rfl,_,_,_,_,rfl,rfl,sx,rfl,_,_,_,_,rfl,rfl,sl,bS hz,k,_,_,_,_,rfl,hk,dy,dz,q⟩
 | lf k =>
  refine ⟨_,rfl,_,_,rfl,.inr ⟨_,sx,rfl⟩,rfl,_,rfl,aT ?_⟩;refine ⟨_,rfl,_,_,rfl,.inr ⟨_,sx,rfl⟩,rfl,_,rfl,cj ?_⟩;refine ⟨_,rfl,_,_,_,_,rfl,rfl,sx,rfl,k,rfl,ok,λv dv=>?_⟩;refine ⟨_,rfl,_,rfl,d3,λt ht=>?_⟩;have u:=az ht (.tup [.ref aNE,v,v]);exact q _ _ u ⟨t,_,_,_,rfl,SqT.of af,dNE _,dv.ts u.ts,dv.ts u.ts⟩
 | nt i =>
  obtain ⟨y,hy,dy⟩:=pN da (getD_at (show i < rs.length from ok));refine ⟨_,rfl,_,_,rfl,.inr ⟨_,sx,rfl⟩,rfl,_,rfl,aT ?_⟩;refine ⟨_,rfl,_,_,rfl,.inr ⟨_,sx,rfl⟩,rfl,_,rfl,aT ?_⟩;refine ⟨_,rfl,_,rfl,_,_,_,_,rfl,rfl,sx,rfl,_,_,_,_,rfl,rfl,sl,bS hy,_,_,_,_,rfl,dAL H,dy,λt1 H1 s1 e1=>?_⟩;refine ⟨_,rfl,_,rfl,d3,λt ht=>?_⟩;have u:=az ht (.tup [.ref aNE,.ref t1,.ref t1]);exact q _ _ (s1.trans u) ⟨t,_,_,_,rfl,SqT.of af,dNE _,e1.ts u.ts,e1.ts u.ts⟩
theorem AY (T:aF K mg "chosen_on" jS) (dR:mg "max"=none) (cT:mg "min"=none) (fM:Def P w K mg base 2 "told_in_corners" ["rule","hull"] (Ct K)):Def P w K mg base 3 "chosen_on" ["hull","choice"] (va K):=by
 refine aW T lX (λ_ _ _ _ _ _=>L2.ar2 λ_ _=>rfl) ?_ ?_
 ·walk_at "i1";obtain ⟨l,v,us,h,c,rfl,_⟩:=h;rfl
 walk_at "i2";obtain ⟨l,v,us,h,c,rfl,hl,da,⟨t,x,y,z,rfl,st,d1,d2,d3⟩,br,bp,pos,few,qs,qn⟩:=h;have nd:=lX.nd
 refine ⟨_,(ae (aG (i:=2) nd rfl (Or.inl rfl) (aI fM (hr.mono (by decide)) rfl (aa (aK aL (pv 1) ao (λ_ _=>rfl)) (aa (pv 0) ah))))
  (ae (aJ (au oB (aN (nS rfl) rfl dR (by decide+kernel) (aa (pv 2) ah)) ao (aC _)) (aq (aD (aK aL (pv 1) ao (λ_ _=>rfl)))) av)
  (ae (aJ (au vT (aN (nR rfl) rfl cT (by decide+kernel) (aa (pv 2) ah)) ao (aC _)) (aq (aD (aK aL (pv 1) ao (λ_ _=>rfl)))) av)
  (aq (aD cI))))),?_⟩
 refine ⟨_,rfl,_,_,_,_,rfl,rfl,st,rfl,_,rfl,x,l,us,c.1,h,rfl,d1,SqL.of hl,da,br,bp,few,λH' s'=>SqL.of (s' _ _ hl),λd H1 s1 _ hd=>?_⟩;have hne:0 < (h.map (Hu.tl c.1)).length:=by rw [List.length_map];exact pos
 have st1:=st.ts s1.ts;refine ⟨_,rfl,d,_,rfl,SqL.of hd,hne,λM hM hmax=>?_⟩;refine ⟨_,_,rfl,rfl,_,rfl,?_⟩;obtain ⟨p1,hp1,ep1⟩:=List.mem_map.mp hM;refine gG (λcc=>?_) (λcc=>?_)
 ·have c':M<=0:=of_decide_eq_true cc;have al:∀ q∈h,Hu.tl c.1 q<=0:=λq hq=>Int.le_trans (hmax _ (List.mem_map.mpr ⟨q,hq,rfl⟩)) c';exact ⟨_,rfl,_,_,_,_,rfl,rfl,st1,rfl,qs _ _ _ s1 (by unfold Hu.bu;rw [if_pos al]) (d2.ts s1.ts)⟩
 have c1:¬M<=0:=λz=>cc (decide_eq_true z);have n1:¬ ∀ q∈h,Hu.tl c.1 q<=0:=λz=>by have:=z p1 hp1;omega
 refine ⟨_,rfl,d,_,rfl,SqL.of hd,hne,λM2 hM2 hmin=>?_⟩;refine ⟨_,_,rfl,rfl,_,rfl,?_⟩;obtain ⟨p2,hp2,ep2⟩:=List.mem_map.mp hM2;refine gG (λcc=>?_) (λcc=>?_)
 ·have c':0<=M2:=of_decide_eq_true cc;have al:∀ q∈h,0<=Hu.tl c.1 q:=λq hq=>Int.le_trans c' (hmin _ (List.mem_map.mpr ⟨q,hq,rfl⟩));exact ⟨_,rfl,_,_,_,_,rfl,rfl,st1,rfl,qs _ _ _ s1 (by unfold Hu.bu;rw [if_neg n1,if_pos al]) (d3.ts s1.ts)⟩
 ·have c2:¬0<=M2:=λz=>cc (decide_eq_true z);have n2:¬ ∀ q∈h,0<=Hu.tl c.1 q:=λz=>by have:=z p2 hp2;omega
  exact qn (by unfold Hu.bu;rw [if_neg n1,if_neg n2]) _ s1
theorem DG (T:aF K mg "rules_of_rows" gH) (fe:mg "enumerate"=none) (xo:Def P w K mg base 3 "choice_of" ["row","rules"] (vd K)) (xm:Def P w K mg base 3 "chosen_on" ["hull","choice"] (va K)):Def P w K mg base 4 "rules_of_rows" ["rows","hull"] (pw K):=by
 refine aW T iQ (λ_ _ _ _ _ _=>L2.ar2 λ_ _=>rfl) ?_ ?_
 ·walk_at "i1";obtain ⟨l,lh,us,hs,rows,h,rfl,_⟩:=h;rfl
 walk_at "i2";obtain ⟨l,lh,us,hs,rows,h,rfl,hl,da,ok,ne,few,hlh,dh,bp,pos,hfew,q1,q2⟩:=h;have nd:=iQ.nd;have lu:=row_len da;have d2:(2:Nat)<=sizeLine:=by decide
 have d3:(3:Nat)<=sizeLine:=by decide
 refine ⟨_,(ae (aG (i:=2) nd rfl (Or.inl rfl) (bO ah))
  (ae (eE PassesOwn.never rfl (zJ rfl fe (pv 0)) (qm rfl (bE (aV (i:=3) nd rfl (Or.inl rfl)) (bE (aV (i:=4) nd rfl (Or.inl rfl)) fD))) (ae (aG (i:=5) nd rfl (Or.inl rfl) (aI xo (hr.mono (by decide)) rfl (aa (pv 4) (aa (pv 2) ah))))
  (ae (aG (i:=6) nd rfl (Or.inl rfl) (aI xm (hr.mono (by decide)) rfl (aa (pv 1) (aa (pv 5) ah))))
  (ae (aJ (au nH (pv 6) cI (aC _)) (aq (aD (bB (aa aR (aa (pv 3) (aa (aK aL (pv 5) ao (λ_ _=>rfl)) ah)))))) av)
  (aq (aZ (dP PySem.F.plainAttrs_list PySem.F.slot_list_append PySem.F.type_list_append bA (pv 2) (aa (pv 6) ah))))))))
  (aq (aD (bB (aa aR (aa (pv 2) ah))))))),?_⟩
 refine ⟨(by show 0<=sizeLine;decide),λlr hlr=>?_⟩;have u0:=az hlr (.lst []);have nl:l≠lr:=aA hl hlr;refine ⟨_,rfl,l,rfl,⟨us,SqL.of (u0 _ _ hl)⟩,?_⟩
 refine wF (xs:=us) (λi σ H'=>i<=us.length/\aH H H'/\∃(ws:List V) (rs:List T3) (o3 o4 o5 o6:Option V),σ=[some (.ref l),some (.ref lh),some (.ref lr),o3,o4,o5,o6]/\H' lr=some (.lst ws)/\DatAll K H' (rs.map t3D) ws/\rs.length=i/\Hu.Rb rs/\Hu.run h rows []=Hu.run h (rows.drop i) rs)
  ⟨Nat.zero_le _,u0,[],[],_,_,_,_,rfl,af,rfl,rfl,(λi x e=>by simp at e),rfl⟩ (λi σ H' _ z=>SqL.of (z.2.1 _ _ hl)) (λi v T' σ H' hv z hT=>?_) (λσ H' z=>?_)
 ·obtain ⟨_,sm,ws,rs,o3,o4,o5,o6,rfl,hr',dr,lrs,rb,er⟩:=z;have hi:i < us.length:=(List.getElem?_eq_some_iff.mp hv).1;have uT:=az hT (.tup [.int i,v]);have s2:=sm.trans uT;obtain ⟨r,er',dv⟩:=row_at' (da.ts s2.ts) hv;have okr:r.Ok rs.length:=by rw [lrs];exact ok i r er'
  have dp:rows.drop i=r::rows.drop (i+1):=by
   obtain ⟨g1,g2⟩:=List.getElem?_eq_some_iff.mp er';rw [<- g2];exact List.drop_eq_getElem_cons g1
  rw [dp] at er;obtain ⟨cb,_,_⟩:=Hu.qU rb okr;refine ⟨T',_,rfl,SqT.of af,rfl,_,_,rfl,_,_,rfl,rfl,?_⟩;refine ⟨_,rfl,_,rfl,v,lr,ws,r,rs,rfl,dv,uT _ _ hr',dr.ts uT.ts,okr,λc H3 s3 hc=>?_⟩;have m3:=s2.trans s3;have hr3:=s3 _ _ (uT _ _ hr');have dr3:=(dr.ts uT.ts).ts s3.ts;refine ⟨_,rfl,_,rfl,lh,c,hs,h,Hu.choice rs r,rfl,m3 _ _ hlh,dh.ts m3.ts,hc,cb.mono (by omega),bp,pos,hfew,λx u H4 s4 ex du=>?_,λex H4 s4=>?_⟩
  ·obtain ⟨ua,rfl,su⟩:=fO du;refine ⟨_,rfl,rfl,_,rfl,aT ?_⟩;have m4:=m3.trans s4;have hr4:=s4 _ _ hr3;have lw:=fS dr3;refine ⟨_,rfl,.inl ⟨rfl,_,SqL.of hr4⟩,_,rfl,lr,ws,_,rfl,rfl,hr4,bI (by omega),?_⟩;have t5:Tst H4 (upd H4 lr (.lst (ws++[.ref ua]))):=dM hr4;refine ⟨hi,bc m4 hlr _,ws++[.ref ua],rs++[x],_,_,_,_,rfl,af,?_,?_,Hu.zD rb (Hu.wQ rb okr ex),?_⟩
   ·rw [List.map_append];exact ((dr3.ts s4.ts).ts t5).snoc (du.ts t5)
   ·rw [List.length_append,lrs];rfl
   ·rw [er];show (match Hu.bu h (Hu.choice rs r) with | some x=>_ | none=>_)=_
    rw [ex]
  ·obtain ⟨t,x,y,z,rfl,st,e1,_,_⟩:=hc;refine ⟨_,rfl,rfl,_,rfl,cj ?_⟩;refine ⟨_,rfl,_,rfl,_,_,_,_,rfl,rfl,st.ts s4.ts,rfl,d3,λp hp=>?_⟩;have u:=az hp (.tup [.str "mixed",.int i,x]);refine q2 i (Hu.choice rs r).1 p x _ (m3.trans (s4.trans u)) ?_ (by omega) (by rw [<- lrs];exact cb) (SqT.of af) ((e1.ts s4.ts).ts u.ts);rw [er];show (match Hu.bu h (Hu.choice rs r) with | some x=>_ | none=>_)=_
   rw [ex,lrs]
 ·obtain ⟨_,sm,ws,rs,o3,o4,o5,o6,rfl,hr',dr,lrs,rb,er⟩:=z;refine ⟨_,rfl,d2,λp hp=>?_⟩;have u:=az hp (.tup [.str "rules",.ref lr]);refine q1 rs p lr ws _ (sm.trans u) ?_ rb (by omega) hlr (SqT.of af) (u _ _ hr') (dr.ts u.ts);rw [er,List.drop_eq_nil_of_le (by omega)];rfl
structure Ms (P:Program) (w:World) (K:W.Frag) (mg:Str->Option Value) (base:Heap) (c:CCs):Prop where
 made:∀ t,aQ P w K mg base (c.of t) "made_of" 1 ["self"] (sZ c t)
 word:∀ t,aQ P w K mg base (c.of t) "making_word" 1 ["self"] (fg c t)
 pieces:∀ t,aQ P w K mg base (c.of t) "pieces" 2 ["self"] (lU c t)
 weigh:∀ t,aQ P w K mg base (c.of t) "weigh" 2 ["self","worths","n","x","y"] (jj c t)
variable {c:CCs}
theorem zq:aE ["self","laid","waiting","part"] ["self"] (ak sLaid):=L2.fsc rfl (by decide+kernel)
theorem ok_laid {C:Addr} {t:Tr} (T:aU K C "laid_out" "Saying.laid_out" sLaid) (M:Ms P w K mg base c):aQ P w K mg base C "laid_out" 2 ["self"] (pQ c t):=by
 refine bz T zq (λ_ _ _ _ _ _=>L2.ar1 λ_=>rfl) ?_ ?_
 ·walk_at "i1";obtain ⟨a,rfl,_⟩:=h;rfl
 walk_at "i2";obtain ⟨a,rfl,oa,ht,q⟩:=h;have nd:=zq.nd
 refine ⟨_,(ae (aG (i:=1) nd rfl (Or.inl rfl) (bO ah))
  (ae (aG (i:=2) nd rfl (Or.inl rfl) (bO (aa (pv 0) ah)))
  (ae (mr PassesOwn.never (qk (pv 2) (λ_=>rfl)) (ae (aG (i:=3) nd rfl (Or.inl rfl) (il PySem.F.plainAttrs_list PySem.F.slot_list_pop PySem.F.type_list_pop jt (pv 2)))
  (ae (aZ (dP PySem.F.plainAttrs_list PySem.F.slot_list_append PySem.F.type_list_append bA (pv 1) (aa (pv 3) ah)))
  (aq (aZ (dP PySem.F.plainAttrs_list PySem.F.slot_list_extend PySem.F.type_list_extend nK (pv 2) (aa (bF (k:=1) (pv 3) (hr.mono (by decide))) ah)))))))
  (ae (aZ (il PySem.F.plainAttrs_list PySem.F.slot_list_reverse PySem.F.type_list_reverse qy (pv 1)))
  (aq (aD (pv 1))))))),?_⟩
 refine ⟨(by show 0<=sizeLine;decide),λl1 h1=>?_⟩;refine ⟨_,rfl,(by show 1<=sizeLine;decide),λl2 h2'=>?_⟩;have h2:H l2=none:=jH h2';have n12:l1≠l2:=λe=>by subst e;rw [af] at h2';cases h2'
 have smI:aH H (upd (upd H l1 (.lst [])) l2 (.lst [.ref a])):=λb o e=>by rw [aB (aA e h2),aB (aA e h1)];exact e
 refine ⟨λm σ H'=>∃(L W:List V) (Lt Wt:List Tr) (o:Option V),σ=[some (.ref a),some (.ref l1),some (.ref l2),o]/\aH H H'/\H' l1=some (.lst L)/\H' l2=some (.lst W)/\cg (ObV c H') L Lt/\cg (ObV c H') W Wt/\
   Lt++(Wt.reverse.flatMap λx=>x.post.reverse)=t.post.reverse/\m=dO Wt,
  ⟨_,[],[.ref a],[],[t],_,rfl,smI,by rw [aB n12,af],af,.nil,.cons ⟨a,rfl,oa.to (Kp.of smI)⟩ .nil,by simp,rfl⟩,?_⟩
 rintro m σ H' ⟨L,W,Lt,Wt,o,rfl,sm,e1,e2,oL,oW,hp,rfl⟩
 have hlen:Lt.length+dO Wt=t.size:=by
  have z:=congrArg List.length hp;rw [List.length_append,wG,AB,List.length_reverse,fB] at z;exact z
 have hLl:=oL.len
 by_cases hw:W=[]
 ·subst hw;cases oW
  refine ⟨_,rfl,false,.inl ⟨[],SqL.of e2,rfl⟩,aT ?_⟩;refine ⟨_,rfl,.inl ⟨rfl,_,SqL.of e1⟩,l1,_,rfl,rfl,e1,?_⟩;have eL:Lt=t.post.reverse:=by simpa using hp
  have kp:=iJ (u:=.lst L.reverse) e1 rfl;refine ⟨_,rfl,q l1 L.reverse _ (λb o z=>?_) h1 af ?_⟩
  ·rw [aB (aA z h1)];exact sm b o z
  ·have:=(oL.imp (ObV.to kp)).rev;rw [eL,List.reverse_reverse] at this;exact this
 ·obtain ⟨W',v,Wt',x,rfl,rfl,⟨b,rfl,ob⟩,oW'⟩:=oW.last hw;refine ⟨_,rfl,true,.inl ⟨_,SqL.of e2,by cases W' <;> rfl⟩,cj ?_⟩;have sz:dO (Wt'++[x])=dO Wt'+x.size:=by rw [rR];simp [dO]
  refine ⟨λσ' H''=>∃ m',m' < dO (Wt'++[x])/\∃(L W:List V) (Lt Wt:List Tr) (o:Option V),σ'=[some (.ref a),some (.ref l1),some (.ref l2),o]/\aH H H''/\H'' l1=some (.lst L)/\H'' l2=some (.lst W)/\cg (ObV c H'') L Lt/\cg (ObV c H'') W Wt/\
   Lt++(Wt.reverse.flatMap λx=>x.post.reverse)=t.post.reverse/\m'=dO Wt,λ_ _ z=>z,?_⟩
  refine ⟨_,rfl,.inl ⟨rfl,_,SqL.of e2⟩,l2,_,_,rfl,rfl,e2,hJ _ _,?_⟩;rw [List.dropLast_concat];have e1':upd H' l2 (.lst W') l1=some (.lst L):=by rw [aB n12];exact e1
  refine ⟨_,rfl,.inl ⟨rfl,_,SqL.of e1'⟩,_,rfl,l1,_,_,rfl,rfl,e1',by rw [hLl];exact Nat.lt_of_le_of_lt (show Lt.length<=1000 by omega) (by decide),?_⟩;have k1:Kp H' (upd (upd H' l2 (.lst W')) l1 (.lst (L++[.ref b]))):=(iJ e2 rfl).trans (iJ e1' rfl);have e2':upd (upd H' l2 (.lst W')) l1 (.lst (L++[.ref b])) l2=some (.lst W'):=by rw [aB n12.symm,af]
  have ob1:=ob.to k1;obtain ⟨dx,fs,eb,nf⟩:=ob1.cls;refine ⟨_,rfl,.inl ⟨rfl,_,SqL.of e2'⟩,_,rfl,b,_,_,_,_,_,rfl,eb,nf _ (by decide+kernel),M.made x,b,rfl,ob1,λl us hl ou=>?_⟩;have nl2:l2≠l:=aA e2' hl;have nl1:l1≠l:=aA (af (H:=upd H' l2 (.lst W'))) hl;have e2'':upd (upd (upd H' l2 (.lst W')) l1 (.lst (L++[.ref b]))) l (.lst us) l2=some (.lst W'):=by rw [aB nl2];exact e2'
  have hWl:=oW'.len;have hul:=ou.len;have hkl:=qF x;have hWs:=sF Wt';refine ⟨l2,l,_,_,rfl,rfl,e2'',af,by rw [hWl,hul];exact Nat.le_trans (show _<=1002 by omega) (by decide),?_⟩;have k2:Kp (upd (upd H' l2 (.lst W')) l1 (.lst (L++[.ref b]))) (upd (upd (upd (upd H' l2 (.lst W')) l1 (.lst (L++[.ref b]))) l (.lst us)) l2 (.lst (W'++us))):=(kp_new hl _).trans (iJ e2'' rfl);have k3:=k1.trans k2;have ks:=Bo x;refine ⟨dO (Wt'++x.kids),by rw [sz,rR];omega,L++[.ref b],W'++us,Lt++[x],Wt'++x.kids,_,rfl,λd o z=>?_,by rw [aB n12,aB nl1,af],af,(oL.imp (ObV.to k3)).app (.cons ⟨b,rfl,ob.to k3⟩ .nil),(oW'.imp (ObV.to k3)).app (ou.imp (ObV.to k2)),?_,rfl⟩
  ·have z1:upd (upd H' l2 (.lst W')) l1 (.lst (L++[.ref b])) d=some o:=by rw [aB (aA z h1),aB (aA z h2)];exact sm d o z
   rw [aB (aA z h2),aB (aA z1 hl)];exact z1
  ·rw [<- hp];simp only [List.reverse_append,List.flatMap_append,List.reverse_cons,List.reverse_nil,List.nil_append,List.append_assoc,List.flatMap_cons,List.flatMap_nil,List.append_nil,List.singleton_append,Dq x,List.cons_append]
theorem CL:aE ["self","n","x","y","worths","part"] ["self","n","x","y"] (ak sOut):=L2.fsc rfl (by decide+kernel)
theorem ok_out {C:Addr} {t:Tr} (T:aU K C "out_of" "Saying.out_of" sOut) (M:Ms P w K mg base c) (G:∀ t,aQ P w K mg base (c.of t) "laid_out" 2 ["self"] (pQ c t)):aQ P w K mg base C "out_of" 3 ["self","n","x","y"] (Cy c t):=by
 refine bz T CL (λ_ _ _ _ _ _=>L2.ar4 λ_ _ _ _=>rfl) ?_ ?_
 ·walk_at "i1";obtain ⟨a,n,x,y,rfl,_⟩:=h;rfl
 walk_at "i2";obtain ⟨a,n,x,y,rfl,oa,ht,q⟩:=h;have nd:=CL.nd
 refine ⟨_,(ae (aG (i:=4) nd rfl (Or.inl rfl) (bO ah))
  (ae (eE PassesOwn.never rfl (bR (bF (k:=2) (pv 0) (hr.mono (by omega)))) (aV (i:=5) nd rfl (Or.inl rfl)) (aq (aZ (qp (k:=2) (pv 5) (hr.mono (by decide)) (aa (pv 4) (aa (pv 1) (aa (pv 2) (aa (pv 3) ah))))))))
  (aq (aD (il PySem.F.plainAttrs_list PySem.F.slot_list_pop PySem.F.type_list_pop jt (pv 4)))))),?_⟩
 refine ⟨(by show 0<=sizeLine;decide),λl1 h1=>?_⟩;have sm1:aH H (upd H l1 (.lst [])):=az h1 _;have oa1:=oa.to (Kp.of sm1);obtain ⟨dx,fs,ea,nf⟩:=oa1.cls;refine ⟨_,rfl,a,_,_,_,_,_,rfl,ea,nf _ (by decide+kernel),G t,a,rfl,oa1,ht,λl us H' sm hl el ou=>⟨l,rfl,⟨_,SqL.of el⟩,?_⟩⟩;have nl:l≠l1:=λe=>by subst e;rw [af] at hl;cases hl
 refine fF (xs:=us) (λi σ H2=>∃(o:Option V) (R:List Int),σ=[some (.ref a),some (.int n),some (.int x),some (.int y),some (.ref l1),o]/\SB (.ref l1) H' H2/\H2 l1=some (.lst (R.reverse.map V.int))/\R.length<=i/\(hV n x y).run R (t.post.drop i)=some [t.worth n x y])
  ⟨none,[],rfl,SB.refl _ _,sm _ _ af,Nat.le_refl _,run_all _ t⟩ (λi σ H2 _ h=>?_) (λi v σ H2 hi h=>?_) (λσ H2 h=>?_)
 ·obtain ⟨o,R,_,sb,_⟩:=h;exact SqL.of (sb _ _ el λz=>nl (V.ref.inj z))
 ·obtain ⟨o,R,rfl,sb,e,hR,hrun⟩:=h;obtain ⟨z,hz,b,rfl,ob⟩:=ou.get i v hi;rw [zY hz] at hrun;obtain ⟨R',hs,hrun'⟩:=CV hrun;have kp:Kp H' H2:=sb.kp λa' o' z1 z2=>by cases z1;rw [sm _ _ af] at z2;cases z2;rfl
  have ob2:=ob.to kp;obtain ⟨dx',fs',eb,nf'⟩:=ob2.cls;have hil:i < t.post.length:=(List.getElem?_eq_some_iff.mp hz).1;rw [fB] at hil;refine ⟨_,rfl,b,_,_,_,_,_,rfl,eb,nf' _ (by decide+kernel),M.weigh z,_,rfl,_,rfl,_,rfl,_,rfl,b,l1,n,x,y,R,R',rfl,ob2,e,by omega,hs,λH3 sb3 e3=>?_⟩;exact ⟨_,R',rfl,sb.trans sb3,e3,Nat.le_trans (Cq hs) (Nat.succ_le_succ hR),hrun'⟩
 ·obtain ⟨o,R,rfl,sb,e,hR,hrun⟩:=h;have ul:=ou.len;rw [ul,List.drop_length] at hrun;have eR:R=[t.worth n x y]:=Option.some.inj hrun;subst eR;refine ⟨_,rfl,.inl ⟨rfl,_,SqL.of e⟩,l1,_,_,rfl,rfl,e,rfl,q _ λb o z=>?_⟩;rw [aB (aA z h1)];exact sb b o (sm b o (sm1 b o z)) λz1=>(aA z h1) (V.ref.inj z1)
theorem qd:aE ["thing"] ["thing"] (ak lg):=L2.fsc rfl (by decide+kernel)
theorem xY (T:aF K mg "is_whole" lg) (bw:mg "isinstance"=none) (sU:mg "int"=none) (yC:mg "bool"=none) (kb:PySem.W.kitOne K (.type "int") (.type "bool")=some false):Def P w K mg base 1 "is_whole" ["thing"] uW:=by
 refine aW T qd (λ_ _ _ _ _ _=>L2.ar1 λ_=>rfl) ?_ ?_
 ·walk_at "i1";obtain ⟨i,rfl,_⟩:=h;rfl
 walk_at "i2";obtain ⟨i,rfl,q⟩:=h;have nd:=qd.nd;refine ⟨_,(aq (aD (tW (aN qV rfl bw (by decide+kernel) (aa (pv 0) (aa (pE (v:=V.ty "int") rfl sU (by decide+kernel) rfl) ah))) (xP (pe_not (aN qV rfl bw (by decide+kernel) (aa (pv 0) (aa (pE (v:=V.ty "bool") rfl yC (by decide+kernel) rfl) ah)))))))),?_⟩;exact ⟨_,rfl,_,_,_,_,true,rfl,(λ_ h=>h),kg.int _,qE,_,rfl,cj ⟨_,rfl,_,_,_,_,false,rfl,(λ_ h=>h),kg.int _,kb,_,rfl,q⟩⟩
abbrev ptN:List Str:=["thing","n"]
theorem qe:aE ptN ["thing"] (ak eY):=L2.fsc rfl (by decide+kernel)
abbrev ptAt (i:Nat):Stmt:=(bP eY).getD i (.Pass ⟨0,0,0,0⟩)
def allArg (s:Stmt):Expr:=match s with
 | .If (.UnaryOp _ (.Call _ [e] _ _) _) _ _ _=>e
 | _=>.Constant .none 0 ⟨0,0,0,0⟩
theorem rZ:aE ["thing"] ["thing"] (ak gJ):=L2.fsc rfl (by decide+kernel)
abbrev roN:List Str:=["saying","rows","place_of","waiting","part","taken","row"]
abbrev roAt (i j:Nat):Stmt:=match (bP fU).getD i (.Pass ⟨0,0,0,0⟩) with
 | .For _ _ b _ _=>b.getD j (.Pass ⟨0,0,0,0⟩)
 | _=>.Pass ⟨0,0,0,0⟩
theorem Cg {α:Type}:∀{R:List α} {k:Nat},k < R.length->∃ x R1,R.drop k=x::R1/\R.take (k+1)=R.take k++[x]/\R.drop (k+1)=R1:=by
 intro R k h;refine ⟨R[k],R.drop (k+1),List.drop_eq_getElem_cons h,?_,rfl⟩;rw [List.take_add_one,List.getElem?_eq_getElem h];rfl
theorem rY:aE roN ["saying"] (ak fU):=L2.fsc rfl (by decide+kernel)
theorem AS (T:aF K mg "rows_of" fU) (cK:mg "len"=none) (cY:mg "tuple"=none) (M:Ms P w K mg base c) (G:∀ t,aQ P w K mg base (c.of t) "laid_out" 2 ["self"] (pQ c t)):Def P w K mg base 3 "rows_of" ["saying"] (iP c):=by
 refine aW T rY (λ_ _ _ _ _ _=>L2.ar1 λ_=>rfl) ?_ ?_
 ·walk_at "i1";obtain ⟨a,t,rfl,_⟩:=h;rfl
 walk_at "i2";obtain ⟨a,t,rfl,oa,ht,q⟩:=h;have nd:=rY.nd;have hu:=hu_of hr
 have stT:∃ ts,PS (eO CX0 P w K mg base roN "rows_of" (ak fU) f cdv A outer s H E).nox (roAt 3 0) ts/\∀(D:Ends) (o5 o6:Option V) (l1 d1 l3 b:Addr) (x:Tr) (R:List Nat) (H1:Hp),Ob c H1 b x->H1 l3=some (.lst (R.reverse.map λi:Nat=>V.int (i:Int)))->x.kids.length<=R.length->
   (∀ l4 H2,l4≠l3->H1 l4=none->(∀ d o,H1 d=some o->d≠l3->H2 d=some o)->H2 l3=some (.lst ((R.drop x.kids.length).reverse.map λi:Nat=>V.int (i:Int)))->H2 l4=some (.lst ((R.take x.kids.length).map λi:Nat=>V.int (i:Int)))->
    D.nx [some (.ref a),some (.ref l1),some (.ref d1),some (.ref l3),some (.ref b),some (.ref l4),o6] H2)->
   ts D [some (.ref a),some (.ref l1),some (.ref d1),some (.ref l3),some (.ref b),o5,o6] H1:=by
  refine ⟨_,(zH (i:=5) nd rfl (Or.inl rfl) (Or.inl rfl) rfl rfl (bR (bF (k:=1) (pv 4) (hr.mono (by decide)))) rfl (by decide+kernel) (by decide+kernel) rfl (show ∀ p∈Scope.names _,p.2=NameKind.free->List.lookup p.1 (ak fU).names=some .cell\/List.lookup p.1 (ak fU).names=some .free by decide+kernel) (dX (j:=3) rfl (Or.inl rfl) (by decide+kernel) (Or.inl rfl) dC) (show (["piece","waiting"]:List Str).Nodup by decide+kernel) (λ_ _ _ _=>gv) (λ_ _ _ _=>(pe_bm0K (K:=K) rfl PySem.F.plainAttrs_list PySem.F.slot_list_pop PySem.F.type_list_pop jt (pv 1)))),?_⟩;intro D o5 o6 l1 d1 l3 b x R H1 ob e3 hk fin;obtain ⟨dx,fs,eb,nf⟩:=ob.cls;unfold rM;refine nP ?_;refine ⟨_,rfl,b,_,_,_,_,_,rfl,eb,nf _ (by decide+kernel),M.made x,b,rfl,ob,λl us hl ou=>⟨l,rfl,⟨_,SqL.of af⟩,?_⟩⟩;have hul:=ou.len;have nl:l≠l3:=(aA e3 hl).symm
  refine nO (K:=K) (xs:=us) (λl' H'=>l'=l/\H'=upd H1 l (.lst us)) (λR' h=>h l _ ⟨rfl,rfl⟩) (λl' H' h=>by obtain ⟨rfl,rfl⟩:=h;exact af) (by rw [hul];have:=qF x;omega)
   (λl' D' i ys H'=>l'=l/\H1 D'=none/\D'≠l3/\ys=((R.take i).map λi:Nat=>V.int (i:Int))/\H' l3=some (.lst ((R.drop i).reverse.map λi:Nat=>V.int (i:Int)))/\∀ d o,H1 d=some o->d≠l3->H' d=some o)
   (λl' H' D' h hD=>?_) (λl' D' i v ys H' hv nl' el eD h N hN=>?_) (λl' D' ys H' el eD h=>?_)
  ·obtain ⟨rfl,rfl⟩:=h;have hD':=jH hD;refine ⟨rfl,hD',(aA e3 hD').symm,rfl,?_,λd o z _=>?_⟩
   ·rw [aB (aA e3 hD'),aB nl.symm];exact e3
   ·rw [aB (aA z hD'),aB (aA z hl)];exact z
  ·obtain ⟨rfl,hD',nD,rfl,e3',sm⟩:=h
   have hi:i < R.length:=by
    have:=(List.getElem?_eq_some_iff.mp hv).1;omega
   obtain ⟨y,R1,d1',d2',d3'⟩:=Cg hi;rw [d1',List.reverse_cons,List.map_append] at e3';refine ⟨_,rfl,.inl ⟨rfl,_,SqL.of e3'⟩,l3,_,_,rfl,rfl,e3',hJ _ _,?_⟩;refine hN _ _ (by rw [aB nl];exact el) (by rw [aB nD];exact eD) ⟨rfl,hD',nD,?_,?_,λd o z n=>?_⟩
   ·rw [d2',List.map_append];rfl
   ·rw [aB nD.symm,af,d3'];exact congrArg some (congrArg HO.lst List.dropLast_concat)
   ·rw [aB (aA z hD'),aB n];exact sm d o z n
  ·obtain ⟨rfl,hD',nD,rfl,e3',sm⟩:=h;rw [hul] at e3' eD;exact fin D' H' nD hD' sm e3' eD
 obtain ⟨tsT,htT,hqT⟩:=stT
 refine ⟨_,ae (aG (i:=1) nd rfl (Or.inl rfl) (bO ah)) (ae (aG (i:=2) nd rfl (Or.inl rfl) Du) (ae (aG (i:=3) nd rfl (Or.inr rfl) (bO ah)) (ae (eE PassesOwn.never rfl (bR (bF (k:=2) (pv 0) (hr.mono (by omega)))) (aV (i:=4) nd rfl (Or.inl rfl)) (ae htT (ae (aZ (il PySem.F.plainAttrs_list PySem.F.slot_list_reverse PySem.F.type_list_reverse qy (pv 5)))
  (ae (aG (i:=6) nd rfl (Or.inl rfl) (aP op_catT (bB (aa (bF (k:=1) (pv 4) (hr.mono (by decide))) ah)) (iY gD rfl cY (by decide+kernel) (aa (pv 5) ah))))
  (ae (aJ (pt_cmp (AL hu (pv 6) (pv 2))) (ae (ps_dput hu (pv 2) (pv 6) (aN di rfl cK (by decide+kernel) (aa (pv 1) ah)) rfl)
  (aq (aZ (dP PySem.F.plainAttrs_list PySem.F.slot_list_append PySem.F.type_list_append bA (pv 1) (aa (pv 6) ah))))) av)
  (aq (aZ (dP PySem.F.plainAttrs_list PySem.F.slot_list_append PySem.F.type_list_append bA (pv 3) (aa (pe_dget hu (pv 2) (pv 6) (λ_ _=>rfl)) ah))))))))) (aq (aD (pv 1)))))),?_⟩
 refine ⟨(by show 0<=sizeLine;decide),λl1 h1=>?_⟩;intro d1 h2';refine ⟨(by show 0<=sizeLine;decide),λl3 h3'=>?_⟩;have h2:H d1=none:=jH h2';have n12:l1≠d1:=λe=>by subst e;rw [af] at h2';cases h2'
 have h3a:upd H l1 (.lst []) l3=none:=jH h3';have h3:H l3=none:=jH h3a;have n13:l1≠l3:=λe=>by subst e;rw [af] at h3a;cases h3a
 have n23:d1≠l3:=λe=>by subst e;rw [af] at h3';cases h3'
 have sm0:aH H (upd (upd (upd H l1 (.lst [])) d1 (.dT [])) l3 (.lst [])):=λb o e=>by rw [aB (aA e h3),aB (aA e h2),aB (aA e h1)];exact e
 have oa0:=oa.to (Kp.of sm0);obtain ⟨dx,fs,ea,nf⟩:=oa0.cls;refine ⟨_,rfl,a,_,_,_,_,_,rfl,ea,nf _ (by decide+kernel),G t,a,rfl,oa0,ht,λl us H' sm hl el ou=>⟨l,rfl,⟨_,SqL.of el⟩,?_⟩⟩;have ul:=ou.len;rw [fB] at ul;have g1:H' l1=some (.lst []):=sm _ _ (by rw [aB n13,aB n12,af]);have g2:H' d1=some (.dT []):=sm _ _ (by rw [aB n23,af]);have g3:H' l3=some (.lst []):=sm _ _ af
 have hl0:H l=none:=by
  cases z:H l with
  | none=>rfl
  | some o=>rw [sm0 _ _ z] at hl;cases hl
 have nl1:l≠l1:=λe=>by subst e;rw [aB n13,aB n12,af] at hl;cases hl
 have nl3:l≠l3:=λe=>by subst e;rw [af] at hl;cases hl
 have nld:l≠d1:=λe=>by subst e;rw [aB n23,af] at hl;cases hl
 refine fF (xs:=us) (λi σ H2=>∃(o4 o5 o6:Option V) (rs:List Rw) (R:List Nat) (kvs:List (Rw×V)) (vs:List V),σ=[some (.ref a),some (.ref l1),some (.ref d1),some (.ref l3),o4,o5,o6]/\(∀ d o,H' d=some o->d≠l1->d≠d1->d≠l3->H2 d=some o)/\
   H2 l1=some (.lst vs)/\cg (RwV H2) vs rs/\H2 d1=some (.dT kvs)/\PlO kvs rs/\H2 l3=some (.lst (R.reverse.map λi:Nat=>V.int (i:Int)))/\R.length<=i/\rs.length<=i/\rh (rs,R) (t.post.drop i)=some (t.rows,[(t.putR []).2]))
  ⟨_,_,_,[],[],[],[],rfl,λd o z _ _ _=>z,g1,.nil,g2,PlO.nil,g3,Nat.le_refl _,Nat.le_refl _,CZ t⟩ (λi σ H2 _ h=>?_) (λi v σ H2 hi h=>?_) (λσ H2 h=>?_)
 ·obtain ⟨o4,o5,o6,rs,R,kvs,vs,_,sb,_⟩:=h;exact SqL.of (sb _ _ el nl1 nld nl3)
 ·obtain ⟨o4,o5,o6,rs,R,kvs,vs,rfl,sb,e1,rv,e2,pl,e3,hR,hrs,hrun⟩:=h;obtain ⟨x,hx,b,rfl,ob⟩:=ou.get i v hi;rw [zY hx] at hrun;obtain ⟨s',hs',hrun'⟩:=AI hrun;obtain ⟨hk,rfl⟩:=CY hs';have hil:i < us.length:=(List.getElem?_eq_some_iff.mp hi).1;have kp:Kp H' H2:=λd o z f=>sb d o z (λe=>by subst e;rw [g1] at z;cases z;cases f) (λe=>by subst e;rw [g2] at z;cases z;cases f) (λe=>by subst e;rw [g3] at z;cases z;cases f)
  have ob2:=ob.to kp;refine hqT _ _ _ l1 d1 l3 b x R H2 ob2 e3 hk λl4 H3 n43 h4 sm3 e33 e34=>?_;have nl41:l4≠l1:=(aA e1 h4).symm;have nl4d:l4≠d1:=(aA e2 h4).symm;have e31:H3 l1=some (.lst vs):=sm3 _ _ e1 n13;have e3d:H3 d1=some (.dT kvs):=sm3 _ _ e2 n23;have kp3:Kp H2 H3:=λd o z f=>sm3 d o z (λe=>by subst e;rw [e3] at z;cases z;cases f)
  refine ⟨_,rfl,.inl ⟨rfl,_,SqL.of e34⟩,l4,_,rfl,rfl,e34,?_⟩;have kp4:Kp H3 (upd H3 l4 (.lst ((R.take x.kids.length).map λi:Nat=>V.int (i:Int)).reverse)):=iJ e34 rfl;rw [<- List.map_reverse] at kp4 ⊢;have ob4:=(ob2.to kp3).to kp4;obtain ⟨dx',fs',eb,nf'⟩:=ob4.cls;refine ⟨_,rfl,b,_,_,_,_,_,rfl,eb,nf' _ (by decide+kernel),M.word x,b,rfl,ob4,(by show 1<=sizeLine;decide),λp1 hp1=>?_⟩;have kx:=qF x;have e44:upd H3 l4 (.lst ((R.take x.kids.length).reverse.map λi:Nat=>V.int (i:Int))) l4=_:=af;have np1:l4≠p1:=aA e44 hp1;refine ⟨_,rfl,l4,_,rfl,.inl ⟨SqL.of (by rw [aB np1];exact e44),λp2 hp2=>?_⟩⟩;have np12:p1≠p2:=aA (af (H:=upd H3 l4 (.lst ((R.take x.kids.length).reverse.map λi:Nat=>V.int (i:Int))))) hp2;refine EX (K:=K) (by rw [aB np12,af]) af (by simp) (by simp only [List.length_cons,List.length_nil,List.length_map,List.length_reverse,List.length_take];exact Nat.le_trans (show _<=3 by omega) (by decide)) λrw' H6 s6 e6=>?_;have s46:aH (upd H3 l4 (.lst ((R.take x.kids.length).reverse.map λi:Nat=>V.int (i:Int)))) H6:=((az hp1 _).trans (az hp2 _)).trans s6;have e6':H6 rw'=some (.tup ((eZ x.word (R.take x.kids.length).reverse).map kV)):=by rw [zC];exact e6
  generalize hr0:eZ x.word (R.take x.kids.length).reverse=r at e6' hrun';have g1':H6 l1=some (.lst vs):=s46 _ _ (by rw [aB nl41.symm];exact e31);have gd':H6 d1=some (.dT kvs):=s46 _ _ (by rw [aB nl4d.symm];exact e3d);have g3':H6 l3=some (.lst ((R.drop x.kids.length).reverse.map λi:Nat=>V.int (i:Int))):=s46 _ _ (by rw [aB n43.symm];exact e33);have kp6:Kp H2 H6:=(kp3.trans kp4).trans (Kp.of s46)
  have sb6:∀ d o,H' d=some o->d≠l1->d≠d1->d≠l3->H6 d=some o:=λd o z z1 z2 z3=>by
   have y2:=sb d o z z1 z2 z3;exact s46 _ _ (by rw [aB (aA y2 h4)];exact sm3 d o y2 z3)
  have rv6:=rv.imp (RwV.to kp6);have vl:=rv.len;refine ⟨_,rfl,_,rfl,d1,_,rfl,rH.t gd' e6',_,rfl,?_⟩;have hv:=pl.2 r;have big:kvs.length < sizeLine:=by rw [pl.1];exact Nat.lt_of_le_of_lt (show rs.length<=1000 by omega) (by decide)
  cases hx0:idx rs r with
  | some j =>
   rw [hx0] at hv;rw [hv];refine aT ?_;have hp:bg rs r=(rs,j):=by unfold bg;rw [hx0]
   rw [hp] at hrun';refine ⟨_,rfl,.inl ⟨rfl,_,SqL.of g3'⟩,_,rfl,_,rfl,d1,_,rfl,(by have z:=rH.t gd' e6';rw [hv] at z;exact z),l3,_,_,rfl,rfl,g3',?_,?_⟩
   ·rw [List.length_map,List.length_reverse];exact Nat.lt_of_le_of_lt (show _<=1000 by rw [List.length_drop];omega) (by decide)
   ·have km:Kp H6 (upd H6 l3 (.lst (((R.drop x.kids.length).reverse.map λi:Nat=>V.int (i:Int))++[V.int (j:Int)]))):=iJ g3' rfl;refine ⟨_,_,_,rs,j::R.drop x.kids.length,kvs,vs,rfl,λd o z z1 z2 z3=>by rw [aB z3];exact sb6 d o z z1 z2 z3,by rw [aB n13];exact g1',rv6.imp (RwV.to km),by rw [aB n23];exact gd',pl,by rw [af,List.reverse_cons,List.map_append];rfl,?_,by omega,hrun'⟩;rw [List.length_cons,List.length_drop];omega
  | none =>
   rw [hx0] at hv;rw [hv];refine cj ?_;have hp:bg rs r=(rs++[r],rs.length):=by unfold bg;rw [hx0]
   rw [hp] at hrun';refine ⟨_,rfl,_,vs.length,rfl,.inl ⟨_,SqL.of g1',rfl⟩,_,rfl,_,rfl,d1,_,rfl,Fl.t gd' e6' big,?_⟩;rw [vl];have gA:upd H6 d1 (.dT (putK kvs r (.int (rs.length:Int)))) l1=some (.lst vs):=by rw [aB n12];exact g1'
   refine ⟨_,rfl,.inl ⟨rfl,_,SqL.of gA⟩,_,rfl,l1,_,_,rfl,rfl,gA,by rw [vl];exact Nat.lt_of_le_of_lt (show rs.length<=1000 by omega) (by decide),?_⟩;have k7:Kp H6 (upd (upd H6 d1 (.dT (putK kvs r (.int (rs.length:Int))))) l1 (.lst (vs++[.ref rw']))):=(iJ gd' rfl).trans (iJ gA rfl);have gB:upd (upd H6 d1 (.dT (putK kvs r (.int (rs.length:Int))))) l1 (.lst (vs++[.ref rw'])) d1=some (.dT (putK kvs r (.int (rs.length:Int)))):=by rw [aB n12.symm,af]
   have gC:upd (upd H6 d1 (.dT (putK kvs r (.int (rs.length:Int))))) l1 (.lst (vs++[.ref rw'])) l3=some (.lst ((R.drop x.kids.length).reverse.map λi:Nat=>V.int (i:Int))):=by rw [aB n13.symm,aB n23.symm];exact g3'
   have e7:=k7 _ _ e6' rfl;have pl':=pl.put hx0;have hv':gS (putK kvs r (.int (rs.length:Int))) r=some (.int (rs.length:Int)):=by rw [uO,if_pos rfl]
   refine ⟨_,rfl,.inl ⟨rfl,_,SqL.of gC⟩,_,rfl,_,rfl,d1,_,rfl,(by have z:=rH.t gB e7;rw [hv'] at z;exact z),l3,_,_,rfl,rfl,gC,?_,?_⟩
   ·rw [List.length_map,List.length_reverse];exact Nat.lt_of_le_of_lt (show _<=1000 by rw [List.length_drop];omega) (by decide)
   ·have km:=iJ (u:=.lst (((R.drop x.kids.length).reverse.map λi:Nat=>V.int (i:Int))++[V.int (rs.length:Int)])) gC rfl;refine ⟨_,_,_,rs++[r],rs.length::R.drop x.kids.length,_,vs++[.ref rw'],rfl,λd o z z1 z2 z3=>by rw [aB z3,aB z1,aB z2];exact sb6 d o z z1 z2 z3,by rw [aB n13,af],?_,by rw [aB n23];exact gB,pl',by rw [af,List.reverse_cons,List.map_append];rfl,?_,by rw [List.length_append];simp;omega,hrun'⟩
    ·exact ((rv6.imp (RwV.to k7)).imp (RwV.to km)).app (.cons ⟨rw',rfl,km _ _ e7 rfl⟩ .nil)
    ·rw [List.length_cons,List.length_drop];omega
 ·obtain ⟨o4,o5,o6,rs,R,kvs,vs,rfl,sb,e1,rv,e2,pl,e3,hR,hrs,hrun⟩:=h;rw [ul,<- fB,List.drop_length] at hrun;cases hrun
  refine ⟨_,rfl,q l1 vs H2 (λd o z=>?_) h1 e1 rv⟩;exact sb d o (sm _ _ (sm0 _ _ z)) (aA z h1) (aA z h2) (aA z h3)
theorem EU {K:W.Frag} {wi:TI} {tc:TT} {te:TE} {js:List Nat} {σ:St} {H:Hp} {Q:VK} {xs:List V} (bs:List Bool) (hb:bs.length=xs.length) (Src:Addr->Hp->Prop)
  (hwi:∀ R:It->Hp->Prop,(∀ l H,Src l H->R (Itl K l) H)->wi σ H R) (hsrc:∀ l H',Src l H'->H' l=some (.lst xs)/\aH H H') (hx:xs.length<=1000)
  (ht:∀ l H0 (i:Nat) v H' (N:Bool->Hp->Prop),Src l H0->xs[i]?=some v->aH H0 H'->(∀ H'',aH H' H''->N (bs.getD i false) H'')->tc (some v::ck js σ) H' N)
  (hs:∀(i:Nat) v H' (N:VK),xs[i]?=some v->aH H H'->(∀ H'',aH H' H''->N v H'')->te (some v::ck js σ) H' N)
  (hd:∀ D ys H',aH H H'->H D=none->H' D=some (.lst ys)->ys.length=bs.countP id->Q (.ref D) H'):jy wi tc te js σ H Q:=by
 refine hwi _ λl H1 src=>?_;intro D hD;obtain ⟨e,s1⟩:=hsrc l H1 src;have nl:l≠D:=aA e hD;have hD0:H D=none:=s1.free hD;refine ⟨λi m H'=>m=xs.length - i/\i<=xs.length/\H' l=some (.lst xs)/\aH H1 H'/\∃ ys,H' D=some (.lst ys)/\ys.length=(bs.take i).countP id,⟨xs.length,rfl,Nat.zero_le _,by rw [aB nl];exact e,az hD _,[],af,rfl⟩,?_⟩;rintro i m H2 ⟨rfl,hi,e2,s2,ys,eD,ly⟩
 have cle:(bs.take i).countP id<=i:=Nat.le_trans List.countP_le_length (by rw [List.length_take];omega)
 by_cases hlt:i < xs.length
 ·refine .inr ⟨⟨xs,xs[i],SqL.of e2,by simp [hlt]⟩,λv H3 y=>?_⟩;obtain ⟨eh,y⟩:=y;subst eh;have hv:=y xs (SqL.of e2);have hbi:i < bs.length:=by omega
  have tk:bs.take (i+1)=bs.take i++[bs.getD i false]:=by
   rw [List.take_add_one,List.getElem?_eq_getElem hbi,List.getD_eq_getElem?_getD,List.getElem?_eq_getElem hbi];rfl
  have ct:(bs.take (i+1)).countP id=(bs.take i).countP id+(if bs.getD i false=true then 1 else 0):=by
   rw [tk,List.countP_append];congr 1;cases bs.getD i false <;> rfl
  refine ht l H1 i v _ _ src hv s2 λH4 s4=>?_
  by_cases hp:bs.getD i false=true
  ·rw [if_pos hp] at ct;rw [if_pos hp];refine hs i v H4 _ hv ((s1.trans s2).trans s4) λH5 s5=>?_;have e5:=s5 _ _ (s4 _ _ eD);refine ⟨_,e5,Nat.lt_of_le_of_lt (show _<=1000 by omega) (by decide),xs.length - (i+1),by omega,rfl,hlt,?_,λd u z=>?_,ys++[v],af,by rw [ct,List.length_append,ly];rfl⟩
   ·rw [aB nl];exact s5 _ _ (s4 _ _ e2)
   ·rw [aB (aA z hD)];exact s5 _ _ (s4 _ _ (s2 _ _ z))
  ·rw [if_neg hp] at ct;rw [if_neg hp];exact ⟨xs.length - (i+1),by omega,rfl,hlt,s4 _ _ e2,s2.trans s4,ys,s4 _ _ eD,by rw [ct,ly];rfl⟩
 ·have ei:i=xs.length:=by omega
  subst ei;rw [<- hb,List.take_length] at ly;exact .inl ⟨⟨xs,SqL.of e2,Nat.le_refl _⟩,hd D ys H2 (s1.trans s2) hD0 eD ly⟩
def isF:Tr->Bool
 | .fold _ _ _=>true
 | _=>false
def Tr.nf (t:Tr):Nat:=(t.post.map isF).countP id
def eJ (c:CCs) (t:Tr):Sp:=λvs H Q _=>∃ a,vs=[.ref a]/\Ob c H a t/\t.size<=1000/\∀ H',aH H H'->Q (.int (t.nf:Int)) H'
theorem sf:aE ["self"] ["self"] (ak cO):=L2.fsc rfl (by decide+kernel)
theorem AV {C yT:Addr} {t:Tr} (T:aU K C "folds" "Saying.folds" cO) (cK:mg "len"=none) (bw:mg "isinstance"=none) (M_Fold:mg "Fold"=some (.ref yT)) (fx:Fx K c) (kf:∀ t,PySem.W.kitOne K (.ref (c.of t)) (.ref yT)=some (isF t)) (G:∀ t,aQ P w K mg base (c.of t) "laid_out" 2 ["self"] (pQ c t)):aQ P w K mg base C "folds" 3 ["self"] (eJ c t):=by
 refine bz T sf (λ_ _ _ _ _ _=>L2.ar1 λ_=>rfl) ?_ ?_
 ·walk_at "i1";obtain ⟨a,rfl,_⟩:=h;rfl
 walk_at "i2";obtain ⟨a,rfl,oa,ht,q⟩:=h;have nd:=sf.nd;obtain ⟨dx,fs,ea,nf⟩:=oa.cls;refine ⟨_,(aq (aD (aN di rfl cK (by decide+kernel) (aa (fE rfl (bR (bF (k:=2) (pv 0) (hr.mono (by omega)))) rfl (by decide+kernel) (by decide+kernel) rfl (show ∀ p∈Scope.names _,p.2=NameKind.free->List.lookup p.1 (ak cO).names=some .cell\/List.lookup p.1 (ak cO).names=some .free by decide+kernel) dC (show (["part"]:List Str).Nodup by decide+kernel) (λ_ _ _ _=>(pif_one (iH (aN (BF (K:=K) rfl) rfl bw (by decide+kernel) (aa (pv 0) (aa (bV (v:=V.ref yT) rfl M_Fold rfl) ah)))))) (λ_ _ _ _=>(pv 0))) ah)))),?_⟩;dsimp only [Ay,tOp,tC,tCB,dN,jE];refine nP ?_;refine ⟨_,rfl,a,_,_,_,_,_,rfl,ea,nf _ (by decide+kernel),G t,a,rfl,oa,ht,λl us H1 s1 hl el ou=>⟨l,rfl,⟨_,SqL.of el⟩,?_⟩⟩;have lu:=ou.len;have lp:=fB t;refine EU (K:=K) (t.post.map isF) (by rw [List.length_map,lu]) (λl' H'=>l'=l/\H'=H1) (λR k=>k l H1 ⟨rfl,rfl⟩) (λl' H' z=>by obtain ⟨rfl,rfl⟩:=z;exact ⟨el,aH.refl _⟩) (by omega) (λl' H0 i v H2 N z hv s2 hN=>?_) (λi v H2 N hv s2 hN=>⟨_,rfl,hN _ (aH.refl _)⟩) (λD ys H2 s2 hD eD ly=>?_)
 ·obtain ⟨rfl,rfl⟩:=z;obtain ⟨x,hx,b,rfl,ob⟩:=(ou.imp (ObV.to (Kp.of s2))).get i v hv;have e:(t.post.map isF).getD i false=isF x:=by rw [List.getD_eq_getElem?_getD,List.getElem?_map,hx];rfl
  rw [e] at hN;exact ⟨_,rfl,_,_,_,_,_,rfl,(λu z=>z),fx.ty ob,kf x,_,rfl,hN _ (aH.refl _)⟩
 ·refine ⟨_,_,rfl,.inl ⟨_,SqL.of eD,rfl⟩,?_⟩;rw [ly];exact q _ (s1.trans s2)
def u5:W5->Nat | .more=>0 | .less=>1 | .greater=>2 | .lesser=>3 | .leads=>4
theorem fw_u5 (u:W5):fw (u5 u)=u.str:=by cases u <;> rfl
def cS:Gr->Hu.Row
 | .ne=>.lf 0 | .al=>.lf 1 | .p=>.lf 2 | .q=>.lf 3
 | .no i=>.nt i
 | .fold u i j=>.fd (u5 u) i j
theorem Av {K:W.Frag} {H:Hp} {v:V} {g:Gr} (h:RwV H v g.rw):Dat K H (nB (cS g)) v:=by
 obtain ⟨a,rfl,e⟩:=h;unfold Gr.rw at e;rw [zC] at e;refine row_mk (SqT.of ?_);rw [e];cases g with
 | fold u i j=>show _=some (HO.tup [V.str (fw (u5 u)),.int i,.int j]);rw [fw_u5];rfl
 | _=>rfl
theorem Cb {k:Nat} {g:Gr} (h:GrOk k g):(cS g).Ok k:=by
 cases g with
 | ne=>show 0 < 4;decide
 | al=>show 1 < 4;decide
 | p=>show 2 < 4;decide
 | q=>show 3 < 4;decide
 | no i=>exact h i (by simp [Gr.nums])
 | fold u i j=>exact ⟨by cases u <;> decide,h i (by simp [Gr.nums]),h j (by simp [Gr.nums])⟩
def fdK (r:Rw):Bool:=r.length == 3
theorem kD (rs:List Rw) (r:Rw):(bg rs r).1.countP fdK<=rs.countP fdK+(if fdK r=true then 1 else 0):=by
 unfold bg;cases idx rs r with
 | some i=>show rs.countP fdK<=_;omega
 | none =>
  show (rs++[r]).countP fdK<=_;rw [List.countP_append];refine Nat.add_le_add_left ?_ _;cases h:fdK r <;> simp [h]
theorem nf_no (t:Tr):(Tr.no t).nf=t.nf:=by
 show ((t.post++[Tr.no t]).map isF).countP id=_;rw [List.map_append,List.countP_append];rfl
theorem mv (u:W5) (a b:Tr):(Tr.fold u a b).nf=a.nf+b.nf+1:=by
 show ((a.post++b.post++[Tr.fold u a b]).map isF).countP id=_;rw [List.map_append,List.map_append,List.countP_append,List.countP_append];rfl
theorem kB:∀(t:Tr) (rs:List Rw),(t.putR rs).1.countP fdK<=rs.countP fdK+t.nf
 | .no t,rs=>by
  have h1:=kB t rs;have h2:=kD (t.putR rs).1 (eZ "not" [(t.putR rs).2]);have e:fdK (eZ "not" [(t.putR rs).2])=false:=rfl;rw [e,if_neg (by decide)] at h2;rw [nf_no];exact Nat.le_trans h2 h1
 | .fold w a b,rs=>by
  have h1:=kB a rs;have h2:=kB b (a.putR rs).1;have h3:=kD (b.putR (a.putR rs).1).1 (eZ w.str [(a.putR rs).2,(b.putR (a.putR rs).1).2]);have e:fdK (eZ w.str [(a.putR rs).2,(b.putR (a.putR rs).1).2])=true:=rfl;rw [e,if_pos rfl] at h3;rw [mv];have:((Tr.fold w a b).putR rs).1.countP fdK<=_:=h3;omega
 | .never,rs=>kD rs (eZ "never" [])
 | .always,rs=>kD rs (eZ "always" [])
 | .lp,rs=>kD rs (eZ "p" [])
 | .lq,rs=>kD rs (eZ "q" [])
theorem EC:∀ gs:List Gr,Hu.fds (gs.map cS)=(gs.map Gr.rw).countP fdK
 | []=>rfl
 | g::r=>by
  have ih:=EC r;unfold Hu.fds at ih ⊢;rw [List.map_cons,List.map_cons,List.countP_cons,List.countP_cons,ih];congr 1;cases g <;> rfl
def tcD:Hu.Tc->PyData
 | .leaf=>.tuple [.str "leaf"]
 | .cut r l g=>.tuple [.str "cut",t3D r,tcD l,tcD g]
section
variable {K:W.Frag} {H H':Hp} {v:V}
theorem tc_leaf (d:Dat K H (tcD .leaf) v):∃ a,v=.ref a/\SqT K H a [.str "leaf"]:=by
 unfold tcD at d;obtain ⟨a,xs,rfl,g,x,r,rfl,hx,hr⟩:=d;cases (show x=V.str "leaf" from hx)
 cases (show r=[] from hr)
 exact ⟨a,rfl,g⟩
theorem tc_cut {r:T3} {l g:Hu.Tc} (d:Dat K H (tcD (.cut r l g)) v):∃ a x y z,v=.ref a/\SqT K H a [.str "cut",x,y,z]/\Dat K H (t3D r) x/\Dat K H (tcD l) y/\Dat K H (tcD g) z:=by
 unfold tcD at d;obtain ⟨a,xs,rfl,s,w,t,rfl,hw,x,t2,rfl,hx,y,t3,rfl,hy,z,t4,rfl,hz,h4⟩:=d;cases (show w=V.str "cut" from hw)
 cases (show t4=[] from h4)
 exact ⟨a,x,y,z,rfl,s,hx,hy,hz⟩
theorem Aw {a:Addr} (g:SqT K H a [.str "leaf"]):Dat K H (tcD .leaf) (.ref a):=by
 unfold tcD;exact ⟨a,_,rfl,g,_,_,rfl,rfl,rfl⟩
theorem Cf {a:Addr} {x y z:V} {r:T3} {l g:Hu.Tc} (s:SqT K H a [.str "cut",x,y,z]) (h1:Dat K H (t3D r) x) (h2:Dat K H (tcD l) y) (h3:Dat K H (tcD g) z):Dat K H (tcD (.cut r l g)) (.ref a):=by
 unfold tcD;exact ⟨a,_,rfl,s,_,_,rfl,rfl,_,_,rfl,h1,_,_,rfl,h2,_,_,rfl,h3,rfl⟩
end
namespace Hu
theorem mq {h:List T3} {r:Row}:∀(a:List Row) (rs:List T3),run h (a++[r]) rs=match run h a rs with
  | .rules rs'=>(match bu h (choice rs' r) with | some x=>.rules (rs'++[x]) | none=>.mixed rs'.length (choice rs' r).1)
  | .mixed k t=>.mixed k t
 | [],rs=>by
  show run h [r] rs=_;simp only [run]
  all_goals (cases bu h (choice rs r) <;> rfl)
 | x::a,rs=>by
  simp only [List.cons_append,run];cases bu h (choice rs x) with
  | none=>rfl
  | some y=>exact mq a _
theorem eP (h:List T3) (x:T3):bu h (z0,x,x)=some x:=by
 unfold bu;rw [if_pos λq _=>Int.le_of_eq (pL q)]
end Hu
def rl (g:List T3):Tr->Option T3
 | .never=>some (Hu.lft 0)
 | .always=>some (Hu.lft 1)
 | .lp=>some (Hu.lft 2)
 | .lq=>some (Hu.lft 3)
 | .no t=>(rl g t).map λr=>Hu.mi Hu.al r
 | .fold u a b=>match rl g a,rl g b with
  | some x,some y=>Hu.bu g (Hu.fch (u5 u) x y)
  | _,_=>none
theorem nE (g:List T3):∀ t:Tr,rl g t≠none->∀ x∈t.post,rl g x≠none
 | .no t,h,x,hx=>by
  rcases List.mem_append.mp (show x∈t.post++[.no t] from hx) with z | z
  ·exact nE g t (λe=>h (by show (rl g t).map _=none;rw [e];rfl)) x z
  ·rw [List.mem_singleton.mp z];exact h
 | .fold u a b,h,x,hx=>by
  rcases List.mem_append.mp (show x∈a.post++b.post++[.fold u a b] from hx) with z | z
  ·rcases List.mem_append.mp z with z | z
   ·exact nE g a (λe=>h (by unfold rl;rw [e])) x z
   ·refine nE g b (λe=>h ?_) x z;unfold rl;rw [e];cases rl g a <;> rfl
  ·rw [List.mem_singleton.mp z];exact h
 | .never,h,x,hx=>by rw [List.mem_singleton.mp hx];exact h
 | .always,h,x,hx=>by rw [List.mem_singleton.mp hx];exact h
 | .lp,h,x,hx=>by rw [List.mem_singleton.mp hx];exact h
 | .lq,h,x,hx=>by rw [List.mem_singleton.mp hx];exact h
theorem vK {g:List T3} {ts:List Tr} {rs:List T3} (e:ts.map (rl g)=rs.map some) {i:Nat} {t:Tr} (h:ts[i]?=some t):rl g t=some (rs.getD i Hu.z0):=by
 have z:(ts.map (rl g))[i]?=some (rl g t):=by rw [List.getElem?_map,h];rfl
 rw [e,List.getElem?_map] at z;rw [List.getD_eq_getElem?_getD];cases q:rs[i]? with
 | none=>rw [q] at z;cases z
 | some r=>rw [q] at z;exact (Option.some.inj z).symm
theorem qT {g:List T3} {ts:List Tr} {rs:List T3} (e:ts.map (rl g)=rs.map some) {gr:Gr} {t:Tr} (h:GrT ts gr t):Hu.bu g (Hu.choice rs (cS gr))=rl g t:=by
 cases gr with
 | ne=>cases t <;> first | exact h.elim | exact Hu.eP _ _
 | al=>cases t <;> first | exact h.elim | exact Hu.eP _ _
 | p=>cases t <;> first | exact h.elim | exact Hu.eP _ _
 | q=>cases t <;> first | exact h.elim | exact Hu.eP _ _
 | no i =>
  cases t <;> first | exact h.elim | skip
  rename_i t;have z:=vK e (show ts[i]?=some t from h);show Hu.bu g (Hu.z0,Hu.mi Hu.al (rs.getD i Hu.z0),Hu.mi Hu.al (rs.getD i Hu.z0))=(rl g t).map _;rw [z,Hu.eP];rfl
 | fold u i j =>
  cases t <;> first | exact h.elim | skip
  rename_i v a b;obtain ⟨rfl,h1,h2⟩:=h;have z1:=vK e h1;have z2:=vK e h2;show Hu.bu g (Hu.fch (u5 u) (rs.getD i Hu.z0) (rs.getD j Hu.z0))=rl g (.fold u a b)
  conv=>rhs;unfold rl
  rw [z1,z2]
theorem zA (g:List T3) {gs:List Gr} {ts:List Tr} (h:Tab gs ts):(∃ rs,Hu.run g (gs.map cS) []=.rules rs/\ts.map (rl g)=rs.map some)\/(∃ k t,Hu.run g (gs.map cS) []=.mixed k t)/\∃ x∈ts,rl g x=none:=by
 induction h with
 | nil=>exact .inl ⟨[],rfl,rfl⟩
 | snoc hT r ih =>
  rename_i gs ts gr t;rw [List.map_append];show (∃ rs,Hu.run g (gs.map cS++[cS gr]) []=_/\_)\/_;rw [Hu.mq];rcases ih with ⟨rs,e,q⟩ | ⟨⟨k,tt,e⟩,x,hx,q⟩
  ·rw [e];dsimp only;rw [qT q r];cases z:rl g t with
   | some x=>exact .inl ⟨rs++[x],rfl,by rw [List.map_append,List.map_append,q];simp [z]⟩
   | none =>
    refine .inr ⟨⟨rs.length,(Hu.choice rs (cS gr)).1,?_⟩,t,List.mem_append_right _ List.mem_cons_self,z⟩;show Hu.run g (gs.map cS++[cS gr]) []=_;rw [Hu.mq,e];dsimp only;rw [qT q r,z]
  ·rw [e];refine .inr ⟨⟨k,tt,?_⟩,x,List.mem_append_left _ hx,q⟩;show Hu.run g (gs.map cS++[cS gr]) []=_;rw [Hu.mq,e]
theorem tab_ok {gs:List Gr} {ts:List Tr} (h:Tab gs ts):lI (gs.map cS):=λk r hr=>by
 rw [List.getElem?_map] at hr;cases z:gs[k]? with
 | none=>rw [z] at hr;cases hr
 | some g=>rw [z] at hr;cases hr;exact Cb (h.ok k g z)
structure jf (rs:List Rw) (ts:List Tr) (rows:List Hu.Row):Prop where
 gr:∃ gs:List Gr,rs=gs.map Gr.rw/\Tab gs ts/\rows=gs.map cS
theorem jf.ok {rs:List Rw} {ts:List Tr} {rows:List Hu.Row} (R:jf rs ts rows):lI rows:=by
 obtain ⟨gs,_,h,rfl⟩:=R.gr;exact tab_ok h
theorem jf.len {rs:List Rw} {ts:List Tr} {rows:List Hu.Row} (R:jf rs ts rows):rows.length=rs.length/\rs.length=ts.length:=by
 obtain ⟨gs,rfl,h,rfl⟩:=R.gr;exact ⟨by simp,by rw [List.length_map];exact h.len⟩
theorem jf.fd {rs:List Rw} {ts:List Tr} {rows:List Hu.Row} (R:jf rs ts rows):Hu.fds rows=rs.countP fdK:=by
 obtain ⟨gs,rfl,h,rfl⟩:=R.gr;exact EC gs
theorem jf.dat {K:W.Frag} {H:Hp} {rs:List Rw} {ts:List Tr} {rows:List Hu.Row} {us:List V} (R:jf rs ts rows) (al:cg (RwV H) us rs):DatAll K H (rows.map nB) us:=by
 obtain ⟨gs,rfl,h0,rfl⟩:=R.gr;clear R h0
 induction gs generalizing us with
 | nil=>cases al;rfl
 | cons g r ih =>
  cases al with
  | cons h k=>exact ⟨_,_,rfl,Av h,ih k⟩
theorem jf.run {rs:List Rw} {ts:List Tr} {rows:List Hu.Row} (R:jf rs ts rows) (g:List T3):(∃ out,Hu.run g rows []=.rules out/\ts.map (rl g)=out.map some)\/(∃ k t,Hu.run g rows []=.mixed k t)/\∃ x∈ts,rl g x=none:=by
 obtain ⟨gs,_,h,rfl⟩:=R.gr;exact zA g h
theorem vH (t:Tr):∃ ts rows,jf t.rows (ts++[t]) rows/\∀ x∈ts++[t],x∈t.post:=by
 obtain ⟨gs,ts,e,h,hp,_⟩:=Dd t;exact ⟨ts,_,⟨gs,e,h,rfl⟩,hp⟩
def bG (t:Tr):List Hu.Row:=Classical.choose (Classical.choose_spec (vH t))
theorem vG (t:Tr):∃ ts,jf t.rows (ts++[t]) (bG t)/\∀ x∈ts++[t],x∈t.post:=⟨_,Classical.choose_spec (Classical.choose_spec (vH t))⟩
structure RowsS (t:Tr) (rows:List Hu.Row):Prop where
 ok:lI rows
 pos:0 < rows.length
 len:rows.length<=t.size
 fd:Hu.fds rows<=t.nf
 dat:∀{K:W.Frag} {H:Hp} {us:List V},cg (RwV H) us t.rows->DatAll K H (rows.map nB) us
 run:∀ g:List T3,(∃ out r,Hu.run g rows []=.rules out/\out.getLast?=some r/\rl g t=some r)\/(∃ k x,Hu.run g rows []=.mixed k x)/\rl g t=none
theorem De (t:Tr):t.rows.length<=t.size:=by
 have:=ik t [];show (t.putR []).1.length<=_;simpa using this
theorem sj (t:Tr):RowsS t (bG t):=by
 obtain ⟨ts,R,hp⟩:=vG t;obtain ⟨l1,l2⟩:=R.len;have l3:=De t;refine ⟨R.ok,by rw [l1,l2];simp,by omega,?_,λal=>R.dat al,λg=>?_⟩
 ·rw [R.fd];have:=kB t [];rw [List.countP_nil,Nat.zero_add] at this;exact this
 ·rcases R.run g with ⟨out,e,q⟩ | ⟨e,x,hx,q⟩
  ·have z:(out.map some).getLast?=some (rl g t):=by rw [<- q,List.map_append];simp
   rw [List.getLast?_map] at z;cases y:out.getLast? with
   | none=>rw [y] at z;cases z
   | some r=>rw [y] at z;exact .inl ⟨out,r,e,y,(Option.some.inj z).symm⟩
  ·refine .inr ⟨e,?_⟩;cases y:rl g t with
   | none=>rfl
   | some r=>exact absurd q (nE g t (by rw [y];exact λz=>nomatch z) x (hp x hx))
def mI (a b:Tr):List Rw:=(b.putR (a.putR []).1).1
structure RowsB (a b:Tr) (rows:List Hu.Row):Prop where
 ok:lI rows
 pos:0 < rows.length
 len:rows.length<=a.size+b.size
 dat:∀{K:W.Frag} {H:Hp} {us:List V},cg (RwV H) us (mI a b)->DatAll K H (rows.map nB) us
 ia:(a.putR []).2 < rows.length
 ib:(b.putR (a.putR []).1).2 < rows.length
 fd:Hu.fds rows<=a.nf+b.nf
 tb:∃(gs:List Gr) (ts:List Tr),Tab gs ts/\rows=gs.map cS/\∀ x∈ts,x.size<=a.size+b.size
 run:∀ g:List T3,(∃ out x y,Hu.run g rows []=.rules out/\out[(a.putR []).2]?=some x/\rl g a=some x/\out[(b.putR (a.putR []).1).2]?=some y/\rl g b=some y)\/(∃ k x,Hu.run g rows []=.mixed k x)/\(rl g a=none\/rl g b=none)
theorem Ah {α β:Type} {f:α->Option β} {ts:List α} {out:List β} (e:ts.map f=out.map some) {i:Nat} {t:α} (h:ts[i]?=some t):∃ x,out[i]?=some x/\f t=some x:=by
 have z:(ts.map f)[i]?=some (f t):=by rw [List.getElem?_map,h];rfl
 rw [e,List.getElem?_map] at z;cases q:out[i]? with
 | none=>rw [q] at z;cases z
 | some r=>rw [q] at z;exact ⟨r,rfl,(Option.some.inj z).symm⟩
theorem vI (a b:Tr):∃ rows,RowsB a b rows/\(Tr.fold .leads a b).rows=mI a b++[eZ "leads" [(a.putR []).2,(b.putR (a.putR []).1).2]]:=by
 obtain ⟨gs,e,a1,a2,a3,a4,a5⟩:=qj a (gs:=[]) (ts:=[]) .nil;obtain ⟨gs2,e2,b1,b2,b3,b4,b5⟩:=qj b a2;have a1':(a.putR []).1=gs.map Gr.rw:=a1;rw [<- a1'] at b1 b3;simp only [List.nil_append] at a2 a3 b2 b3;have R:jf (mI a b) (e++e2) (gs2.map cS):=⟨gs2,b1,b2,rfl⟩;obtain ⟨l1,l2⟩:=R.len;have lb:=zG b (a.putR []).1;have la0:=zG a [];have h1:=ik a [];have h2:=ik b (a.putR []).1;have ha3:(e++e2)[(a.putR []).2]?=some a:=kJ a3;have la:(a.putR []).2 < (e++e2).length:=(List.getElem?_eq_some_iff.mp ha3).1;have lB:(mI a b).length=(b.putR (a.putR []).1).1.length:=rfl;refine ⟨_,⟨R.ok,by omega,by simp at h1;omega,λal=>R.dat al,by omega,by omega,(by rw [R.fd];have p1:=kB a [];have p2:=kB b (a.putR []).1;rw [List.countP_nil] at p1;show ((b.putR (a.putR []).1).1).countP fdK<=_;omega),⟨gs2,e++e2,b2,rfl,λx hx=>(List.mem_append.mp hx).elim (λw=>Nat.le_trans (cQ a _ (a4 _ w)) (Nat.le_add_right _ _)) (λw=>Nat.le_trans (cQ b _ (b4 _ w)) (Nat.le_add_left _ _))⟩,λg=>?_⟩,?_⟩
 ·rcases R.run g with ⟨out,eo,q⟩ | ⟨eo,x,hx,q⟩
  ·obtain ⟨x,x1,x2⟩:=Ah q ha3;obtain ⟨y,y1,y2⟩:=Ah q b3;exact .inl ⟨out,x,y,eo,x1,x2,y1,y2⟩
  ·refine .inr ⟨eo,?_⟩;rcases List.mem_append.mp hx with z | z
   ·refine .inl ?_;cases y:rl g a with
    | none=>rfl
    | some r=>exact absurd q (nE g a (by rw [y];exact λz=>nomatch z) x (a4 x z))
   ·refine .inr ?_;cases y:rl g b with
    | none=>rfl
    | some r=>exact absurd q (nE g b (by rw [y];exact λz=>nomatch z) x (b4 x z))
 ·show (bg (mI a b) (eZ "leads" [(a.putR []).2,(b.putR (a.putR []).1).2])).1=_;unfold bg;cases z:idx (mI a b) (eZ "leads" [(a.putR []).2,(b.putR (a.putR []).1).2]) with
  | none=>rfl
  | some i =>
   exfalso;have ei:=ym z;rw [show mI a b=gs2.map Gr.rw from b1,List.getElem?_map] at ei;cases y:gs2[i]? with
   | none=>rw [y] at ei;cases ei
   | some k =>
    rw [y] at ei;have ek:k=Gr.fold .leads (a.putR []).2 (b.putR (a.putR []).1).2:=CP (Option.some.inj ei);subst ek;obtain ⟨t',t1,t2⟩:=b2.at y;have et:=t2.uniq (show GrT (e++e2) (Gr.fold .leads (a.putR []).2 (b.putR (a.putR []).1).2) (.fold .leads a b) from ⟨rfl,ha3,b3⟩);subst et;have sz:(Tr.fold .leads a b).size=a.size+b.size+1:=rfl;rcases List.mem_append.mp (List.mem_of_getElem? t1) with w | w
    ·have:=cQ a _ (a4 _ w);omega
    ·have:=cQ b _ (b4 _ w);omega
def fu (a b:Tr):List Hu.Row:=Classical.choose (vI a b)
theorem iV (a b:Tr):RowsB a b (fu a b)/\(Tr.fold .leads a b).rows=mI a b++[eZ "leads" [(a.putR []).2,(b.putR (a.putR []).1).2]]:=Classical.choose_spec (vI a b)
def Bd (n:Nat) (r:T3):Prop:=r.u.natAbs<=n/\r.v.natAbs<=n/\r.w.natAbs<=n
theorem EE {u:W5} {x y:T3} {m n:Nat} (hx:Bd m x) (hy:Bd n y):Bd (m+n+1) (Hu.fch (u5 u) x y).1/\Bd (m+n+1) (Hu.fch (u5 u) x y).2.1/\Bd (m+n+1) (Hu.fch (u5 u) x y).2.2:=by
 obtain ⟨a1,a2,a3⟩:=hx;obtain ⟨b1,b2,b3⟩:=hy;cases u <;> simp only [u5,Hu.fch,Bd,Hu.pl,Hu.mi,Hu.al,Hu.z0] <;> simp <;> omega
theorem vJ {g:List T3}:∀{t:Tr} {r:T3},rl g t=some r->Bd t.size r
 | .never,r,h=>by cases h;exact ⟨by decide,by decide,by decide⟩
 | .always,r,h=>by cases h;exact ⟨by decide,by decide,by decide⟩
 | .lp,r,h=>by cases h;exact ⟨by decide,by decide,by decide⟩
 | .lq,r,h=>by cases h;exact ⟨by decide,by decide,by decide⟩
 | .no t,r,h=>by
  have e0:rl g (.no t)=(rl g t).map λr=>Hu.mi Hu.al r:=rfl;rw [e0] at h;cases e:rl g t with
  | none=>rw [e] at h;cases h
  | some x =>
   rw [e] at h;cases h
   obtain ⟨a,b,c⟩:=vJ e;show Bd (t.size+1) _;simp only [Bd,Hu.mi,Hu.al];omega
 | .fold u a b,r,h=>by
  unfold rl at h;cases e1:rl g a with
  | none=>rw [e1] at h;cases h
  | some x=>cases e2:rl g b with
   | none=>rw [e1,e2] at h;cases h
   | some y =>
    rw [e1,e2] at h;obtain ⟨_,k1,k2⟩:=EE (u:=u) (vJ e1) (vJ e2);show Bd (a.size+b.size+1) r;dsimp only at h;unfold Hu.bu at h;split at h
    ·cases h;exact k1
    ·split at h
     ·cases h;exact k2
     ·cases h
theorem wt (g:List T3) {N:Nat} {gs:List Gr} {ts:List Tr} (h:Tab gs ts) (hs:∀ x∈ts,x.size<=N):∀ k tt,Hu.run g (gs.map cS) []=.mixed k tt->Bd N tt:=by
 induction h with
 | nil=>intro k tt e;cases e
 | snoc hT r ih =>
  rename_i gs ts gr t;intro k tt e;rw [List.map_append] at e;have e:Hu.run g (gs.map cS++[cS gr]) []=.mixed k tt:=e;rw [Hu.mq] at e;rcases zA g hT with ⟨rs,e1,q⟩ | ⟨⟨k',tt',e1⟩,_⟩
  ·rw [e1] at e;dsimp only at e;cases z:Hu.bu g (Hu.choice rs (cS gr)) with
   | some x=>rw [z] at e;cases e
   | none =>
    rw [z] at e;cases e
    have st:=hs t (List.mem_append_right _ List.mem_cons_self);cases gr with
    | ne=>rw [show Hu.choice rs (cS .ne)=(Hu.z0,Hu.lft 0,Hu.lft 0) from rfl,Hu.eP] at z;cases z
    | al=>rw [show Hu.choice rs (cS .al)=(Hu.z0,Hu.lft 1,Hu.lft 1) from rfl,Hu.eP] at z;cases z
    | p=>rw [show Hu.choice rs (cS .p)=(Hu.z0,Hu.lft 2,Hu.lft 2) from rfl,Hu.eP] at z;cases z
    | q=>rw [show Hu.choice rs (cS .q)=(Hu.z0,Hu.lft 3,Hu.lft 3) from rfl,Hu.eP] at z;cases z
    | no i=>rw [show Hu.choice rs (cS (.no i))=(Hu.z0,Hu.mi Hu.al (rs.getD i Hu.z0),Hu.mi Hu.al (rs.getD i Hu.z0)) from rfl,Hu.eP] at z;cases z
    | fold u i j =>
     cases t <;> first | exact r.elim | skip
     rename_i v a b;obtain ⟨rfl,h1,h2⟩:=r;have b1:=vJ (vK q h1);have b2:=vJ (vK q h2);have st:a.size+b.size+1<=N:=st;obtain ⟨k1,k2,k3⟩:=(EE (u:=u) b1 b2).1;exact ⟨Nat.le_trans k1 st,Nat.le_trans k2 st,Nat.le_trans k3 st⟩
  ·rw [e1] at e;cases e
   exact ih (λx hx=>hs x (List.mem_append_left _ hx)) _ _ e1
theorem Bd.r3 {n:Nat} {r:T3} (h:Bd n r) (hn:n < 256):Hu.R3 8 r:=⟨Nat.lt_of_le_of_lt h.1 hn,Nat.lt_of_le_of_lt h.2.1 hn,Nat.lt_of_le_of_lt h.2.2 hn⟩
def Sml (rows:List Hu.Row):Prop:=∀(g:List T3) (k:Nat) (t:T3),Hu.run g rows []=.mixed k t->Hu.R3 8 t
theorem sml_T {a:Tr} (h:a.size<=60):Sml (bG a):=λg k t e=>by
 obtain ⟨ts,R,hp⟩:=vG a;obtain ⟨gs,_,hT,er⟩:=R.gr;rw [er] at e;exact (wt g (N:=60) hT (λx hx=>Nat.le_trans (cQ a x (hp x hx)) h) k t e).r3 (by decide)
theorem sml_B {a b:Tr} (h:a.size+b.size<=60):Sml (fu a b):=λg k t e=>by
 obtain ⟨gs,ts,hT,er,hp⟩:=(iV a b).1.tb;rw [er] at e;exact (wt g (N:=60) hT (λx hx=>Nat.le_trans (hp x hx) h) k t e).r3 (by decide)
def zb (K:W.Frag):Sp:=λvs H Q _=>vs=[]/\∀(l:Addr) (us:List V) (H':Hp),aH H H'->H l=none->H' l=some (.lst us)->DatAll K H' (Hu.sqH.map t3D) us->Q (.ref l) H'
section
variable {P:Program} {w:World} {K:W.Frag} {mg:Str->Option Value} {base:Heap}
theorem ok_sq (T:aF K mg "square" mh):Def P w K mg base 1 "square" [] (zb K):=by
 refine aW T AE (λ_ _ _ _ _ _=>L2.ar0 rfl) ?_ ?_
 ·walk_at "i1";obtain ⟨rfl,_⟩:=h;rfl
 walk_at "i2";obtain ⟨rfl,q⟩:=h;obtain ⟨e,p,he,eq⟩:∃ e p,IsSq e/\bP mh=[.Return (some e) p]:=⟨_,_,⟨_,_,_,_,_,_,_,_,_,_,_,_,_,_,_,_,_,_,_,_,_,_,_,_,_,_,_,_,_,_,_,_,_,rfl⟩,rfl⟩;rw [eq];refine ⟨_,aq (aD (pe_sq he)),?_⟩;refine ⟨(by show 3<=sizeLine;decide),λt1 h1=>⟨(by show 3<=sizeLine;decide),λt2 h2=>⟨(by show 3<=sizeLine;decide),λt3 h3=>⟨(by show 3<=sizeLine;decide),λt4 h4=>⟨(by show 4<=sizeLine;decide),λl h5=>?_⟩⟩⟩⟩⟩;have u1:=az h1 (.tup [.int 1,.int 0,.int 0]);have u2:=az h2 (.tup [.int 1,.int 1,.int 0]);have u3:=az h3 (.tup [.int 1,.int 1,.int 1]);have u4:=az h4 (.tup [.int 1,.int 0,.int 1]);have u5:=az h5 (.lst [.ref t1,.ref t2,.ref t3,.ref t4]);refine q l _ _ (u1.trans (u2.trans (u3.trans (u4.trans u5)))) ((u1.trans (u2.trans (u3.trans u4))).free h5) af ?_;exact ⟨_,_,rfl,gE (p:=⟨1,0,0⟩) (SqT.of ((u2.trans (u3.trans (u4.trans u5))) _ _ af)),_,_,rfl,gE (p:=⟨1,1,0⟩) (SqT.of ((u3.trans (u4.trans u5)) _ _ af)),_,_,rfl,gE (p:=⟨1,1,1⟩) (SqT.of ((u4.trans u5) _ _ af)),_,_,rfl,gE (p:=⟨1,0,1⟩) (SqT.of (u5 _ _ af)),rfl⟩
end
end Mine
namespace L2
open PySem
theorem nh {n:Nat} (h:n<=9000):n < sizeLine:=Nat.lt_of_le_of_lt h (by decide)
end L2
namespace Mine
open PySem L2
def HuL (K:W.Frag) (H:Hp) (N:Addr->Prop) (h:List T3) (v:V):Prop:=∃ a us,v=.ref a/\N a/\H a=some (.lst us)/\DatAll K H (h.map t3D) us
def bM (K:W.Frag) (H:Hp) (N:Addr->Prop):List (List T3)->List V->Prop
 | [],vs=>vs=[]
 | h::hs,vs=>∃ v r,vs=v::r/\HuL K H N h v/\bM K H N hs r
section
variable {K:W.Frag} {H H':Hp} {N M:Addr->Prop} {h:List T3} {v:V}
theorem HuL.same (g:HuL K H N h v) (s:aH H H'):HuL K H' N h v:=by
 obtain ⟨a,us,e,n,ha,d⟩:=g;exact ⟨a,us,e,n,s _ _ ha,d.ts s.ts⟩
theorem HuL.mut (g:HuL K H N h v) {c:Addr} {ws zs:List V} (e:H c=some (.lst ws)) (ne:∀ a,N a->a≠c):HuL K (upd H c (.lst zs)) N h v:=by
 obtain ⟨a,us,e1,n,ha,d⟩:=g;exact ⟨a,us,e1,n,by rw [aB (ne a n)];exact ha,d.ts (dM e)⟩
theorem HuL.imp (g:HuL K H N h v) (z:∀ a,N a->M a):HuL K H M h v:=by
 obtain ⟨a,us,e1,n,ha,d⟩:=g;exact ⟨a,us,e1,z a n,ha,d⟩
theorem bM.map {H':Hp} {M:Addr->Prop} (f:∀ h v,HuL K H N h v->HuL K H' M h v):∀{hs:List (List T3)} {vs:List V},bM K H N hs vs->bM K H' M hs vs
 | [],_,g=>g
 | _::_,_,⟨v,r,e,g1,g2⟩=>⟨v,r,e,f _ _ g1,bM.map f g2⟩
theorem bM.same {hs:List (List T3)} {vs:List V} (g:bM K H N hs vs) (s:aH H H'):bM K H' N hs vs:=bM.map (λ_ _ z=>z.same s) g
theorem bM.mut {hs:List (List T3)} {vs:List V} (g:bM K H N hs vs) {c:Addr} {ws zs:List V} (e:H c=some (.lst ws)) (ne:∀ a,N a->a≠c):bM K (upd H c (.lst zs)) N hs vs:=bM.map (λ_ _ z=>z.mut e ne) g
theorem bM.imp {hs:List (List T3)} {vs:List V} (g:bM K H N hs vs) (z:∀ a,N a->M a):bM K H M hs vs:=bM.map (λ_ _ y=>y.imp z) g
theorem bM.len:∀{hs:List (List T3)} {vs:List V},bM K H N hs vs->vs.length=hs.length
 | [],_,g=>by rw [show _=([]:List V) from g];rfl
 | _::_,_,⟨v,r,e,g1,g2⟩=>by rw [e,List.length_cons,List.length_cons,bM.len g2]
theorem bM.app:∀{hs gs:List (List T3)} {vs us:List V},bM K H N hs vs->bM K H N gs us->bM K H N (hs++gs) (vs++us)
 | [],_,_,_,g,z=>by rw [show _=([]:List V) from g];exact z
 | _::_,_,_,_,⟨v,r,e,g1,g2⟩,z=>by subst e;exact ⟨v,_,rfl,g1,bM.app g2 z⟩
theorem bM.one (g:HuL K H N h v):bM K H N [h] [v]:=⟨v,[],rfl,g,rfl⟩
theorem bM.at:∀{hs:List (List T3)} {vs:List V},bM K H N hs vs->∀{i:Nat} {v:V},vs[i]?=some v->∃ h,hs[i]?=some h/\HuL K H N h v
 | [],_,g,i,v,e=>by rw [show _=([]:List V) from g] at e;simp at e
 | h::_,_,⟨w,r,e1,g1,g2⟩,0,v,e=>by
  subst e1;cases e
  exact ⟨h,rfl,g1⟩
 | _::_,_,⟨w,r,e1,g1,g2⟩,i+1,v,e=>by
  subst e1;exact bM.at g2 (i:=i) e
end
section
variable {K:W.Frag} {H H':Hp} {N M:Addr->Prop} {h:List T3} {v:V}
theorem DatAll.unsnoc:∀{ds:List PyData} {d:PyData} {vs:List V},DatAll K H (ds++[d]) vs->∃ us v,vs=us++[v]/\DatAll K H ds us/\Dat K H d v
 | [],d,vs,⟨x,r,e,g,z⟩=>by
  cases (show r=[] from z)
  exact ⟨[],x,e,rfl,g⟩
 | c::ds,d,vs,⟨x,r,e,g,z⟩=>by
  obtain ⟨us,v,rfl,g1,g2⟩:=DatAll.unsnoc (ds:=ds) z;exact ⟨x::us,v,e,⟨x,us,rfl,g,g1⟩,g2⟩
theorem bM.unsnoc:∀{hs:List (List T3)} {h:List T3} {vs:List V},bM K H N (hs++[h]) vs->∃ us v,vs=us++[v]/\bM K H N hs us/\HuL K H N h v
 | [],d,vs,⟨x,r,e,g,z⟩=>by
  cases (show r=[] from z)
  exact ⟨[],x,e,rfl,g⟩
 | c::ds,d,vs,⟨x,r,e,g,z⟩=>by
  obtain ⟨us,v,rfl,g1,g2⟩:=bM.unsnoc (hs:=ds) z;exact ⟨x::us,v,e,⟨x,us,rfl,g,g1⟩,g2⟩
end
theorem sH {us:List V} {v:V}:(us++[v])[(us++[v]).length - 1]?=some v:=by simp
abbrev Stk:=List (Hu.Tc×List T3)
def tot:Stk->Nat
 | []=>0
 | p::r=>p.1.size+tot r
theorem pf:∀ a b,tot (a++b)=tot a+tot b
 | [],b=>by simp [tot]
 | p::a,b=>by have:=pf a b;simp only [List.cons_append,tot];omega
theorem sX:∀ S:Stk,S.length<=tot S
 | []=>Nat.le_refl _
 | p::r=>by
  have:=sX r;have:=Hu.Tc.size_pos p.1;simp only [tot,List.length_cons];omega
def kq (K:W.Frag) (CN:Addr):Sp:=λvs H Q E=>∃(x:V) (t:Hu.Tc),vs=[x]/\Dat K H (tcD t) x/\t.Sm 64/\t.deep<=12/\
 (t.told Hu.sqH=none->∀ H',aH H H'->E (.ref CN) none H')/\
 (∀ L,t.told Hu.sqH=some L->∀(l:Addr) (us:List V) (H':Hp),aH H H'->H l=none->H' l=some (.lst us)->bM K H' (λa=>H a=none/\a≠l) L us->Q (.ref l) H')
structure HI (K:W.Frag) (H H':Hp) (t:Hu.Tc) (lf lt lh:Addr) (m:Nat) (S:Stk) (F:List (List T3)) (fv tv hv:List V):Prop where
 sm:aH H H'
 ef:H' lf=some (.lst fv)
 et:H' lt=some (.lst tv)
 eh:H' lh=some (.lst hv)
 df:bM K H' (λa=>H a=none/\a≠lf/\a≠lt/\a≠lh) F fv
 dt:DatAll K H' (S.map λp=>tcD p.1) tv
 dh:bM K H' (λa=>H a=none/\a≠lf/\a≠lt/\a≠lh) (S.map (·.2)) hv
 to:t.told Hu.sqH=(Hu.Tc.eI S.reverse).map (F++·)
 ok:∀ p∈S,Hu.HK p.2/\p.1.Sm 64/\p.2.length+p.1.deep<=20
 me:tot S=m
 few:F.length+m<=8900
variable {P:Program} {w:World} {K:W.Frag} {mg:Str->Option Value} {base:Heap}
theorem DN {CN:Addr} (T:aF K mg "hulls_of" lj) (ki:Def P w K mg base 1 "square" [] (zb K)) (Fj:cy P w K mg base 3 "cut" ["hull","rule"] (CG K CN)):cy P w K mg base 4 "hulls_of" ["tree"] (kq K CN):=by
 refine dG T oo (λ_ _ _ _ _ _=>L2.ar1 λ_=>rfl) ?_ ?_
 ·walk_at "i1";obtain ⟨x,t,rfl,_⟩:=h;rfl
 walk_at "i2";obtain ⟨x,t,rfl,dx,sm0,dp,kn,kc⟩:=h;have nd:=oo.nd;have tsz:=Hu.Tc.size_le (t:=t) (d:=12) dp
 refine ⟨_,(ae (aG (i:=1) nd rfl (Or.inl rfl) (bO ah))
  (ae (aG (i:=2) nd rfl (Or.inl rfl) (bO (aa (pv 0) ah)))
  (ae (aG (i:=3) nd rfl (Or.inl rfl) (bO (aa (tU ki (hr.mono (by decide)) rfl) ah)))
  (ae (mr PassesOwn.leaving (qk (pv 2) (λ_=>rfl)) (ae (aG (i:=4) nd rfl (Or.inl rfl) (il PySem.F.plainAttrs_list PySem.F.slot_list_pop PySem.F.type_list_pop jt (pv 2)))
  (ae (aG (i:=5) nd rfl (Or.inl rfl) (il PySem.F.plainAttrs_list PySem.F.slot_list_pop PySem.F.type_list_pop jt (pv 3)))
  (aq (aJ (au aM (aK aL (pv 4) ao (λ_ _=>rfl)) aR (aC _)) (aq (aZ (dP PySem.F.plainAttrs_list PySem.F.slot_list_append PySem.F.type_list_append bA (pv 1) (aa (pv 5) ah)))) (ae (aG (i:=6) nd rfl (Or.inl rfl) (bX Fj (hr.mono (by decide)) rfl (aa (pv 5) (aa (aK aL (pv 4) ao (λ_ _=>rfl)) ah))))
  (ae (aZ (dP PySem.F.plainAttrs_list PySem.F.slot_list_extend PySem.F.type_list_extend nK (pv 2) (aa (bO (aa (aK aL (pv 4) ao (λ_ _=>rfl)) (aa (aK aL (pv 4) ao (λ_ _=>rfl)) ah))) ah)))
  (aq (aZ (dP PySem.F.plainAttrs_list PySem.F.slot_list_extend PySem.F.type_list_extend nK (pv 3) (aa (bO (aa (aK aL (pv 6) ao (λ_ _=>rfl)) (aa (aK aL (pv 6) ao (λ_ _=>rfl)) ah))) ah)))))))))))
  (aq (aD (pv 1))))))),?_⟩
 refine ⟨(by show 0<=sizeLine;decide),λlf hlf=>?_⟩;refine ⟨_,rfl,(by show 1<=sizeLine;decide),λlt hlt=>?_⟩;refine ⟨rfl,λl0 us0 H0 s0 f0 hl0 da0=>⟨(by show 1<=sizeLine;decide),λlh hlh=>?_⟩⟩;have u1:=az hlf (.lst []);have u2:=az hlt (.lst [x]);have u3:=az hlh (.lst [.ref l0]);have ef0:H0 lf=some (.lst []):=s0 _ _ (u2 _ _ af);have et0:H0 lt=some (.lst [x]):=s0 _ _ af;have n1:lf≠lt:=λz=>by subst z;rw [af] at hlt;cases hlt
 have n2:lf≠lh:=λz=>by subst z;rw [ef0] at hlh;cases hlh
 have n3:lt≠lh:=λz=>by subst z;rw [et0] at hlh;cases hlh
 have n4:l0≠lh:=λz=>by subst z;rw [hl0] at hlh;cases hlh
 have s00:=u1.trans (u2.trans s0);have Hlt:H lt=none:=u1.free hlt;have Hlh:H lh=none:=s00.free hlh;have n5:l0≠lf:=λz=>by subst z;rw [u2 _ _ af] at f0;cases f0
 have n6:l0≠lt:=λz=>by subst z;rw [af] at f0;cases f0
 refine ⟨λm σ H'=>∃ S F fv tv hv,∃(o4 o5 o6:Option V),σ=[some x,some (.ref lf),some (.ref lt),some (.ref lh),o4,o5,o6]/\HI K H H' t lf lt lh m S F fv tv hv,⟨t.size,[(t,Hu.sqH)],[],[],[x],[.ref l0],_,_,_,rfl,?_⟩,?_⟩
 ·refine ⟨s00.trans u3,u3 _ _ ef0,u3 _ _ et0,af,rfl,?_,?_,?_,?_,?_,?_⟩
  ·exact ⟨x,[],rfl,dx.ts (s00.trans u3).ts,rfl⟩
  ·exact bM.one ⟨l0,us0,rfl,⟨(u1.trans u2).free f0,n5,n6,n4⟩,u3 _ _ hl0,da0.ts u3.ts⟩
  ·show t.told Hu.sqH=(match t.told Hu.sqH,Hu.Tc.eI [] with | some a,some b=>some (a++b) | _,_=>none).map ([]++·)
   cases t.told Hu.sqH with
   | none=>rfl
   | some L=>simp [Hu.Tc.eI]
  ·intro p hp;rw [List.mem_singleton.mp hp];exact ⟨Hu.jz,sm0,by show 4+t.deep<=20;omega⟩
  ·simp [tot]
  ·show 0+t.size<=8900;omega
 rintro m σ H' ⟨S,F,fv,tv,hv,o4,o5,o6,rfl,I⟩
 refine ⟨_,rfl,_,.inl ⟨tv,SqL.of I.et,rfl⟩,?_⟩;have lt1:=I.dt.len;rw [List.length_map] at lt1;have hfew:=I.few;have hme:=I.me;have hlen:=sX S;rcases List.eq_nil_or_concat S with e | ⟨S',p,e⟩
 ·subst e;have e2:tv=[]:=List.eq_nil_of_length_eq_zero lt1;rw [e2];refine aT ⟨_,rfl,?_⟩;have to:=I.to;simp only [List.reverse_nil,Hu.Tc.eI,Option.map_some,List.append_nil] at to;exact kc F to lf fv H' I.sm hlf I.ef (I.df.imp λa z=>⟨z.1,z.2.1⟩)
 rw [List.concat_eq_append] at e;subst e;obtain ⟨t1,h1⟩:=p;have dt:=I.dt;have dh:=I.dh;rw [List.map_append] at dt dh;obtain ⟨tv',b,rfl,dt',db⟩:=DatAll.unsnoc dt;obtain ⟨hv',c,rfl,dh',dc⟩:=bM.unsnoc dh;have hb:(!(tv'++[b]).isEmpty)=true:=by cases tv' <;> rfl
 rw [hb];obtain ⟨hk,hsm,hdp⟩:Hu.HK h1/\t1.Sm 64/\h1.length+t1.deep<=20:=I.ok (t1,h1) (List.mem_append_right _ List.mem_cons_self);have hlS:=sX S';have ok':∀ q∈S',Hu.HK q.2/\q.1.Sm 64/\q.2.length+q.1.deep<=20:=λq hq=>I.ok q (List.mem_append_left _ hq);rw [pf] at hme hlen;simp only [tot] at hme hlen;have tp:=Hu.Tc.size_pos t1;have to:=I.to;rw [List.reverse_append] at to;refine cj ⟨λσ' H''=>∃ m',m' < m/\∃ S F fv tv hv,∃(o4 o5 o6:Option V),σ'=[some x,some (.ref lf),some (.ref lt),some (.ref lh),o4,o5,o6]/\HI K H H'' t lf lt lh m' S F fv tv hv,λσ' H'' ⟨m',q1,q2⟩=>⟨m',q1,q2⟩,?_⟩;refine ⟨_,rfl,.inl ⟨rfl,_,SqL.of I.et⟩,lt,_,b,rfl,rfl,I.et,sH,?_⟩;rw [List.dropLast_concat];have eh1:(upd H' lt (.lst tv')) lh=some (.lst (hv'++[c])):=by rw [aB (Ne.symm n3)];exact I.eh
 have g1:Tst H' (upd H' lt (.lst tv')):=dM I.et;refine ⟨_,rfl,.inl ⟨rfl,_,SqL.of eh1⟩,lh,_,c,rfl,rfl,eh1,sH,?_⟩;rw [List.dropLast_concat];have g2:Tst (upd H' lt (.lst tv')) (upd (upd H' lt (.lst tv')) lh (.lst hv')):=dM eh1;generalize eH2:upd (upd H' lt (.lst tv')) lh (.lst hv')=H2 at g2;have sm2:aH H H2:=by rw [<- eH2];exact bc (bc I.sm Hlt _) Hlh _
 have ef2:H2 lf=some (.lst fv):=by rw [<- eH2,aB n2,aB n1];exact I.ef
 have et2:H2 lt=some (.lst tv'):=by rw [<- eH2,aB n3,af]
 have eh2:H2 lh=some (.lst hv'):=by rw [<- eH2,af]
 have df2:=(I.df.mut (zs:=tv') I.et λa z=>z.2.2.1).mut (zs:=hv') eh1 λa z=>z.2.2.2;have dh2:=(dh'.mut (zs:=tv') I.et λa z=>z.2.2.1).mut (zs:=hv') eh1 λa z=>z.2.2.2;have dc2:=(dc.mut (zs:=tv') I.et λa z=>z.2.2.1).mut (zs:=hv') eh1 λa z=>z.2.2.2;rw [eH2] at df2 dh2 dc2;have db2:=(db.ts g1).ts g2;have dt2:=(dt'.ts g1).ts g2;have lh1:=dh'.len;have lf1:=I.df.len;have lt2:=dt'.len;rw [List.length_map] at lh1 lt2;cases t1 with
 | leaf =>
  obtain ⟨a,rfl,sa⟩:=tc_leaf db2;refine ⟨_,rfl,_,_,_,_,rfl,rfl,sa,rfl,rfl,_,rfl,cj ?_⟩;refine ⟨_,rfl,.inl ⟨rfl,_,SqL.of ef2⟩,_,rfl,lf,fv,_,rfl,rfl,ef2,nh (by omega),?_⟩;refine ⟨tot S',by omega,S',F++[h1],fv++[c],tv',hv',_,_,_,rfl,?_⟩;refine ⟨bc sm2 hlf _,af,by rw [aB (Ne.symm n1)];exact et2,by rw [aB (Ne.symm n2)];exact eh2,?_,dt2.ts (dM ef2),dh2.mut ef2 (λa z=>z.2.1),?_,ok',rfl,?_⟩
  ·exact (df2.app (.one dc2)).mut ef2 λa z=>z.2.1
  ·rw [to];show (Hu.Tc.eI ((Hu.Tc.leaf,h1)::S'.reverse)).map _=_;rw [Hu.Tc.xA];cases Hu.Tc.eI S'.reverse with
   | none=>rfl
   | some L=>simp
  ·rw [List.length_append];simp only [List.length_cons,List.length_nil];omega
 | cut r l g =>
  obtain ⟨a,y1,y2,y3,rfl,sa,d1,d2,d3⟩:=tc_cut db2;refine ⟨_,rfl,_,_,_,_,rfl,rfl,sa,rfl,rfl,_,rfl,aT ?_⟩;obtain ⟨cc,cu,rfl,cn,hcc,dcc⟩:=dc2;have ddp:max l.deep g.deep+1+h1.length<=20:=by simp only [Hu.Tc.deep] at hdp;omega
  refine ⟨_,rfl,_,rfl,_,_,_,_,rfl,rfl,sa,rfl,cc,y1,cu,h1,r,rfl,hcc,dcc,d1,hk.hull.mono (by decide) (by omega),hsm.1.mono (by decide),λnc H3 s3=>?_,λnc v H3 s3 cr=>?_⟩
  ·refine kn ?_ H3 (sm2.trans s3);rw [to];show (Hu.Tc.eI ((Hu.Tc.cut r l g,h1)::S'.reverse)).map _=_;rw [Hu.Tc.Ca nc];rfl
  obtain ⟨pt,pa,pb,w1,w2,rfl,nab,fa,fb,sp,e1,e2,p1,p2⟩:=cr;have C:=Hu.gZ hk hsm.1 nc;have cl:=C.ll;have ch:=C.lh;refine ⟨_,rfl,.inl ⟨rfl,_,SqL.of (s3 _ _ et2)⟩,_,rfl,_,_,_,_,rfl,rfl,sa.ts s3.ts,rfl,_,rfl,_,_,_,_,rfl,rfl,sa.ts s3.ts,rfl,(by show 2<=sizeLine;decide),λq1 hq1=>?_⟩;have v1:=az hq1 (.lst [y3,y2]);have et4:=v1 _ _ (s3 _ _ et2);refine ⟨lt,q1,tv',[y3,y2],rfl,rfl,et4,af,(by show tv'.length+2<=sizeLine;exact Nat.le_of_lt (nh (by omega))),?_⟩;have s34:=s3.trans v1;generalize eH4:upd H3 q1 (.lst [y3,y2])=H4 at et4 s34;have g5:Tst H4 (upd H4 lt (.lst (tv'++[y3,y2]))):=dM et4;have s24:=sm2.trans s34;have sp4:SqT K H4 pt [.ref pa,.ref pb]:=by rw [<- eH4];exact sp.ts v1.ts
  have ha4:H4 pa=some (.lst w1):=by rw [<- eH4];exact v1 _ _ e1
  have hb4:H4 pb=some (.lst w2):=by rw [<- eH4];exact v1 _ _ e2
  have p14:DatAll K H4 ((Hu.low r h1).map t3D) w1:=by rw [<- eH4];exact p1.ts v1.ts
  have p24:DatAll K H4 ((Hu.high r h1).map t3D) w2:=by rw [<- eH4];exact p2.ts v1.ts
  have ne2:∀ z u,H2 z=some u->∀ k,H2 k=none->k≠z:=λz u h3 k h4 h5=>by rw [h5,h3] at h4;cases h4
  have na:H pa=none/\pa≠lf/\pa≠lt/\pa≠lh:=⟨sm2.free fa,ne2 _ _ ef2 _ fa,ne2 _ _ et2 _ fa,ne2 _ _ eh2 _ fa⟩;have nb:H pb=none/\pb≠lf/\pb≠lt/\pb≠lh:=⟨sm2.free fb,ne2 _ _ ef2 _ fb,ne2 _ _ et2 _ fb,ne2 _ _ eh2 _ fb⟩;have eh5':(upd H4 lt (.lst (tv'++[y3,y2]))) lh=some (.lst hv'):=by rw [aB (Ne.symm n3)];exact s34 _ _ eh2
  refine ⟨_,rfl,.inl ⟨rfl,_,SqL.of eh5'⟩,_,rfl,_,_,_,_,rfl,rfl,sp4.ts g5,rfl,_,rfl,_,_,_,_,rfl,rfl,sp4.ts g5,rfl,(by show 2<=sizeLine;decide),λq2 hq2=>?_⟩;have v2:=az hq2 (.lst [.ref pb,.ref pa]);have eh5:(upd H4 lt (.lst (tv'++[y3,y2]))) lh=some (.lst hv'):=by rw [aB (Ne.symm n3)];exact s34 _ _ eh2
  have ef5:(upd H4 lt (.lst (tv'++[y3,y2]))) lf=some (.lst fv):=by rw [aB n1];exact s34 _ _ ef2
  have s25:aH H (upd H4 lt (.lst (tv'++[y3,y2]))):=bc s24 Hlt _;have et5:(upd H4 lt (.lst (tv'++[y3,y2]))) lt=some (.lst (tv'++[y3,y2])):=af;have df5:=(df2.same s34).mut (zs:=tv'++[y3,y2]) et4 λa z=>z.2.2.1;have dh5:=(dh2.same s34).mut (zs:=tv'++[y3,y2]) et4 λa z=>z.2.2.1;have da5:=(show HuL K H4 (λa=>H a=none/\a≠lf/\a≠lt/\a≠lh) (Hu.low r h1) (.ref pa) from ⟨pa,w1,rfl,na,ha4,p14⟩).mut (zs:=tv'++[y3,y2]) et4 λa z=>z.2.2.1;have db5:=(show HuL K H4 (λa=>H a=none/\a≠lf/\a≠lt/\a≠lh) (Hu.high r h1) (.ref pb) from ⟨pb,w2,rfl,nb,hb4,p24⟩).mut (zs:=tv'++[y3,y2]) et4 λa z=>z.2.2.1;have dt5:=(dt2.ts s34.ts).ts g5;have y35:=(d3.ts s34.ts).ts g5;have y25:=(d2.ts s34.ts).ts g5;generalize upd H4 lt (.lst (tv'++[y3,y2]))=H5 at *;have eh6:=v2 _ _ eh5;refine ⟨lh,q2,hv',[.ref pb,.ref pa],rfl,rfl,eh6,af,(by show hv'.length+2<=sizeLine;exact Nat.le_of_lt (nh (by omega))),?_⟩;have g6:Tst (upd H5 q2 (.lst [.ref pb,.ref pa])) (upd (upd H5 q2 (.lst [.ref pb,.ref pa])) lh (.lst (hv'++[.ref pb,.ref pa]))):=dM eh6;refine ⟨tot (S'++[(g,Hu.high r h1),(l,Hu.low r h1)]),?_,S'++[(g,Hu.high r h1),(l,Hu.low r h1)],F,fv,tv'++[y3,y2],hv'++[.ref pb,.ref pa],_,_,_,rfl,?_⟩
  ·rw [pf];simp only [tot,Hu.Tc.size] at hme ⊢;omega
  refine ⟨bc (s25.trans v2) Hlh _,by rw [aB n2];exact v2 _ _ ef5,by rw [aB n3];exact v2 _ _ et5,af,(df5.same v2).mut eh6 (λa z=>z.2.2.2),?_,?_,?_,?_,rfl,?_⟩
  ·rw [List.map_append];exact ((dt5.ts v2.ts).ts g6).append ⟨y3,[y2],rfl,(y35.ts v2.ts).ts g6,y2,[],rfl,(y25.ts v2.ts).ts g6,rfl⟩
  ·rw [List.map_append];exact ((dh5.same v2).mut eh6 λa z=>z.2.2.2).app ⟨_,_,rfl,(db5.same v2).mut eh6 (λa z=>z.2.2.2),_,_,rfl,(da5.same v2).mut eh6 (λa z=>z.2.2.2),rfl⟩
  ·rw [to,List.reverse_append];show (Hu.Tc.eI ((Hu.Tc.cut r l g,h1)::S'.reverse)).map _=(Hu.Tc.eI ((l,Hu.low r h1)::(g,Hu.high r h1)::S'.reverse)).map _;rw [Hu.Tc.Au nc]
  ·intro q hq;rcases List.mem_append.mp hq with z | z
   ·exact ok' q z
   ·rcases List.mem_cons.mp z with z | z
    ·rw [z];exact ⟨C.hi,hsm.2.2,by show (Hu.high r h1).length+g.deep<=20;omega⟩
    ·rw [List.mem_singleton.mp z];exact ⟨C.lo,hsm.2.1,by show (Hu.low r h1).length+l.deep<=20;omega⟩
  ·rw [pf];simp only [tot,Hu.Tc.size] at hme ⊢;omega
def uZ:Sp:=λvs H Q _=>∃ i:Int,vs=[.int i]/\i<=8/\Q .non H
def pR (C:Addr):Sp:=λvs H _ E=>∃ i:Int,vs=[.int i]/\8 < i/\∀ H',aH H H'->E (.ref C) none H'
variable {c:CCs}
theorem ok_few {tm:Tok} (T:aF K mg "must_be_few" fZ) (jx:mg "MOST_FOLDS"=some (.int 8 tm)):Def P w K mg base 1 "must_be_few" ["folds"] uZ:=by
 refine aW T fh (λ_ _ _ _ _ _=>L2.ar1 λ_=>rfl) ?_ ?_
 ·walk_at "i1";obtain ⟨i,rfl,_⟩:=h;rfl
 walk_at "i2";obtain ⟨i,rfl,hi,q⟩:=h;have nd:=fh.nd;refine ⟨_,aq (aJ (au qq (pv 0) (bV (v:=V.int 8) rfl jx ⟨_,rfl⟩) (aC _)) (aq vP) av),?_⟩;refine ⟨_,rfl,_,_,rfl,rfl,_,rfl,gG (λc=>?_) (λ_=>q)⟩;have c:(8:Int) < i:=of_decide_eq_true c;exfalso;omega
structure yD (K:W.Frag) (mg:Str->Option Value) (x s:Str):Prop where
 ex:∃ a,mg x=some (.ref a)/\∀ H,SqT K H a [.str s]
theorem Ar {K:W.Frag} {h:Heap} {mg:Str->Option Value} {x s:Str} {a:Addr} {od:Option Addr} {its:Array Value} {n:Nat} {osl:Array (Option Value)} (X:K.In h) (G:h.Ns mainGlobals mg)
  (e:PySem.W.nsIn K mainGlobals x=some (some (.ref a))) (l:K.lookup a=some ⟨.type "tuple",od,.seq its n,osl⟩) (hz:its.size<=sizeLine) (v:Vals [V.str s] its.toList):yD K mg x s:=
 ⟨a,PySem.W.mg_of X G e,λ_=>.inr ⟨_,its,n,l,rfl,rfl,hz,v⟩⟩
def Gd (Ls:List (List Hu.Row)) (h:List T3) (T:Hu.Tc):Prop:=∃ L,T.told h=some L/\∀ g∈L,∀ rows∈Ls,∃ rs,Hu.run g rows []=.rules rs
theorem BZ {r:T3} {l g:Hu.Tc} {h:List T3} (n:¬Hu.kU r h):(Hu.Tc.cut r l g).told h=match l.told (Hu.low r h),g.told (Hu.high r h) with | some a,some b=>some (a++b) | _,_=>none:=by
 conv=>lhs;unfold Hu.Tc.told
 rw [if_neg n]
 all_goals (cases l.told (Hu.low r h) <;> cases g.told (Hu.high r h) <;> rfl)
theorem Gd.leaf {Ls:List (List Hu.Row)} {h:List T3} (k:∀ rows∈Ls,∃ rs,Hu.run h rows []=.rules rs):Gd Ls h .leaf:=⟨[h],rfl,λg hg rows hr=>by rw [List.mem_singleton.mp hg];exact k rows hr⟩
theorem Gd.cut {Ls:List (List Hu.Row)} {h:List T3} {t:T3} {X1 X2:Hu.Tc} (n:¬Hu.kU t h) (a:Gd Ls (Hu.low t h) X1) (b:Gd Ls (Hu.high t h) X2):Gd Ls h (.cut t X1 X2):=by
 obtain ⟨L1,e1,k1⟩:=a;obtain ⟨L2,e2,k2⟩:=b;exact ⟨L1++L2,by rw [BZ n,e1,e2],λg hg=>(List.mem_append.mp hg).elim (k1 g) (k2 g)⟩
theorem Cr {Ls:List (List Hu.Row)} (h:(Ls.map Hu.fds).sum<=8):Hu.TnL Ls 8 Hu.sqH:=⟨Hu.jz,by show 4+8<=20;decide,Nat.le_trans (Hu.xD Ls λx _=>Hu.need_le _ x) h⟩
def pO (K:W.Frag) (n:Nat):Sp:=λvs H Q _=>∃(l lr:Addr) (us ws:List V) (rows:List Hu.Row) (h:List T3) (d:Nat),vs=[.ref l,.ref lr]/\H l=some (.lst us)/\DatAll K H (h.map t3D) us/\H lr=some (.lst ws)/\DatAll K H (rows.map nB) ws/\lI rows/\0 < rows.length/\rows.length<=60/\Sml rows/\Hu.TnL [rows] d h/\d+1<=n/\∀(v:V) (T:Hu.Tc) (H':Hp),aH H H'->Dat K H' (tcD T) v->T.Sm 8->T.deep<=d->T.gZ+1<=2 ^ d->Gd [rows] h T->Q v H'
def pA (c:CCs) (K:W.Frag):Sp:=λvs H Q _=>∃(a:Addr) (t:Tr),vs=[.ref a]/\Ob c H a t/\t.size<=60/\t.nf<=8/\∀(v:V) (T:Hu.Tc) (H':Hp),aH H H'->Dat K H' (tcD T) v->T.Sm 8->T.deep<=8->T.gZ+1<=2 ^ 8->Gd [bG t] Hu.sqH T->Q v H'
theorem AR {CN:Addr} (T:aF K mg "tree_on" nj) (TL:yD K mg "LEAF" "leaf") (dw:Def P w K mg base 4 "rules_of_rows" ["rows","hull"] (pw K)) (Fj:cy P w K mg base 3 "cut" ["hull","rule"] (CG K CN)):∀ n:Nat,Def P w K mg base (n+4) "tree_on" ["hull","rows"] (pO K n):=by
 intro n
 induction n with
 | zero =>
  refine aW T kX (λ_ _ _ _ _ _=>L2.ar2 λ_ _=>rfl) ?_ ?_
  ·walk_at "i1";obtain ⟨l,lr,us,ws,rows,h,d,rfl,_⟩:=h;rfl
  ·walk_at "i2";obtain ⟨l,lr,us,ws,rows,h,d,rfl,_,_,_,_,_,_,_,_,_,z,_⟩:=h;omega
 | succ n hU =>
  refine aW T kX (λ_ _ _ _ _ _=>L2.ar2 λ_ _=>rfl) ?_ ?_
  ·walk_at "i1";obtain ⟨l,lr,us,ws,rows,h,d,rfl,_⟩:=h;rfl
  walk_at "i2";obtain ⟨l,lr,us,ws,rows,h,d,rfl,el,da,er,dr,ok,pos,few,sml,tn,dn,q⟩:=h;have nd:=kX.nd;obtain ⟨aLF,M_LEAF,qL⟩:=TL.ex;have n3:=tn.hk.n3;have hl:=tn.ln;refine ⟨_,(ae (aG (i:=2) nd rfl (Or.inl rfl) (aI dw (hr.mono (by omega)) rfl (aa (pv 1) (aa (pv 0) ah))))
  (ae (aJ (au aM (aK aL (pv 2) ao (λ_ _=>rfl)) aR (aC _)) (aq (aD (bV (v:=V.ref aLF) rfl M_LEAF rfl))) av)
  (ae (aG (i:=3) nd rfl (Or.inl rfl) (aK aL (pv 2) ao (λ_ _=>rfl)))
  (ae (aG (i:=4) nd rfl (Or.inl rfl) (pD Fj (hr.mono (by omega)) rfl (aa (pv 0) (aa (pv 3) ah))))
  (aq (aD (bB (aa aR (aa (pv 3) (aa (aI hU (hr.mono (by omega)) rfl (aa (aK aL (pv 4) ao (λ_ _=>rfl)) (aa (pv 1) ah))) (aa (aI hU (hr.mono (by omega)) rfl (aa (aK aL (pv 4) ao (λ_ _=>rfl)) (aa (pv 1) ah))) ah))))))))))),?_⟩
  refine ⟨_,rfl,_,rfl,lr,l,ws,us,rows,h,rfl,er,dr,ok,pos,by omega,el,da,(λp hp=>(tn.hk.ok p hp).r.mono (by decide)),by omega,by omega,λrs t lr2 ws2 H1 s1 ru rb rl f2 st e2 d2=>?_,λk tt t v H1 s1 mx kl bt st dv=>?_⟩
  ·refine ⟨_,rfl,_,_,_,_,rfl,rfl,st,rfl,rfl,_,rfl,ite_yes rfl ?_⟩;exact q _ .leaf _ s1 (Aw (qL _)) trivial (Nat.zero_le _) (Nat.one_le_two_pow) (Gd.leaf λx hx=>by rw [List.mem_singleton.mp hx];exact ⟨rs,ru⟩)
  ·refine ⟨_,rfl,_,_,_,_,rfl,rfl,st,rfl,rfl,_,rfl,ite_no (by decide+kernel) ?_⟩;obtain ⟨b40,d',ed,T1,T2⟩:=tn.cut List.mem_cons_self ok few mx;subst ed;refine ⟨_,rfl,_,_,_,_,rfl,rfl,st,rfl,?_⟩;refine ⟨_,rfl,_,rfl,l,v,us,h,tt,rfl,s1 _ _ el,da.ts s1.ts,dv,tn.hk.hull.mono (by decide) (by omega),b40.mono (by decide),(λz=>absurd z (Hu.sC mx)),λ_ v2 H2 s2 cr=>?_⟩;obtain ⟨t2,a,b,us1,us2,rfl,nab,fa,fb,sq,ea,eb,d1,d2⟩:=cr;have s12:=s1.trans s2;refine ⟨_,rfl,_,rfl,_,_,_,_,rfl,rfl,sq,rfl,_,rfl,a,lr,us1,ws,rows,_,d',rfl,ea,d1,s12 _ _ er,dr.ts s12.ts,ok,pos,few,sml,T1,by omega,λv3 X1 H3 s3 d3 m3 p3 c3 g3=>?_⟩;refine ⟨_,rfl,_,_,_,_,rfl,rfl,sq.ts s3.ts,rfl,_,rfl,b,lr,us2,ws,rows,_,d',rfl,s3 _ _ eb,d2.ts s3.ts,(s12.trans s3) _ _ er,dr.ts (s12.trans s3).ts,ok,pos,few,sml,T2,by omega,λv4 X2 H4 s4 d4 m4 p4 c4 g4=>?_⟩;refine ⟨(by show 4<=sizeLine;decide),λp hp=>?_⟩;have u5:=az hp (.tup [.str "cut",v,v3,v4]);have e2:2 ^ (d'+1)=2*2 ^ d':=by rw [Nat.pow_succ];omega
   exact q _ (.cut tt X1 X2) _ (((s12.trans s3).trans s4).trans u5) (Cf (SqT.of af) (dv.ts (((s2.trans s3).trans s4).trans u5).ts) (d3.ts (s4.trans u5).ts) (d4.ts u5.ts)) ⟨sml _ _ _ mx,m3,m4⟩ (by simp only [Hu.Tc.deep];omega) (by show 1+X1.gZ+X2.gZ+1<=_;omega) (Gd.cut (Hu.sC mx) g3 g4)
theorem DQ (T:aF K mg "cutting" ky) (M:∀ t,aQ P w K mg base (c.of t) "folds" 3 ["self"] (eJ c t)) (aY:Def P w K mg base 1 "must_be_few" ["folds"] uZ) (ki:Def P w K mg base 1 "square" [] (zb K)) (eA:Def P w K mg base 3 "rows_of" ["saying"] (iP c)) (hU:Def P w K mg base 13 "tree_on" ["hull","rows"] (pO K 9)):Def P w K mg base 14 "cutting" ["saying"] (pA c K):=by
 refine aW T jk (λ_ _ _ _ _ _=>L2.ar1 λ_=>rfl) ?_ ?_
 ·walk_at "i1";obtain ⟨a,t,rfl,_⟩:=h;rfl
 walk_at "i2";obtain ⟨a,t,rfl,oa,sz,nf8,q⟩:=h;have nd:=jk.nd;obtain ⟨dx,fs,ea,nf⟩:=oa.cls;have R:=sj t;have fd:=R.fd;have ln:=R.len
 refine ⟨_,(ae (aZ (aI aY (hr.mono (by decide)) rfl (aa (bF (k:=3) (pv 0) (hr.mono (by omega))) ah)))
  (aq (aD (aI hU (hr.mono (by omega)) rfl (aa (tU ki (hr.mono (by omega)) rfl) (aa (aI eA (hr.mono (by omega)) rfl (aa (pv 0) ah)) ah)))))),?_⟩
 refine ⟨_,rfl,a,_,_,_,_,_,rfl,ea,nf _ (by decide+kernel),M t,a,rfl,oa,by omega,λH1 s1=>⟨_,rfl,by omega,?_⟩⟩;refine ⟨rfl,λl us H2 s2 hl el da=>?_⟩;have s12:=s1.trans s2;refine ⟨_,rfl,a,t,rfl,oa.to (Kp.of s12),by omega,λlr ws H3 s3 hlr er al=>?_⟩;exact ⟨l,lr,us,ws,bG t,Hu.sqH,8,rfl,s3 _ _ el,da.ts s3.ts,er,R.dat al,R.ok,R.pos,by omega,sml_T (by omega),Cr (by simp;omega),by decide,λv T H4 s4 d4 m4 p4 c4 g4=>q v T H4 ((s12.trans s3).trans s4) d4 m4 p4 c4 g4⟩
def FrV (K:W.Frag) (H:Hp) (v:V) (p:Int×Int):Prop:=∃ a,v=.ref a/\SqT K H a [.int p.1,.int p.2]
theorem FrV.to {K:W.Frag} {H H':Hp} {v:V} {p:Int×Int} (s:aH H H') (h:FrV K H v p):FrV K H' v p:=by
 obtain ⟨a,rfl,q⟩:=h;exact ⟨a,rfl,q.ts s.ts⟩
def tq (K:W.Frag):Sp:=λvs H Q _=>∃ t b:Int,vs=[.int t,.int b]/\b≠0/\Bg b/\∀(v:V) (H':Hp),aH H H'->FrV K H' v (Lo.rz t b,Lo.rA t b)->Q v H'
def uX (K:W.Frag):Sp:=λvs H Q _=>∃(x y:V) (f g:Int×Int),vs=[x,y]/\FrV K H x f/\FrV K H y g/\Bg f.1/\Bg f.2/\Bg g.1/\Bg g.2/\Q (.bl (decide (f.1*g.2 < g.1*f.2))) H
theorem ri (T:aF K mg "fraction" lx) (eX:Def P w K mg base 1 "common_factor" ["one","other"] pS):Def P w K mg base 2 "fraction" ["top","bottom"] (tq K):=by
 refine aW T oq (λ_ _ _ _ _ _=>L2.ar2 λ_ _=>rfl) ?_ ?_
 ·walk_at "i1";obtain ⟨t,b,rfl,_⟩:=h;rfl
 walk_at "i2";obtain ⟨t,b,rfl,hb,hs,q⟩:=h;have nd:=oq.nd
 refine ⟨_,(ae (aJ (au aM (pv 1) ao (aC _)) (aq ps_dead) av)
  (ae (aG (i:=2) nd rfl (Or.inl rfl) (aI eX (hr.mono (by decide)) rfl (aa (pv 0) (aa (pv 1) ah))))
  (ae (aJ (au oA (pv 1) ao (aC _)) (aq (aG (i:=2) nd rfl (Or.inl rfl) (oz jI (pv 2)))) av)
  (aq (aD (bB (aa (aP iZ (pv 0) (pv 2)) (aa (aP iZ (pv 1) (pv 2)) ah)))))))),?_⟩
 refine ⟨_,rfl,rfl,_,rfl,?_⟩;refine gG (λc=>absurd (V.int.inj (of_decide_eq_true c)) hb) (λc=>?_);have hg2:Bg (Lo.sg t b):=Nat.lt_of_le_of_lt (Lo.sg_le hb) hs;refine ⟨_,rfl,_,rfl,t,b,rfl,?_⟩;refine ⟨_,rfl,_,_,rfl,rfl,_,rfl,?_⟩;refine gG (λc=>?_) (λc=>?_)
 ·have c2:b < 0:=of_decide_eq_true c;have es:-(Lo.gc t b)=Lo.sg t b:=by unfold Lo.sg;rw [if_pos c2]
  refine ⟨_,rfl,_,rfl,_,rfl,_,rfl,_,_,rfl,rfl,(by rw [es];exact wI (Lo.rS hb) hg2),_,rfl,_,rfl,_,_,rfl,rfl,(by rw [es];exact wI (Lo.rS hb) hg2),(by show 2<=sizeLine;decide),λp hp=>?_⟩;rw [es];exact q _ _ (az hp _) ⟨p,rfl,SqT.of af⟩
 ·have c2:¬b < 0:=λz=>c (decide_eq_true z);have es:Lo.gc t b=Lo.sg t b:=by unfold Lo.sg;rw [if_neg c2]
  refine ⟨_,rfl,_,rfl,_,_,rfl,rfl,(by rw [es];exact wI (Lo.rS hb) hg2),_,rfl,_,rfl,_,_,rfl,rfl,(by rw [es];exact wI (Lo.rS hb) hg2),(by show 2<=sizeLine;decide),λp hp=>?_⟩;rw [es];exact q _ _ (az hp _) ⟨p,rfl,SqT.of af⟩
theorem AU (T:aF K mg "less" xI):Def P w K mg base 1 "less" ["one","other"] (uX K):=by
 refine aW T zp (λ_ _ _ _ _ _=>L2.ar2 λ_ _=>rfl) ?_ ?_
 ·walk_at "i1";obtain ⟨x,y,f,g,rfl,_⟩:=h;rfl
 walk_at "i2";obtain ⟨x,y,f,g,rfl,⟨a,rfl,sa⟩,⟨c,rfl,sc⟩,b1,b2,b3,b4,k⟩:=h;have nd:=zp.nd;refine ⟨_,(aq (aD (gw oA (aP bH (aK aL (pv 0) ao (λ_ _=>rfl)) (aK aL (pv 1) ao (λ_ _=>rfl))) (aP bH (aK aL (pv 1) ao (λ_ _=>rfl)) (aK aL (pv 0) ao (λ_ _=>rfl))) (aC _)))),?_⟩;exact ⟨_,rfl,_,_,_,_,rfl,rfl,sa,rfl,_,rfl,_,_,_,_,rfl,rfl,sc,rfl,_,_,rfl,rfl,fV b1 b4,_,rfl,_,_,_,_,rfl,rfl,sc,rfl,_,rfl,_,_,_,_,rfl,rfl,sa,rfl,_,_,rfl,rfl,fV b3 b2,_,_,rfl,rfl,k⟩
theorem ES {K:W.Frag} {te:TE} {js:List Nat} {σ:St} {H:Hp} {Q:VK} {l:Addr} {is:List Int} (g:Int->V) (sq:SqT K H l (is.map V.int)) (hx:is.length<=1000)
  (hs:∀(i:Int) (H':Hp) (N:VK),aH H H'->(∀ H'',aH H' H''->N (g i) H'')->te (some (.int i)::ck js σ) H' N)
  (hd:∀ D H',aH H H'->H D=none->H' D=some (.lst (is.map g))->Q (.ref D) H'):jy (λ_ H R=>R (Itt K l) H) og te js σ H Q:=by
 intro D hD;refine ⟨λi m H'=>m=is.length - i/\i<=is.length/\aH H H'/\H' D=some (.lst ((is.take i).map g)),⟨is.length,rfl,Nat.zero_le _,az hD _,af⟩,?_⟩;rintro i m H2 ⟨rfl,hi,s2,eD⟩
 have sq2:=sq.ts s2.ts
 by_cases hlt:i < is.length
 ·have h1:(is.map V.int)[i]?=some (.int is[i]):=by rw [List.getElem?_map,List.getElem?_eq_getElem hlt];rfl
  refine .inr ⟨⟨_,_,sq2,h1⟩,λv H3 y=>?_⟩;obtain ⟨rfl,y⟩:=y;have hv:=y _ sq2;rw [h1] at hv;cases hv
  refine lQ ?_;refine hs _ _ _ s2 λH4 s4=>?_;refine ⟨_,s4 _ _ eD,Nat.lt_of_le_of_lt (show _<=1000 by rw [List.length_map,List.length_take];omega) (by decide),is.length - (i+1),by omega,rfl,hlt,bc (s2.trans s4) hD _,?_⟩;rw [af,List.take_add_one,List.getElem?_eq_getElem hlt,List.map_append];rfl
 ·have ei:i=is.length:=by omega
  subst ei;rw [List.take_length] at eD;exact .inl ⟨⟨_,sq2,by simp⟩,hd D H2 s2 hD eD⟩
def PtS (K:W.Frag) (H:Hp) (p:Addr) (n x y:Int):Prop:=SqT K H p [.int n,.int x,.int y]/\1<=n/\0<=x/\x<=n/\0<=y/\y<=n
theorem PtS.to {K:W.Frag} {H H':Hp} {p:Addr} {n x y:Int} (h:PtS K H p n x y) (s:aH H H'):PtS K H' p n x y:=⟨h.1.ts s.ts,h.2⟩
def uY (K:W.Frag):Sp:=λvs H Q _=>∃(p:Addr) (n x y:Int),vs=[.ref p]/\PtS K H p n x y/\∀ H',aH H H'->Q (.bl true) H'
def pP (K:W.Frag):Sp:=λvs H Q _=>∃(p:Addr) (n x y:Int),vs=[.ref p]/\PtS K H p n x y/\∀ H',aH H H'->Q .non H'
def mX (c:CCs) (K:W.Frag):Sp:=λvs H Q _=>∃(a p:Addr) (t:Tr) (n x y:Int),vs=[.ref a,.ref p]/\Ob c H a t/\t.size<=1000/\PtS K H p n x y/\∀ H',aH H H'->Q (.int (t.worth n x y)) H'
theorem tZ (T:aF K mg "is_point" eY) (bw:mg "isinstance"=none) (cY:mg "tuple"=none) (cK:mg "len"=none) (jB:mg "all"=none) (yR:Def P w K mg base 1 "is_whole" ["thing"] uW):Def P w K mg base 2 "is_point" ["thing"] (uY K):=by
 refine aW T qe (λ_ _ _ _ _ _=>L2.ar1 λ_=>rfl) ?_ ?_
 ·walk_at "i1";obtain ⟨p,n,x,y,rfl,_⟩:=h;rfl
 walk_at "i2";obtain ⟨p,n,x,y,rfl,⟨e,g1,g2,g3,g4,g5⟩,q⟩:=h;have nd:=qe.nd
 have ex1:∃ te,PE (eO CX0 P w K mg base ptN "is_point" (ak eY) f cdv A outer s H E).nox (allArg (ptAt 1)) te/\∀(Q':VK) (o1:Option V),(∀ l H',aH H H'->H' l=some (.lst [.bl true,.bl true,.bl true])->Q' (.ref l) H')->te [some (.ref p),o1] H Q':=by
  refine ⟨_,(fE rfl (Ds (pv 0)) rfl (by decide+kernel) (by decide+kernel) rfl (show ∀ p∈Scope.names _,p.2=NameKind.free->List.lookup p.1 (ak eY).names=some .cell\/List.lookup p.1 (ak eY).names=some .free by decide+kernel) dC (show (["number"]:List Str).Nodup by decide+kernel) (λ_ _ _ _=>gv) (λ_ _ _ _=>(aI yR (hr.mono (by decide)) rfl (aa (pv 0) ah)))),?_⟩;intro Q' o1 fin;refine nP ?_;refine ⟨_,rfl,p,rfl,⟨_,e⟩,?_⟩;refine ES (K:=K) (is:=[n,x,y]) (λ_=>.bl true) e (by show 3<=1000;decide) (λi H' N s1 hN=>?_) (λD H' s1 hD eD=>fin D H' s1 eD);exact ⟨_,rfl,i,rfl,hN _ (aH.refl _)⟩
 obtain ⟨t1,ht1,hq1⟩:=ex1
 refine ⟨_,ae (aJ (PW.pt (zE (tN (iH (aN BE rfl bw (by decide+kernel) (aa (pv 0) (aa (pE (v:=V.ty "tuple") rfl cY (by decide+kernel) rfl) ah))))) (tM (au sv (aN di rfl cK (by decide+kernel) (aa (pv 0) ah)) ao (aC _))))) (aq (aD kR)) av) (ae (aJ (tN (iH (aN (mH rfl) rfl jB (by decide+kernel) (aa ht1 ah)))) (aq (aD kR)) av) (ae (aG (i:=1) nd rfl (Or.inl rfl) (aK aL (pv 0) ao (λ_ _=>rfl)))
  (aq (aD (tW (gw vT (pv 1) ao (aC _)) (tW (vR oB oB ao (aK aL (pv 0) ao (λ_ _=>rfl)) (pv 1)) (xP (vR oB oB ao (aK aL (pv 0) ao (λ_ _=>rfl)) (pv 1))))))))),?_⟩
 refine ⟨_,rfl,_,_,_,_,true,rfl,(λ_ h=>h),e,qE,_,rfl,?_⟩;refine aT ⟨_,rfl,_,3,rfl,.inr ⟨_,e,rfl⟩,rfl,_,rfl,?_⟩;refine iteNS rfl ?_;refine hq1 _ _ λl H1 s1 el=>?_;have e1:=e.ts s1.ts;refine ⟨l,[true,true,true],rfl,SqL.of el,_,rfl,aT ?_⟩;refine ⟨_,rfl,_,_,_,_,rfl,rfl,e1,rfl,?_⟩;refine ⟨_,rfl,_,_,rfl,rfl,_,rfl,?_⟩;rw [decide_eq_true (show n ≥ 1 from g1)];refine cj ⟨_,rfl,_,_,_,_,rfl,rfl,e1,rfl,_,_,rfl,rfl,_,rfl,?_⟩;rw [decide_eq_true (show (0:Int)<=x from g2)];refine cj ⟨_,rfl,_,_,rfl,rfl,_,rfl,?_⟩;rw [decide_eq_true (show x<=n from g3)];refine cj ⟨_,rfl,_,_,_,_,rfl,rfl,e1,rfl,_,_,rfl,rfl,_,rfl,?_⟩;rw [decide_eq_true (show (0:Int)<=y from g4)];refine cj ⟨_,rfl,_,_,rfl,rfl,?_⟩;show Q (.bl (decide (y<=n))) H1;rw [decide_eq_true (show y<=n from g5)];exact q _ s1
theorem vW (T:aF K mg "must_be_point" gJ) (yS:Def P w K mg base 2 "is_point" ["thing"] (uY K)):Def P w K mg base 3 "must_be_point" ["thing"] (pP K):=by
 refine aW T rZ (λ_ _ _ _ _ _=>L2.ar1 λ_=>rfl) ?_ ?_
 ·walk_at "i1";obtain ⟨p,n,x,y,rfl,_⟩:=h;rfl
 walk_at "i2";obtain ⟨p,n,x,y,rfl,g,q⟩:=h;have nd:=rZ.nd;refine ⟨_,(aq (aJ (tN (iH (aI yS (hr.mono (by decide)) rfl (aa (pv 0) ah)))) (aq vP) av)),?_⟩;exact ⟨_,rfl,p,n,x,y,rfl,g,λH' s'=>⟨_,rfl,aT (q _ s')⟩⟩
theorem rT:aE ["saying","point"] ["saying","point"] (ak tE):=L2.fsc rfl (by decide+kernel)
theorem xQ (T:aF K mg "worth" tE) (oX:Def P w K mg base 3 "must_be_point" ["thing"] (pP K)) (M:∀ t,aQ P w K mg base (c.of t) "out_of" 3 ["self","n","x","y"] (Cy c t)):Def P w K mg base 4 "worth" ["saying","point"] (mX c K):=by
 refine aW T rT (λ_ _ _ _ _ _=>L2.ar2 λ_ _=>rfl) ?_ ?_
 ·walk_at "i1";obtain ⟨a,p,t,n,x,y,rfl,_⟩:=h;rfl
 walk_at "i2";obtain ⟨a,p,t,n,x,y,rfl,o,z,g,q⟩:=h;have nd:=rT.nd
 refine ⟨_,(ae (aZ (aI oX (hr.mono (by decide)) rfl (aa (pv 1) ah)))
  (aq (aD (qp (k:=3) (pv 0) (hr.mono (by omega)) (aa (aK aL (pv 1) ao (λ_ _=>rfl)) (aa (aK aL (pv 1) ao (λ_ _=>rfl)) (aa (aK aL (pv 1) ao (λ_ _=>rfl)) ah))))))),?_⟩
 refine ⟨_,rfl,p,n,x,y,rfl,g,λH1 s1=>?_⟩;have o1:=o.to (Kp.of s1);have e1:=(g.to s1).1;obtain ⟨dx,fs,ea,nf⟩:=o1.cls;exact ⟨_,rfl,a,_,_,_,_,_,rfl,ea,nf _ (by decide+kernel),M t,_,rfl,_,_,_,_,rfl,rfl,e1,rfl,_,rfl,_,_,_,_,rfl,rfl,e1,rfl,_,rfl,_,_,_,_,rfl,rfl,e1,rfl,a,n,x,y,rfl,o1,z,λH2 s2=>q _ (s1.trans s2)⟩
def lowF (w n:Int):Int×Int:=(Lo.rz w n,Lo.rA w n)
theorem zS {w n:Int} (hn:0 < n):(lowF w n).1*n=w*(lowF w n).2/\0 < (lowF w n).2:=by
 have g0:0 < Lo.gc w n:=Lo.yo (by omega);have es:Lo.sg w n=Lo.gc w n:=by unfold Lo.sg;rw [if_neg (by omega)]
 obtain ⟨k1,e1⟩:=Lo.dQ w n;obtain ⟨k2,e2⟩:=Lo.dW w n
 have f1:w.fdiv (Lo.gc w n)=k1:=by
  conv=>lhs;arg 1;rw [e1]
  exact Int.mul_fdiv_cancel_left k1 (by omega)
 have f2:n.fdiv (Lo.gc w n)=k2:=by
  conv=>lhs;arg 1;rw [e2]
  exact Int.mul_fdiv_cancel_left k2 (by omega)
 show w.fdiv (Lo.sg w n)*n=w*n.fdiv (Lo.sg w n)/\0 < n.fdiv (Lo.sg w n);rw [es,f1,f2];generalize Lo.gc w n=g at *;refine ⟨?_,?_⟩
 ·rw [e1,e2];grind
 ·rcases Int.lt_or_le 0 k2 with z | z
  ·exact z
  ·exact absurd (Int.mul_nonpos_of_nonneg_of_nonpos (Int.le_of_lt g0) z) (by omega)
theorem wz {f g:Int×Int} {w n:Int} (hf:0 < f.2) (hg:0 < g.2) (hn:0 < n) (h:g.1*f.2<=f.1*g.2) (k:f.1*n<=w*f.2):g.1*n<=w*g.2:=by
 have h1:g.1*f.2*n<=f.1*g.2*n:=Int.mul_le_mul_of_nonneg_right h (Int.le_of_lt hn);have h2:f.1*n*g.2<=w*f.2*g.2:=Int.mul_le_mul_of_nonneg_right k (Int.le_of_lt hg);refine Int.le_of_mul_le_mul_right (a:=f.2) ?_ hf;have e1:g.1*n*f.2=g.1*f.2*n:=by grind
 have e2:w*g.2*f.2=w*f.2*g.2:=by grind
 have e3:f.1*g.2*n=f.1*n*g.2:=by grind
 omega
namespace Hu
theorem Tc.told_cone:∀{t:Tc} {h:List T3} {L:List (List T3)},HK h->t.Sm 64->t.told h=some L->∀ g∈L,∀ c∈g,iL h c
 | .leaf,h,L,H,_,e,g,hg,c,hc=>by
  cases e
  rw [List.mem_singleton.mp hg] at hc;exact mG hc
 | .cut r l k,h,L,H,sm,e,x,hx,p,hp=>by
  unfold Tc.told at e;split at e
  ·cases e
  ·rename_i nc;have c:=Hu.gZ H sm.1 nc;cases ea:l.told (low r h) with
   | none=>rw [ea] at e;cases e
   | some a=>cases eb:k.told (high r h) with
    | none=>rw [ea,eb] at e;cases e
    | some b =>
     rw [ea,eb] at e;cases e
     rcases List.mem_append.mp hx with z | z
     ·exact iL.sub (kE H) (Tc.told_cone c.lo sm.2.1 ea x z p hp)
     ·exact iL.sub (kE H) (Tc.told_cone c.hi sm.2.2 eb x z p hp)
theorem kH {p:T3} (C:iL sqH p):0<=p.v/\p.v<=p.u/\0<=p.w/\p.w<=p.u:=by
 have h:∀ f:T3,0<=tl f ⟨1,0,0⟩->0<=tl f ⟨1,1,0⟩->0<=tl f ⟨1,1,1⟩->0<=tl f ⟨1,0,1⟩->0<=tl f p:=λf a b c d=>C f λx hx=>by
  simp only [sqH,List.mem_cons,List.not_mem_nil,or_false] at hx;rcases hx with rfl | rfl | rfl | rfl <;> assumption
 have e:∀ f q:T3,tl f q=f.u*q.v+f.v*q.w+f.w*q.u:=λ_ _=>rfl;have h1:=h ⟨1,0,0⟩ (by decide) (by decide) (by decide) (by decide);have h2:=h ⟨-1,0,1⟩ (by decide) (by decide) (by decide) (by decide);have h3:=h ⟨0,1,0⟩ (by decide) (by decide) (by decide) (by decide);have h4:=h ⟨0,-1,1⟩ (by decide) (by decide) (by decide) (by decide);rw [e] at h1 h2 h3 h4;refine ⟨?_,?_,?_,?_⟩ <;> simp at h1 h2 h3 h4 <;> omega
end Hu
theorem fP:∀{t:Hu.Tc} {h:List T3} {L:List (List T3)},t.told h=some L->L.length=t.gZ+1
 | .leaf,h,L,e=>by cases e;rfl
 | .cut r l g,h,L,e=>by
  unfold Hu.Tc.told at e;split at e
  ·cases e
  ·cases ea:l.told (Hu.low r h) with
   | none=>rw [ea] at e;cases e
   | some a=>cases eb:g.told (Hu.high r h) with
    | none=>rw [ea,eb] at e;cases e
    | some b =>
     rw [ea,eb] at e;cases e
     have:=fP ea;have:=fP eb;rw [List.length_append];show _=1+l.gZ+g.gZ+1;omega
def HuV (K:W.Frag) (H:Hp) (v:V) (h:List T3):Prop:=∃(a:Addr) (us:List V),v=.ref a/\H a=some (.lst us)/\DatAll K H (h.map t3D) us
theorem HuV.to {K:W.Frag} {H H':Hp} (s:aH H H') (v:V) (h:List T3) (y:HuV K H v h):HuV K H' v h:=by
 obtain ⟨a,us,rfl,e,d⟩:=y;exact ⟨a,us,rfl,s _ _ e,d.ts s.ts⟩
theorem bM.all2 {K:W.Frag} {H:Hp} {N:Addr->Prop}:∀{L:List (List T3)} {vs:List V},bM K H N L vs->cg (HuV K H) vs L
 | [],_,g=>by cases (show _=([]:List V) from g);exact .nil
 | _::_,_,⟨v,r,e,⟨a,us,e1,_,e2,e3⟩,g2⟩=>by subst e;exact .cons ⟨a,us,e1,e2,e3⟩ g2.all2
theorem w5_bd {u:W5} {n i j:Int} (hn:0<=n) (a:0<=i/\i<=n) (b:0<=j/\j<=n):0<=u.worth n i j/\u.worth n i j<=n:=by
 cases u with
 | more=>show 0<=min (i+j) n/\min (i+j) n<=n;omega
 | less=>show 0<=max (i+j - n) 0/\max (i+j - n) 0<=n;omega
 | greater=>show 0<=max i j/\max i j<=n;omega
 | lesser=>show 0<=min i j/\min i j<=n;omega
 | leads=>show 0<=min (n - i+j) n/\min (n - i+j) n<=n;omega
theorem jF {n x y:Int} (hn:0<=n) (a:0<=x/\x<=n) (b:0<=y/\y<=n):∀ t:Tr,0<=t.worth n x y/\t.worth n x y<=n
 | .no t=>by
  have:=jF hn a b t;show 0<=n - t.worth n x y/\n - t.worth n x y<=n;omega
 | .fold w u v=>w5_bd hn (jF hn a b u) (jF hn a b v)
 | .never=>⟨Int.le_refl _,hn⟩
 | .always=>⟨hn,Int.le_refl _⟩
 | .lp=>a
 | .lq=>b
def WF (a:Tr) (c:T3):Int×Int:=lowF (a.worth c.u c.v c.w) c.u
def Best (K:W.Frag) (H:Hp) (a:Tr) (cs:List T3) (ol op:V):Prop:=(cs=[]/\ol=.non/\op=.non)\/∃ pt,pt∈cs/\FrV K H ol (WF a pt)/\Dat K H (t3D pt) op/\∀ c∈cs,(WF a pt).1*c.u<=a.worth c.u c.v c.w*(WF a pt).2
def spLW (c:CCs) (K:W.Frag):Sp:=λvs H Q _=>∃(x:Addr) (a:Tr),vs=[.ref x]/\Ob c H x a/\a.size<=60/\a.nf<=8/\
 ∀(p:Addr) (vl vp vt:V) (pt:T3) (T:Hu.Tc) (L:List (List T3)) (H':Hp),aH H H'->H' p=some (.tup [vl,vp,vt])->FrV K H' vl (WF a pt)->Dat K H' (t3D pt) vp->Dat K H' (tcD T) vt->T.Sm 8->T.deep<=8->T.gZ+1<=2 ^ 8->T.told Hu.sqH=some L->(∀ g∈L,∃ rs,Hu.run g (bG a) []=.rules rs)->(∃ g∈L,pt∈g)->(∀ g∈L,∀ c∈g,(WF a pt).1*c.u<=a.worth c.u c.v c.w*(WF a pt).2)->Q (.ref p) H'
section
variable {P:Program} {w:World} {K:W.Frag} {mg:Str->Option Value} {base:Heap} {c:CCs}
theorem ok_lw {CN:Addr} (T:aF K mg "least_worth" gf) (fY:Def P w K mg base 14 "cutting" ["saying"] (pA c K)) (cZ:cy P w K mg base 4 "hulls_of" ["tree"] (kq K CN)) (pI:Def P w K mg base 4 "worth" ["saying","point"] (mX c K)) (lN:Def P w K mg base 2 "fraction" ["top","bottom"] (tq K)) (D_less:Def P w K mg base 1 "less" ["one","other"] (uX K)):Def P w K mg base 16 "least_worth" ["saying"] (spLW c K):=by
 refine aW T fi (λ_ _ _ _ _ _=>L2.ar1 λ_=>rfl) ?_ ?_
 ·walk_at "i1";obtain ⟨x,a,rfl,_⟩:=h;rfl
 walk_at "i2";obtain ⟨x,a,rfl,oa,sz,n8,q⟩:=h;have nd:=fi.nd
 refine ⟨_,(ae (aG (i:=1) nd rfl (Or.inl rfl) (aI fY (hr.mono (by omega)) rfl (aa (pv 0) ah)))
  (ae (aG (i:=2) nd rfl (Or.inl rfl) cI)
  (ae (aG (i:=3) nd rfl (Or.inl rfl) cI)
  (ae (eE PassesOwn.never rfl (bR (pD cZ (hr.mono (by omega)) rfl (aa (pv 1) ah))) (aV (i:=4) nd rfl (Or.inl rfl)) (aq (eE PassesOwn.never rfl (bR (pv 4)) (aV (i:=5) nd rfl (Or.inl rfl)) (ae (aG (i:=6) nd rfl (Or.inl rfl) (aI lN (hr.mono (by omega)) rfl (aa (aI pI (hr.mono (by omega)) rfl (aa (pv 0) (aa (pv 5) ah))) (aa (aK aL (pv 5) ao (λ_ _=>rfl)) ah))))
  (aq (aJ (PW.pt (zE (au nH (pv 2) cI (aC _)) (tM (iH (aI D_less (hr.mono (by omega)) rfl (aa (pv 6) (aa (pv 2) ah))))))) (ae (aG (i:=2) nd rfl (Or.inl rfl) (pv 6))
  (aq (aG (i:=3) nd rfl (Or.inl rfl) (pv 5)))) av))))))
  (aq (aD (bB (aa (pv 2) (aa (pv 3) (aa (pv 1) ah)))))))))),?_⟩
 refine ⟨_,rfl,x,a,rfl,oa,sz,n8,λvt X H1 s1 dt sm dp cu gd=>?_⟩;obtain ⟨L,eL,kL⟩:=gd;have sm64:X.Sm 64:=sm.mono (by decide);have hk:=Hu.Tc.gU Hu.jz sm64 eL;have cn:=Hu.Tc.told_cone Hu.jz sm64 eL;refine ⟨_,rfl,vt,X,rfl,dt,sm64,by omega,λnn=>absurd (eL.symm.trans nn) (λz=>by cases z),λL' eL' l us H2 s2 hl el al=>?_⟩;rw [eL] at eL';cases eL'
 have s12:=s1.trans s2;have al2:=al.all2;have lu:=al2.len;have hp:∀ g∈L,∀ p∈g,0 < p.u/\(0<=p.v/\p.v<=p.u/\0<=p.w/\p.w<=p.u)/\Bg p.u:=λg hg p hp=>⟨((hk g hg).1.ok p hp).n0,Hu.kH (cn g hg p hp),eQ ((hk g hg).1.ok p hp).r.a (by decide)⟩
 have wb:∀ g∈L,∀ p∈g,Bg (WF a p).1/\Bg (WF a p).2/\0 < (WF a p).2/\(WF a p).1*p.u=a.worth p.u p.v p.w*(WF a p).2:=λg hg p hp'=>by
  obtain ⟨u0,⟨v0,v1,w0,w1⟩,ub⟩:=hp g hg p hp';have b:=jF (n:=p.u) (x:=p.v) (y:=p.w) (by omega) ⟨v0,v1⟩ ⟨w0,w1⟩ a;have e:=zS (w:=a.worth p.u p.v p.w) u0;exact ⟨Nat.lt_of_le_of_lt (Lo.zQ (by omega)) (Nat.lt_of_le_of_lt (by omega) ub),Nat.lt_of_le_of_lt (Lo.zT (by omega)) ub,e.2,e.1⟩
 refine ⟨l,rfl,⟨us,SqL.of el⟩,?_⟩;refine fF (xs:=us) (λi σ H'=>aH H2 H'/\∃(ol op:V) (o4 o5 o6:Option V),σ=[some (.ref x),some vt,some ol,some op,o4,o5,o6]/\Best K H' a (L.take i).flatten ol op) ⟨aH.refl _,_,_,_,_,_,rfl,.inl ⟨rfl,rfl,rfl⟩⟩ (λi σ H' _ z=>SqL.of (z.1 _ _ el)) (λi v σ H' hv z=>?_) (λσ H' z=>?_)
 ·obtain ⟨s3,ol,op,o4,o5,o6,rfl,be⟩:=z;obtain ⟨g,hg,ga,gus,rfl,eg,dg⟩:=(al2.imp (HuV.to s3)).get i v hv;have gm:=List.mem_of_getElem? hg;refine ⟨_,rfl,ga,rfl,⟨gus,SqL.of eg⟩,?_⟩;refine fF (xs:=gus) (λj σ H''=>aH H' H''/\∃(ol op:V) (o5 o6:Option V),σ=[some (.ref x),some vt,some ol,some op,some (.ref ga),o5,o6]/\Best K H'' a ((L.take i).flatten++g.take j) ol op) ⟨aH.refl _,_,_,_,_,rfl,by simpa using be⟩ (λj σ H'' _ z=>SqL.of (z.1 _ _ eg)) (λj v σ H'' hv z=>?_) (λσ H'' z=>?_)
  ·obtain ⟨s4,ol,op,o5,o6,rfl,be⟩:=z;obtain ⟨p,hpj,dpv⟩:=jJ (dg.ts s4.ts) hv;obtain ⟨pa,rfl,sp⟩:=fO dpv;have pm:=List.mem_of_getElem? hpj;obtain ⟨u0,bx,ub⟩:=hp g gm p pm;obtain ⟨w1,w2,w3,w4⟩:=wb g gm p pm;have s04:=(s12.trans s3).trans s4;refine ⟨_,rfl,_,rfl,x,pa,a,p.u,p.v,p.w,rfl,oa.to (Kp.of s04),by omega,⟨sp,by omega,bx.1,bx.2.1,bx.2.2.1,bx.2.2.2⟩,λH5 s5=>?_⟩;refine ⟨_,rfl,_,_,_,_,rfl,rfl,sp.ts s5.ts,rfl,_,_,rfl,by omega,ub,λvf H6 s6 fv=>?_⟩;have s46:=s5.trans s6;have tk:g.take (j+1)=g.take j++[p]:=by rw [List.take_add_one,hpj];rfl
   have inL:∀ c∈(L.take i).flatten++g.take j,∃ g'∈L,c∈g':=λc hc=>by
    rcases List.mem_append.mp hc with h | h
    ·obtain ⟨g',h1,h2⟩:=List.mem_flatten.mp h;exact ⟨g',List.mem_of_mem_take h1,h2⟩
    ·exact ⟨g,gm,List.mem_of_mem_take h⟩
   have ap:(L.take i).flatten++g.take (j+1)=((L.take i).flatten++g.take j)++[p]:=by rw [tk,List.append_assoc]
   rw [ap];rcases be with ⟨ec,rfl,rfl⟩ | ⟨pt,hpt,fpt,dpt,kpt⟩
   ·refine ⟨_,rfl,rfl,_,rfl,cj (cj ?_)⟩;refine ⟨_,rfl,_,rfl,?_⟩;refine ⟨s4.trans s46,vf,.ref pa,_,_,rfl,.inr ⟨p,by simp,fv,dpv.ts s46.ts,λc hc=>?_⟩⟩;rw [ec,List.nil_append] at hc;rw [List.mem_singleton.mp hc];exact Int.le_of_eq w4
   ·obtain ⟨la,rfl,sl⟩:=id fpt;obtain ⟨g',hg',hpt'⟩:=inL pt hpt;obtain ⟨y1,y2,y3,y4⟩:=wb g' hg' pt hpt';refine ⟨_,rfl,rfl,_,rfl,aT ?_⟩;refine ⟨_,rfl,_,rfl,vf,.ref la,WF a p,WF a pt,rfl,fv,fpt.to s46,w1,w2,y1,y2,_,rfl,gG (λcc=>?_) (λcc=>?_)⟩
    ·have cc:(WF a p).1*(WF a pt).2 < (WF a pt).1*(WF a p).2:=of_decide_eq_true cc;refine ⟨_,rfl,_,rfl,?_⟩;refine ⟨s4.trans s46,vf,.ref pa,_,_,rfl,.inr ⟨p,by simp,fv,dpv.ts s46.ts,λc hc=>?_⟩⟩;rcases List.mem_append.mp hc with h | h
     ·obtain ⟨g2,hg2,hc2⟩:=inL c h;exact wz y3 w3 (hp g2 hg2 c hc2).1 (Int.le_of_lt cc) (kpt c h)
     ·rw [List.mem_singleton.mp h];exact Int.le_of_eq w4
    ·have cc:¬ (WF a p).1*(WF a pt).2 < (WF a pt).1*(WF a p).2:=λz=>cc (decide_eq_true z);refine ⟨s4.trans s46,_,_,_,_,rfl,.inr ⟨pt,List.mem_append_left _ hpt,fpt.to s46,dpt.ts s46.ts,λc hc=>?_⟩⟩;rcases List.mem_append.mp hc with h | h
     ·exact kpt c h
     ·rw [List.mem_singleton.mp h];exact wz w3 y3 u0 (by omega) (Int.le_of_eq w4)
  ·obtain ⟨s4,ol,op,o5,o6,rfl,be⟩:=z;have gl:=fS dg;refine ⟨s3.trans s4,ol,op,_,_,_,rfl,?_⟩;rw [gl,List.take_length] at be;rw [List.take_add_one,hg];simpa using be
 ·obtain ⟨s3,ol,op,o4,o5,o6,rfl,be⟩:=z;rw [lu,List.take_length] at be;rcases be with ⟨ec,_,_⟩ | ⟨pt,hpt,fpt,dpt,kpt⟩
  ·exfalso;have ln:=fP eL;cases L with
   | nil=>simp at ln
   | cons g r =>
    have n3:=(hk g List.mem_cons_self).1.n3;rw [List.flatten_cons] at ec;have e0:=(List.append_eq_nil_iff.mp ec).1;rw [e0] at n3;simp at n3
  ·refine ⟨_,rfl,_,rfl,_,rfl,(by show 3<=sizeLine;decide),λp9 hp9=>?_⟩;have u:=az hp9 (.tup [ol,op,vt]);obtain ⟨g,hg,hpg⟩:=List.mem_flatten.mp hpt;exact q p9 ol op vt pt X L _ ((s12.trans s3).trans u) af (fpt.to u) (dpt.ts u.ts) (dt.ts ((s2.trans s3).trans u).ts) sm dp cu eL (λg hg=>kL g hg _ List.mem_cons_self) ⟨g,hg,hpg⟩ (λg hg c hc=>kpt c (List.mem_flatten.mpr ⟨g,hg,hc⟩))
end
theorem BB {K:W.Frag} {te:TE} {js:List Nat} {σ:St} {H:Hp} {Q:VK} {a b:Addr} {xs ys:List V} (zs:List V) (ha:H a=some (.lst xs)) (hb:H b=some (.lst ys)) (l1:ys.length=xs.length) (l2:zs.length=xs.length) (hx:xs.length<=1000)
  (hs:∀(i:Nat) (x y z:V) (H':Hp) (N:VK),xs[i]?=some x->ys[i]?=some y->zs[i]?=some z->aH H H'->(∀ t H'',aH H' H''->H' t=none->H'' t=some (.tup [x,z])->N (.ref t) H'')->te (some x::some y::ck js σ) H' N)
  (hd:∀ D us H',aH H H'->H D=none->H' D=some (.lst us)->us.length=xs.length->(∀(i:Nat) (x z:V),xs[i]?=some x->zs[i]?=some z->∃ t,us[i]?=some (.ref t)/\H' t=some (.tup [x,z]))->Q (.ref D) H') :
  ji 2 (λ_ H R=>R (ItZ K a b) H) (Ew K 2 (qK (ip 0) (qK (ip 1) gNil))) te js σ H Q:=by
 intro D hD;have na:a≠D:=aA ha hD;have nb:b≠D:=aA hb hD;refine ⟨λi m H'=>m=xs.length - i/\i<=xs.length/\aH H H'/\∃ us,us.length=i/\H' D=some (.lst us)/\∀(j:Nat) (x z:V),j < i->xs[j]?=some x->zs[j]?=some z->∃ t,us[j]?=some (.ref t)/\H' t=some (.tup [x,z]),⟨xs.length,rfl,Nat.zero_le _,az hD _,[],rfl,af,λj x z h=>absurd h (Nat.not_lt_zero _)⟩,?_⟩;rintro i m H2 ⟨rfl,hi,s2,us,lu,eD,al⟩
 have ea:=s2 _ _ ha;have eb:=s2 _ _ hb
 by_cases hlt:i < xs.length
 ·have h1:xs[i]?=some xs[i]:=List.getElem?_eq_getElem hlt;have h2:ys[i]?=some (ys[i]'(by omega)):=List.getElem?_eq_getElem (by omega);have h3:zs[i]?=some (zs[i]'(by omega)):=List.getElem?_eq_getElem (by omega);refine .inr ⟨⟨xs,ys,_,_,SqL.of ea,SqL.of eb,h1,h2⟩,λo lo v H3 y=>?_⟩;obtain ⟨T,vs',hT,rfl,rfl,x,y',rfl,q1,q2⟩:=y;have q1:=q1 xs (SqL.of ea);have q2:=q2 ys (SqL.of eb);rw [h1] at q1;rw [h2] at q2;cases q1
  cases q2
  have uT:=az hT (.tup [xs[i],ys[i]'(by omega)])
  obtain ⟨o1,o2,rfl⟩:∃ o1 o2,o=[o1,o2]:=by
   match o,lo with
   | [o1,o2],_=>exact ⟨o1,o2,rfl⟩
  refine ⟨T,_,rfl,SqT.of af,rfl,_,_,rfl,_,_,rfl,rfl,[some xs[i],some (ys[i]'(by omega))],rfl,rfl,?_⟩;refine hs i _ _ _ _ _ h1 h2 h3 (s2.trans uT) λt H4 s4 ht et=>?_;have s24:=uT.trans s4;have eD4:=s24 _ _ eD;have nt:t≠D:=λz=>by subst z;rw [uT _ _ eD] at ht;cases ht
  refine ⟨us,eD4,Nat.lt_of_le_of_lt (show us.length<=1000 by omega) (by decide),xs.length - (i+1),by omega,rfl,hlt,bc (s2.trans s24) hD _,us++[.ref t],by simp [lu],af,λj x z hj hxj hzj=>?_⟩
  by_cases ej:j=i
  ·subst ej;rw [h1] at hxj;rw [h3] at hzj;cases hxj
   cases hzj
   exact ⟨t,by rw [<- lu,List.getElem?_concat_length],by rw [aB nt];exact et⟩
  ·obtain ⟨t',e1,e2⟩:=al j x z (by omega) hxj hzj;have nt':t'≠D:=λz=>by subst z;rw [eD] at e2;cases e2
   exact ⟨t',by rw [List.getElem?_append_left (by omega)];exact e1,by rw [aB nt'];exact s24 _ _ e2⟩
 ·have ei:i=xs.length:=by omega
  subst ei;refine .inl ⟨⟨xs,ys,SqL.of ea,SqL.of eb,.inl (Nat.le_refl _)⟩,hd D us H2 s2 hD eD lu λi x z hxi hzi=>al i x z (List.getElem?_eq_some_iff.mp hxi).1 hxi hzi⟩
theorem wN {K:W.Frag} {te:TE} {js:List Nat} {σ:St} {H:Hp} {Q:VK} {a:Addr} {vs:List V} (ps:List (V×V)) (bs:List Bool) (ha:H a=some (.lst vs)) (l1:vs.length=ps.length) (l2:bs.length=ps.length) (hx:ps.length<=1000)
  (hv:∀(i:Nat) (p:V×V),ps[i]?=some p->∃ t,vs[i]?=some (.ref t)/\H t=some (.tup [p.1,p.2]))
  (hs:∀(i:Nat) (p:V×V) (b:Bool) (H':Hp) (N:VK),ps[i]?=some p->bs[i]?=some b->aH H H'->(∀ H'',aH H' H''->N (.bl b) H'')->te (some p.1::some p.2::ck js σ) H' N)
  (hd:∀ D H',aH H H'->H D=none->H' D=some (.lst (bs.map V.bl))->Q (.ref D) H') :
  ji 2 (λ_ H R=>R (Itl K a) H) (Ew K 2 (qK (ip 0) (qK (ip 1) gNil))) te js σ H Q:=by
 intro D hD;have na:a≠D:=aA ha hD;refine ⟨λi m H'=>m=ps.length - i/\i<=ps.length/\aH H H'/\H' D=some (.lst ((bs.take i).map V.bl)),⟨ps.length,rfl,Nat.zero_le _,az hD _,af⟩,?_⟩;rintro i m H2 ⟨rfl,hi,s2,eD⟩
 have ea:=s2 _ _ ha
 by_cases hlt:i < ps.length
 ·have h1:ps[i]?=some ps[i]:=List.getElem?_eq_getElem hlt;have h2:bs[i]?=some (bs[i]'(by omega)):=List.getElem?_eq_getElem (by omega);obtain ⟨t,e1,e2⟩:=hv i _ h1;refine .inr ⟨⟨vs,_,SqL.of ea,e1⟩,λo lo v H3 y=>?_⟩;obtain ⟨rfl,y⟩:=y;have ev:=y vs (SqL.of ea);rw [e1] at ev;cases ev
  obtain ⟨o1,o2,rfl⟩:∃ o1 o2,o=[o1,o2]:=by
   match o,lo with
   | [o1,o2],_=>exact ⟨o1,o2,rfl⟩
  refine ⟨t,_,rfl,SqT.of (s2 _ _ e2),rfl,_,_,rfl,_,_,rfl,rfl,[some ps[i].1,some ps[i].2],rfl,rfl,?_⟩;refine hs i _ _ _ _ h1 h2 s2 λH4 s4=>?_;refine ⟨_,s4 _ _ eD,Nat.lt_of_le_of_lt (show _<=1000 by rw [List.length_map,List.length_take];omega) (by decide),ps.length - (i+1),by omega,rfl,hlt,bc (s2.trans s4) hD _,?_⟩;rw [af,List.take_add_one,h2,List.map_append];rfl
 ·have ei:i=ps.length:=by omega
  subst ei;rw [<- l2,List.take_length] at eD;exact .inl ⟨⟨vs,SqL.of ea,by omega⟩,hd D H2 s2 hD eD⟩
theorem jv {n:Nat} {wi:TI} {g:TG} {te:TE} {js:List Nat} {σ:St} {H:Hp} {Q:VK} (h:wi σ H λJ H1=>ji n (λ_ H R=>R J H) g te js σ H1 Q):ji n wi g te js σ H Q:=h
theorem BC {K:W.Frag} {te:TE} {js:List Nat} {σ:St} {H:Hp} {Q:VK} {a b:Addr} {xs ys:List V} (zs:List PyData) (ha:H a=some (.lst xs)) (hb:H b=some (.lst ys)) (l1:ys.length=xs.length) (l2:zs.length=xs.length) (hx:xs.length<=1000)
  (hs:∀(i:Nat) (x y:V) (z:PyData) (H':Hp) (N:VK),xs[i]?=some x->ys[i]?=some y->zs[i]?=some z->aH H H'->(∀ t H'',aH H' H''->Dat K H'' z t->N t H'')->te (some x::some y::ck js σ) H' N)
  (hd:∀ D us H',aH H H'->H D=none->H' D=some (.lst us)->DatAll K H' zs us->Q (.ref D) H') :
  ji 2 (λ_ H R=>R (ItZ K a b) H) (Ew K 2 (qK (ip 0) (qK (ip 1) gNil))) te js σ H Q:=by
 intro D hD;have na:a≠D:=aA ha hD;have nb:b≠D:=aA hb hD;refine ⟨λi m H'=>m=xs.length - i/\i<=xs.length/\aH H H'/\∃ us,us.length=i/\H' D=some (.lst us)/\DatAll K H' (zs.take i) us,⟨xs.length,rfl,Nat.zero_le _,az hD _,[],rfl,af,rfl⟩,?_⟩;rintro i m H2 ⟨rfl,hi,s2,us,lu,eD,al⟩
 have ea:=s2 _ _ ha;have eb:=s2 _ _ hb
 by_cases hlt:i < xs.length
 ·have h1:xs[i]?=some xs[i]:=List.getElem?_eq_getElem hlt;have h2:ys[i]?=some (ys[i]'(by omega)):=List.getElem?_eq_getElem (by omega);have h3:zs[i]?=some (zs[i]'(by omega)):=List.getElem?_eq_getElem (by omega);refine .inr ⟨⟨xs,ys,_,_,SqL.of ea,SqL.of eb,h1,h2⟩,λo lo v H3 y=>?_⟩;obtain ⟨T,vs',hT,rfl,rfl,x,y',rfl,q1,q2⟩:=y;have q1:=q1 xs (SqL.of ea);have q2:=q2 ys (SqL.of eb);rw [h1] at q1;rw [h2] at q2;cases q1
  cases q2
  have uT:=az hT (.tup [xs[i],ys[i]'(by omega)])
  obtain ⟨o1,o2,rfl⟩:∃ o1 o2,o=[o1,o2]:=by
   match o,lo with
   | [o1,o2],_=>exact ⟨o1,o2,rfl⟩
  refine ⟨T,_,rfl,SqT.of af,rfl,_,_,rfl,_,_,rfl,rfl,[some xs[i],some (ys[i]'(by omega))],rfl,rfl,?_⟩;refine hs i _ _ _ _ _ h1 h2 h3 (s2.trans uT) λt H4 s4 et=>?_;have s24:=uT.trans s4;have eD4:=s24 _ _ eD;have t5:Tst H4 (upd H4 D (.lst (us++[t]))):=dM eD4;refine ⟨us,eD4,Nat.lt_of_le_of_lt (show us.length<=1000 by omega) (by decide),xs.length - (i+1),by omega,rfl,hlt,bc (s2.trans s24) hD _,us++[t],by simp [lu],af,?_⟩;rw [List.take_add_one,h3];exact ((al.ts s24.ts).ts t5).snoc (et.ts t5)
 ·have ei:i=xs.length:=by omega
  subst ei;rw [<- l2,List.take_length] at al;exact .inl ⟨⟨xs,ys,SqL.of ea,SqL.of eb,.inl (Nat.le_refl _)⟩,hd D us H2 s2 hD eD al⟩
section
variable {P:Program} {w:World} {K:W.Frag} {mg:Str->Option Value} {base:Heap}
theorem ok_bnds (T:aF K mg "bounds_of" gF) (ir:mg "zip"=none) (uK:Def P w K mg base 1 "side_bound" ["one","other"] (spSb K)):Def P w K mg base 2 "bounds_of" ["hull","rule"] (CH K):=by
 refine aW T lZ (λ_ _ _ _ _ _=>L2.ar2 λ_ _=>rfl) ?_ ?_
 ·walk_at "i1";obtain ⟨l,x,us,h,r,rfl,_⟩:=h;rfl
 walk_at "i2";obtain ⟨l,x,us,h,r,rfl,el,da,dx,rb,h0,h1,q⟩:=h;have nd:=lZ.nd
 refine ⟨_,(ae (vN (i:=2) (xs:=["one","other"]) nd rfl (Or.inl rfl) (Or.inl rfl) rfl rfl (Dr rfl ir (pv 0) (aP op_cat (qo tD (pv 0) (tQ ao) tR) (qo tD (pv 0) tR (tQ ao)))) rfl (by decide+kernel) (by decide+kernel) (show ∀ p∈Scope.names _,p.2=NameKind.free->List.lookup p.1 (ak gF).names=some .cell\/List.lookup p.1 (ak gF).names=some .free by decide+kernel) dC (show (["one","other"]:List Str).Nodup by decide+kernel) (λ_ _ _ _=>jr (K:=K) (n:=2) rfl rfl (bE (aV (i:=0) (show (["one","other"]:List Str).Nodup by decide+kernel) rfl (Or.inl rfl) (.inr rfl)) (bE (aV (i:=1) (show (["one","other"]:List Str).Nodup by decide+kernel) rfl (Or.inl rfl) (.inr rfl)) fD))) (λ_ _ _ _=>(aI uK (hr.mono (by decide)) rfl (aa (pv 0) (aa (pv 1) ah)))))
  (ae (aZ (dP PySem.F.plainAttrs_list PySem.F.slot_list_append PySem.F.type_list_append bA (pv 2) (so (bB (aa (oz jI (aK aL (pv 1) ao (λ_ _=>rfl))) (aa (oz jI (aK aL (pv 1) ao (λ_ _=>rfl))) (aa (aP gP ao (aK aL (pv 1) ao (λ_ _=>rfl))) (eM ah))))) ah)))
  (aq (aD (pv 2))))),?_⟩
 have hl:=fS da
 obtain ⟨u0,ur,rfl⟩:∃ u0 ur,us=u0::ur:=by
  cases us with
  | nil=>simp at hl;omega
  | cons a b=>exact ⟨a,b,rfl⟩
 have s0:ur.length+1=h.length:=by rw [<- hl,List.length_cons]
 dsimp only [Ax,rM];refine jv ?_;refine ⟨_,rfl,_,rfl,_,rfl,l,_,rfl,SqL.of el,λp1 hp1=>⟨_,rfl,_,rfl,l,_,rfl,SqL.of ((az hp1 _) _ _ el),λp2 hp2=>?_⟩⟩;have u1:=az hp1 (.lst (mD (u0::ur) (some 1) none));have u2:=az hp2 (.lst (mD (u0::ur) none (some 1)));refine ⟨p1,p2,_,_,rfl,rfl,u2 _ _ af,af,?_,λp3 hp3=>?_⟩
 ·rw [cut1L,cut01];exact Nat.le_trans (show _<=100 by simp;omega) (by decide)
 have u3:=az hp3 (.lst (mD (u0::ur) (some 1) none++mD (u0::ur) none (some 1)));have s3:=(u1.trans u2).trans u3;refine ⟨l,p3,rfl,rfl,⟨_,SqL.of (s3 _ _ el)⟩,⟨_,SqL.of af⟩,?_⟩;refine BC (K:=K) (xs:=u0::ur) (ys:=ur++[u0]) (((List.range h.length).map (λi=>sb (Hu.cor h i) (Hu.cor h (i+1)))).map b4D) (s3 _ _ el) (by rw [af,cut1L,cut01]) (by simp) (by simp;omega) (by simp;omega) (λi x y z H' N hx hy hz s4 hN=>?_) (λD ws H' s4 hD eD dD=>?_)
 ·have s04:=s3.trans s4;have hi:i < h.length:=by have:=(List.getElem?_eq_some_iff.mp hx).1;rw [List.length_cons] at this;omega
  have hz:z=b4D (sb (Hu.cor h i) (Hu.cor h (i+1))):=by
   rw [List.getElem?_map,List.getElem?_map,List.getElem?_range hi] at hz;exact (Option.some.inj hz).symm
  obtain ⟨p,hp,dp⟩:=jJ (da.ts s04.ts) hx;rw [Hu.mE hi] at hp
  have hy':(u0::ur)[(i+1) % h.length]?=some y:=by
   rcases Nat.lt_or_ge (i+1) h.length with c | c
   ·rw [Nat.mod_eq_of_lt c,List.getElem?_cons_succ,<- hy,List.getElem?_append_left (by omega)]
   ·have e:i+1=h.length:=by omega
    rw [e,Nat.mod_self,<- hy,List.getElem?_append_right (by omega),show i - ur.length=0 by omega];rfl
  obtain ⟨p',hp',dp'⟩:=jJ (da.ts s04.ts) hy';rw [Hu.mE (Nat.mod_lt _ h0),Hu.uA] at hp';cases hp
  cases hp'
  subst hz;exact ⟨_,rfl,_,rfl,x,y,_,_,rfl,dp,dp',rb _ (Hu.dY h0 _),rb _ (Hu.dY h0 _),λt H'' s5 d5=>hN _ _ s5 d5⟩
 ·have s04:=s3.trans s4;obtain ⟨ax,rfl,sx⟩:=fO dx;have sx:=sx.ts s04.ts;have lw:=dD.len;refine ⟨_,rfl,.inl ⟨rfl,_,SqL.of eD⟩,?_⟩;refine ⟨_,rfl,_,_,_,_,rfl,rfl,sx,rfl,_,rfl,?_⟩;refine ⟨_,rfl,_,_,_,_,rfl,rfl,sx,rfl,_,rfl,?_⟩;refine ⟨_,rfl,_,_,_,_,rfl,rfl,sx,rfl,_,_,rfl,rfl,?_⟩;refine ⟨(by show 4<=sizeLine;decide),λt ht=>?_⟩;have ut:=az ht (.tup [.int (-r.u),.int (-r.v),.int (1 - r.w),.int 1]);have eD1:=ut _ _ eD;refine ⟨D,ws,.ref t,rfl,rfl,eD1,Nat.lt_of_le_of_lt (show ws.length<=100 by simp at lw;omega) (by decide),_,rfl,?_⟩;have t5:Tst (upd H' t (.tup [.int (-r.u),.int (-r.v),.int (1 - r.w),.int 1])) (upd (upd H' t (.tup [.int (-r.u),.int (-r.v),.int (1 - r.w),.int 1])) D (.lst (ws++[.ref t]))):=dM eD1;refine q D _ _ (bc (s04.trans ut) (s3.free hD) _) (s3.free hD) af ?_;unfold yA;rw [List.map_append];exact ((dD.ts ut.ts).ts t5).snoc ((b4_mk (q:=rb4 r) (SqT.of af)).ts t5)
end
theorem rup_bd {t b:Int} (t0:0<=t) (b0:0 < b):0<=rup t b/\rup t b<=t:=by
 refine ⟨?_,(tI b0).mpr ?_⟩
 ·rcases Int.lt_or_le (rup t b) 0 with c | c
  ·have:=(tI (t:=t) (y:=-1) b0).mp (by omega);omega
  ·exact c
 ·have:=Int.mul_le_mul_of_nonneg_right (show 1<=b by omega) t0;omega
theorem fd_bd {t b:Int} (t0:0<=t) (b0:0 < b):0<=t.fdiv b/\t.fdiv b<=t:=by
 rw [Int.fdiv_eq_ediv_of_nonneg _ (Int.le_of_lt b0)];exact ⟨Int.ediv_nonneg t0 (Int.le_of_lt b0),Int.ediv_le_self _ t0⟩
theorem uF {K:W.Frag} {H:Hp}:∀{h:List T3} {us:List V},DatAll K H (h.map t3D) us->cg (λv p=>Dat K H (t3D p) v) us h
 | [],_,g=>by cases (show _=([]:List V) from g);exact .nil
 | p::h,us,g=>by
  obtain ⟨v,r,rfl,d,g2⟩:=g;exact .cons d (uF g2)
def Nar (c:T3):Prop:=0 < c.u/\c.u < 2 ^ 24/\0<=c.v/\c.v<=c.u
def spSw (K:W.Frag):Sp:=λvs H Q _=>∃(l lb:Addr) (us ws:List V) (h:List T3) (bs:List B4) (n:Int),vs=[.ref l,.ref lb,.int n]/\H l=some (.lst us)/\DatAll K H (h.map t3D) us/\(∀ c∈h,Nar c)/\0 < h.length/\h.length<=100/\H lb=some (.lst ws)/\DatAll K H (bs.map b4D) ws/\(∀ q∈bs,q.R)/\0<=n/\n < 2 ^ 32/\
 (∀ x y,0<=y->y<=n->Kept bs n x y->∀(t:Addr) (H':Hp),aH H H'->Dat K H' (t3D ⟨n,x,y⟩) (.ref t)->Q (.ref t) H')/\
 ((∀ x y,(∃ c∈h,rup (c.v*n) c.u<=x)->(∃ c∈h,x<=(c.v*n).fdiv c.u)->0<=y->y<=n->¬Kept bs n x y)->∀ H',aH H H'->Q .non H')
section
variable {P:Program} {w:World} {K:W.Frag} {mg:Str->Option Value} {base:Heap}
theorem ok_sw (T:aF K mg "step_within" cH) (cT:mg "min"=none) (dR:mg "max"=none) (eW:mg "range"=none) (lM:Def P w K mg base 1 "round_up" ["top","bottom"] Cv) (yQ:Def P w K mg base 2 "y_within" ["bounds","n","x"] (spYw K)):Def P w K mg base 3 "step_within" ["hull","bounds","n"] (spSw K):=by
 refine aW T jM (λ_ _ _ _ _ _=>L2.ar3 λ_ _ _=>rfl) ?_ ?_
 ·walk_at "i1";obtain ⟨l,lb,us,ws,h,bs,n,rfl,_⟩:=h;rfl
 walk_at "i2";obtain ⟨l,lb,us,ws,h,bs,n,rfl,el,da,nar,h0,h1,eb,db,rb,n0,n1,q1,q2⟩:=h;have nd:=jM.nd;have hl:=fS da;have al:=uF da
 have bdB:∀ c∈h,0<=c.v*n/\c.v*n < 2 ^ 56/\Bg c.v/\Bg c.u:=λc hc=>by
  obtain ⟨k1,k2,k3,k4⟩:=nar c hc;refine ⟨Int.mul_nonneg k3 n0,?_,eQ (n:=24) (by omega) (by decide),eQ (n:=24) (by omega) (by decide)⟩;have e1:=Int.mul_le_mul_of_nonneg_left (show n<=2 ^ 32 by omega) k3;have e2:=Int.mul_le_mul_of_nonneg_right (show c.v<=2 ^ 24 - 1 by omega) (show (0:Int)<=2 ^ 32 by decide);omega
 have bnB:Bg n:=eQ (n:=32) (by omega) (by decide)
 refine ⟨_,(ae (aG (i:=3) nd rfl (Or.inl rfl) (aN (nR rfl) rfl cT (by decide+kernel) (aa (fE rfl (bR (pv 0)) rfl (by decide+kernel) (by decide+kernel) rfl (show ∀ p∈Scope.names _,p.2=NameKind.free->List.lookup p.1 (ak cH).names=some .cell\/List.lookup p.1 (ak cH).names=some .free by decide+kernel) (dX (j:=2) rfl (Or.inl rfl) (by decide+kernel) (Or.inl rfl) dC) (show (["corner","n"]:List Str).Nodup by decide+kernel) (λ_ _ _ _=>gv) (λ_ _ _ _=>(aI lM (hr.mono (by decide)) rfl (aa (aP bH (aK (gY (K:=K) rfl) (pv 0) ao (λ_ _=>rfl)) (pv 1)) (aa (aK (gY (K:=K) rfl) (pv 0) ao (λ_ _=>rfl)) ah))))) ah)))
  (ae (aG (i:=4) nd rfl (Or.inl rfl) (aN (nS rfl) rfl dR (by decide+kernel) (aa (fE rfl (bR (pv 0)) rfl (by decide+kernel) (by decide+kernel) rfl (show ∀ p∈Scope.names _,p.2=NameKind.free->List.lookup p.1 (ak cH).names=some .cell\/List.lookup p.1 (ak cH).names=some .free by decide+kernel) (dX (j:=2) rfl (Or.inl rfl) (by decide+kernel) (Or.inl rfl) dC) (show (["corner","n"]:List Str).Nodup by decide+kernel) (λ_ _ _ _=>gv) (λ_ _ _ _=>(aP iZ (aP bH (aK (gY (K:=K) rfl) (pv 0) ao (λ_ _=>rfl)) (pv 1)) (aK (gY (K:=K) rfl) (pv 0) ao (λ_ _=>rfl))))) ah)))
  (ae (eE PassesOwn.never rfl (AK rfl eW (aa (pv 3) (aa (aP dB (pv 4) ao) ah))) (aV (i:=5) nd rfl (Or.inl rfl)) (ae (aG (i:=6) nd rfl (Or.inl rfl) (aI yQ (hr.mono (by decide)) rfl (aa (pv 1) (aa (pv 2) (aa (pv 5) ah)))))
  (aq (aJ (au zL (pv 6) cI (aC _)) (aq (aD (bB (aa (pv 2) (aa (pv 5) (aa (pv 6) ah)))))) av))))
  (aq (aD cI))))),?_⟩
 dsimp only [Ax,tAsg,tCB,dN,jE];refine comp_map (K:=K) (xs:=us) (ts:=h) (R:=λH v c=>Dat K H (t3D c) v) (λc=>V.int (rup (c.v*n) c.u)) (λH H' v t s z=>z.ts s.ts) (λl' H'=>l'=l/\H'=H) (λR k=>⟨_,rfl,l,rfl,⟨_,SqL.of el⟩,k l H ⟨rfl,rfl⟩⟩) (λl' H' z=>by obtain ⟨rfl,rfl⟩:=z;exact ⟨el,aH.refl _⟩) (by omega) al (λv c H3 N hc rv hN=>?_) (λD1 H1 s1 hD1 e1=>?_)
 ·obtain ⟨ca,rfl,sc⟩:=fO rv;obtain ⟨k1,k2,k3,k4⟩:=bdB c hc;have nc:=(nar c hc).1;refine ⟨_,rfl,_,_,_,_,rfl,rfl,sc,bS (j:=1) rfl,_,rfl,_,_,rfl,rfl,fV k3 bnB,?_⟩;exact ⟨_,rfl,_,_,_,_,rfl,rfl,sc,bS (j:=0) rfl,_,_,rfl,by omega,k4,hN _ (aH.refl _)⟩
 refine ⟨D1,h.map λc=>rup (c.v*n) c.u,rfl,SqL.of (by rw [e1,List.map_map];rfl),by simpa using h0,λlo hlo klo=>?_⟩;dsimp only [ip,Ax,tAsg,tCB,dN,jE];have el1:=s1 _ _ el;refine comp_map (K:=K) (xs:=us) (ts:=h) (R:=λH v c=>Dat K H (t3D c) v) (λc=>V.int ((c.v*n).fdiv c.u)) (λH H' v t s z=>z.ts s.ts) (λl' H'=>l'=l/\H'=H1) (λR k=>⟨_,rfl,l,rfl,⟨_,SqL.of el1⟩,k l H1 ⟨rfl,rfl⟩⟩) (λl' H' z=>by obtain ⟨rfl,rfl⟩:=z;exact ⟨el1,aH.refl _⟩) (by omega) (al.imp λv c z=>z.ts s1.ts) (λv c H3 N hc rv hN=>?_) (λD2 H2 s2 hD2 e2=>?_)
 ·obtain ⟨ca,rfl,sc⟩:=fO rv;obtain ⟨k1,k2,k3,k4⟩:=bdB c hc;have nc:=(nar c hc).1;refine ⟨_,rfl,_,_,_,_,rfl,rfl,sc,bS (j:=1) rfl,_,rfl,_,_,rfl,rfl,fV k3 bnB,?_⟩;exact ⟨_,rfl,_,_,_,_,rfl,rfl,sc,bS (j:=0) rfl,_,_,rfl,rfl,wI (by omega) k4,hN _ (aH.refl _)⟩
 refine ⟨D2,h.map λc=>(c.v*n).fdiv c.u,rfl,SqL.of (by rw [e2,List.map_map];rfl),by simpa using h0,λhi hhi khi=>?_⟩;have s12:=s1.trans s2;obtain ⟨cl,mcl,rfl⟩:=List.mem_map.mp hlo;obtain ⟨ch,mch,rfl⟩:=List.mem_map.mp hhi;have bl:=rup_bd (bdB cl mcl).1 (nar cl mcl).1;have bl2:=(bdB cl mcl).2.1;have bh:=fd_bd (bdB ch mch).1 (nar ch mch).1;have bh2:=(bdB ch mch).2.1;generalize elo:rup (cl.v*n) cl.u=lo at *;generalize ehi:(ch.v*n).fdiv ch.u=hi at *;refine ⟨_,rfl,_,rfl,_,_,rfl,rfl,?_⟩;refine ⟨_,_,rfl,⟨by omega,by omega,by omega,by omega⟩,?_⟩;refine kG (λi σ H'=>H'=H2/\∃(o5 o6:Option V),σ=[some (.ref l),some (.ref lb),some (.int n),some (.int lo),some (.int hi),o5,o6]/\∀ x y,lo<=x->x < lo+i->0<=y->y<=n->¬Kept bs n x y) ⟨rfl,_,_,rfl,λx y a b=>by omega⟩ (λi σ H' hi z=>?_) (λσ H' z=>?_)
 ·obtain ⟨rfl,o5,o6,rfl,iv⟩:=z;refine ⟨_,rfl,_,rfl,_,rfl,lb,ws,bs,n,lo+i,rfl,s12 _ _ eb,db.ts s12.ts,rb,n0,Nat.lt_of_lt_of_le (show n.natAbs < 2 ^ 32 by omega) (by decide),Nat.lt_of_lt_of_le (show (lo+i).natAbs < 2 ^ 60 by omega) (by decide),λy y0 y1 k=>?_,λno=>?_⟩
  ·refine ⟨_,rfl,rfl,_,rfl,cj ?_⟩;refine ⟨_,rfl,_,rfl,_,rfl,(by show 3<=sizeLine;decide),λt ht=>?_⟩;exact q1 _ _ y0 y1 k t _ (s12.trans (az ht _)) (gE (p:=⟨n,lo+i,y⟩) (SqT.of af))
  ·refine ⟨_,rfl,rfl,_,rfl,aT ?_⟩;refine ⟨rfl,_,_,rfl,λx y x0 x1 y0 y1=>?_⟩;rcases Int.lt_or_le x (lo+i) with c | c
   ·exact iv x y x0 c y0 y1
   ·rw [show x=lo+i by omega];exact no y y0 y1
 ·obtain ⟨rfl,o5,o6,rfl,iv⟩:=z;refine q2 (λx y a b y0 y1=>?_) _ s12;obtain ⟨c1,m1,l1⟩:=a;obtain ⟨c2,m2,l2⟩:=b;have:=klo _ (List.mem_map.mpr ⟨c1,m1,rfl⟩);have:=khi _ (List.mem_map.mpr ⟨c2,m2,rfl⟩);exact iv x y (by omega) (by omega) y0 y1
end
end Mine
namespace L2
open PySem PySem.Spec PyProof.Rows
section
variable {X:Cx}
def DV:V->Bool
 | .flt _=>false
 | .byt _=>false
 | _=>true
def rSam (K:W.Frag) (neg:Bool):R2:=λx y H Q=>∃ a b xs ys,x=.ref a/\y=.ref b/\SqL K H a xs/\SqL K H b ys/\((xs=ys/\(∀ v∈xs,DV v=true)/\Q (.bl (!neg)) H)\/(xs.length≠ys.length/\Q (.bl neg) H))
theorem EI {A:Around} {s:Shared} {v:V} {u u':Value} (h:DV v=true) (r:RelV v u) (r':RelV v u'):PySem.SeqAt.EqAt A s u u' true:=by
 cases v with
 | non=>cases (show u=Value.none from r);cases (show u'=Value.none from r');exact PySem.SeqAt.EqAt.same _
 | bl b=>cases (show u=Value.bool b from r);cases (show u'=Value.bool b from r');exact PySem.SeqAt.EqAt.same _
 | int i =>
  obtain ⟨t,rfl⟩:=(show ∃ t,u=Value.int i t from r);obtain ⟨t',rfl⟩:=(show ∃ t,u'=Value.int i t from r');have:=PySem.SeqAt.EqAt.int_int (A:=A) (s:=s) i t i t'
  rwa [beq_self_eq_true] at this
 | str x =>
  obtain ⟨t,rfl⟩:=(show ∃ t,u=Value.str x t from r);obtain ⟨t',rfl⟩:=(show ∃ t,u'=Value.str x t from r');have:=PySem.SeqAt.EqAt.str_str (A:=A) (s:=s) x t x t'
  rwa [beq_self_eq_true] at this
 | byt b=>cases h
 | flt b=>cases h
 | ref a=>cases (show u=Value.ref a from r);cases (show u'=Value.ref a from r');exact PySem.SeqAt.EqAt.same _
 | ty n=>cases (show u=Value.type n from r);cases (show u'=Value.type n from r');exact PySem.SeqAt.EqAt.same _
theorem AG {A:Around} {s:Shared} {xs:List V} {us ws:List Value} (h:∀ v∈xs,DV v=true) (r:Vals xs us) (r':Vals xs ws):∀ j (h1:j < us.toArray.size) (h2:j < ws.toArray.size),PySem.SeqAt.EqAt A s us.toArray[j] ws.toArray[j] true:=by
 intro j h1 h2;have l1:=r.length;have h1':j < us.length:=by simpa using h1
 have hj:j < xs.length:=by omega
 obtain ⟨u,e1,e2⟩:=r.get (List.getElem?_eq_getElem hj);obtain ⟨u',e3,e4⟩:=r'.get (List.getElem?_eq_getElem hj)
 have e5:us.toArray[j]=u:=by
  obtain ⟨_,z⟩:=List.getElem?_eq_some_iff.mp e1;simpa using z
 have e6:ws.toArray[j]=u':=by
  obtain ⟨_,z⟩:=List.getElem?_eq_some_iff.mp e3;simpa using z
 rw [e5,e6];exact EI (h _ (List.getElem_mem hj)) e2 e4
theorem all_true (n:Nat):(List.range n).all (λ_=>true)=true:=by
 rw [List.all_eq_true];exact λ_ _=>rfl
theorem DA (hu:X.A.units+64 < cLine):OpR X (compareOp .Eq) (rSam X.K false):=by
 intro pins s σ H x y v u Q I rx ry h;obtain ⟨a,b,xs,ys,rfl,rfl,ha,hb,q⟩:=h;cases (show v=Value.ref a from rx)
 cases (show u=Value.ref b from ry)
 obtain ⟨us,ru,⟨o,n,ho,hc,_,hd⟩,_⟩:=I.list ha;obtain ⟨ws,rw_,⟨o',n',ho',hc',_,hd'⟩,_⟩:=I.list hb;have l1:s.heap.IsList a us.toArray:=⟨o,ho,hc,n,hd⟩;have l2:s.heap.IsList b ws.toArray:=⟨o',ho',hc',n',hd'⟩;have n1:=ru.length;have n2:=rw_.length;rcases q with ⟨rfl,hv,q⟩ | ⟨ne,q⟩
 ·have z:=PySem.SeqAt.RcAt.lists (A:=X.A) (s:=s) (e:=λ_=>true) l1 l2 (by simp;omega) (by omega) (AG hv ru rw_);rw [all_true] at z;exact z _ _ _ _ ⟨.bl true,H,I,rfl,q⟩
 ·have z:=PySem.SeqAt.RcAt.lists_lengths (A:=X.A) (s:=s) l1 l2 (by simp;omega) (by omega);exact z _ _ _ _ ⟨.bl false,H,I,rfl,q⟩
end
end L2
namespace Mine
open PySem L2
def LeafV (K:W.Frag) (H:Hp) (v:V) (p:List T3×List T3):Prop:=∃(t a b:Addr) (us ws:List V),v=.ref t/\H t=some (.tup [.ref a,.ref b])/\H a=some (.lst us)/\DatAll K H (p.1.map t3D) us/\H b=some (.lst ws)/\DatAll K H (p.2.map t3D) ws
def cX (rows:List Hu.Row):List (List T3)->Option (List (List T3))
 | []=>some []
 | g::r=>match Hu.run g rows [],cX rows r with
  | .rules rs,some o=>some (rs::o)
  | _,_=>none
def cF (rows:List Hu.Row) (t:Hu.Tc):Option (List (List T3×List T3)):=match t.told Hu.sqH with
 | none=>none
 | some L=>(cX rows L).map λo=>L.zip o
def mY (K:W.Frag):Sp:=λvs H Q _=>∃(l:Addr) (us:List V) (rows:List Hu.Row) (x:V) (t:Hu.Tc),vs=[.ref l,x]/\H l=some (.lst us)/\DatAll K H (rows.map nB) us/\lI rows/\0 < rows.length/\rows.length<=100/\Dat K H (tcD t) x/\t.Sm 64/\t.deep<=12/\t.gZ<=600/\
 (cF rows t=none->∀ H',aH H H'->Q .non H')/\
 ∀ o,cF rows t=some o->∀(d:Addr) (ws:List V) (H':Hp),aH H H'->H' d=some (.lst ws)->cg (LeafV K H') ws o->Q (.ref d) H'
def jc:Hu.Out->Bool
 | .mixed _ _=>true
 | _=>false
def iD:Hu.Out->List T3
 | .rules rs=>rs
 | _=>[]
theorem bZ (rows:List Hu.Row):∀ L:List (List T3),((L.map λg=>jc (Hu.run g rows [])).any id=true->cX rows L=none)/\((L.map λg=>jc (Hu.run g rows [])).any id=false->cX rows L=some (L.map λg=>iD (Hu.run g rows [])))
 | []=>⟨λz=>by simp at z,λ_=>rfl⟩
 | g::r=>by
  obtain ⟨i1,i2⟩:=bZ rows r;rw [List.map_cons,List.any_cons];cases e:Hu.run g rows [] with
  | mixed k t=>exact ⟨λ_=>by unfold cX;rw [e],λz=>by simp [jc] at z⟩
  | rules rs =>
   refine ⟨λz=>?_,λz=>?_⟩
   ·have z':((r.map λg=>jc (Hu.run g rows [])).any id)=true:=by simpa [jc] using z
    unfold cX;rw [e,i1 z']
   ·have z':((r.map λg=>jc (Hu.run g rows [])).any id)=false:=by simpa [jc] using z
    unfold cX;rw [e,i2 z',List.map_cons,e];rfl
def rJ (K:W.Frag) (rows:List Hu.Row) (H:Hp) (v:V) (g:List T3):Prop:=∃ a,v=.ref a/\match Hu.run g rows [] with
 | .rules rs=>∃(lr:Addr) (ws:List V),SqT K H a [.str "rules",.ref lr]/\H lr=some (.lst ws)/\DatAll K H (rs.map t3D) ws
 | .mixed k t=>∃ x,SqT K H a [.str "mixed",.int k,x]
theorem rJ.to {K:W.Frag} {rows:List Hu.Row} {H H':Hp} (s:aH H H') (v:V) (g:List T3) (h:rJ K rows H v g):rJ K rows H' v g:=by
 obtain ⟨a,rfl,h⟩:=h;refine ⟨a,rfl,?_⟩;cases e:Hu.run g rows [] with
 | rules rs =>
  rw [e] at h;obtain ⟨lr,ws,h1,h2,h3⟩:=h;exact ⟨lr,ws,h1.ts s.ts,s _ _ h2,h3.ts s.ts⟩
 | mixed k t =>
  rw [e] at h;obtain ⟨x,h1⟩:=h;exact ⟨x,h1.ts s.ts⟩
theorem yx {α:Type} {K:W.Frag} {wi:TI} {te:TE} {js:List Nat} {σ:St} {H:Hp} {Q:VK} {xs:List V} {ts:List α} {R0:Hp->V->α->Prop} {R:Addr->Hp->V->α->Prop} (hR0:∀ H H' v t,aH H H'->R0 H v t->R0 H' v t) (hR1:∀ D H H' v t,aH H H'->R D H v t->R D H' v t) (hR:∀ D H ws zs v t,H D=some (.lst ws)->R D H v t->R D (upd H D (.lst zs)) v t) (Src:Addr->Hp->Prop)
  (hwi:∀ R:It->Hp->Prop,(∀ l H,Src l H->R (Itl K l) H)->wi σ H R) (hsrc:∀ l H',Src l H'->H' l=some (.lst xs)/\aH H H') (hx:xs.length<=1000) (o:cg (R0 H) xs ts)
  (hs:∀ D v t H' (N:VK),t∈ts->aH H H'->(∃ ys,H' D=some (.lst ys))->R0 H' v t->(∀ v' H'',aH H' H''->R D H'' v' t->N v' H'')->te (some v::ck js σ) H' N)
  (hd:∀ D ys H',aH H H'->H D=none->H' D=some (.lst ys)->cg (R D H') ys ts->Q (.ref D) H'):jy wi og te js σ H Q:=by
 refine nO Src hwi (λl H src=>(hsrc l H src).1) hx (λl D i ys H'=>H D=none/\aH H H'/\cg (R D H') ys (ts.take i)) (λl H' D src hD=>⟨(hsrc l H' src).2.free hD,(hsrc l H' src).2.trans (az hD _),.nil⟩) (λl D i v ys H' hv nl el eD h N hN=>?_) (λl D ys H' el eD h=>?_)
 ·obtain ⟨hD,sm,al⟩:=h;obtain ⟨t,ht,hr⟩:=o.get i v hv;refine hs D v t H' N (List.mem_of_getElem? ht) sm ⟨_,eD⟩ (hR0 _ _ _ _ sm hr) λv' H'' s2 r=>?_;have eD2:=s2 _ _ eD;refine hN _ _ (s2 _ _ el) eD2 ⟨hD,bc (sm.trans s2) hD _,?_⟩;rw [List.take_succ,ht];exact ((al.imp λu t ru=>hR1 D _ _ _ _ s2 ru).app (.cons r .nil)).imp λu t ru=>hR D _ _ _ _ _ eD2 ru
 ·obtain ⟨hD,sm,al⟩:=h;refine hd D ys H' sm hD eD ?_
  rwa [o.len,List.take_length] at al
def pd (K:W.Frag) (rows:List Hu.Row) (D:Addr) (H:Hp) (v:V) (g:List T3):Prop:=∃ a,v=.ref a/\match Hu.run g rows [] with
 | .rules rs=>∃(lr:Addr) (ws:List V),lr≠D/\SqT K H a [.str "rules",.ref lr]/\H lr=some (.lst ws)/\DatAll K H (rs.map t3D) ws
 | .mixed k t=>∃ x,SqT K H a [.str "mixed",.int k,x]
theorem pd.to {K:W.Frag} {rows:List Hu.Row} (D:Addr) (H H':Hp) (v:V) (g:List T3) (s:aH H H') (h:pd K rows D H v g):pd K rows D H' v g:=by
 obtain ⟨a,rfl,h⟩:=h;refine ⟨a,rfl,?_⟩;cases e:Hu.run g rows [] with
 | rules rs =>
  rw [e] at h;obtain ⟨lr,ws,n,h1,h2,h3⟩:=h;exact ⟨lr,ws,n,h1.ts s.ts,s _ _ h2,h3.ts s.ts⟩
 | mixed k t =>
  rw [e] at h;obtain ⟨x,h1⟩:=h;exact ⟨x,h1.ts s.ts⟩
theorem pd.mut {K:W.Frag} {rows:List Hu.Row} (D:Addr) (H:Hp) (ws zs:List V) (v:V) (g:List T3) (eD:H D=some (.lst ws)) (h:pd K rows D H v g):pd K rows D (upd H D (.lst zs)) v g:=by
 obtain ⟨a,rfl,h⟩:=h;refine ⟨a,rfl,?_⟩;have t:Tst H (upd H D (.lst zs)):=dM eD;cases e:Hu.run g rows [] with
 | rules rs =>
  rw [e] at h;obtain ⟨lr,ws,n,h1,h2,h3⟩:=h;exact ⟨lr,ws,n,h1.ts t,by rw [aB n];exact h2,h3.ts t⟩
 | mixed k t' =>
  rw [e] at h;obtain ⟨x,h1⟩:=h;exact ⟨x,h1.ts t⟩
theorem pd.ans {K:W.Frag} {rows:List Hu.Row} {D:Addr} {H:Hp} (v:V) (g:List T3) (h:pd K rows D H v g):rJ K rows H v g:=by
 obtain ⟨a,rfl,h⟩:=h;refine ⟨a,rfl,?_⟩;cases e:Hu.run g rows [] with
 | rules rs =>
  rw [e] at h;obtain ⟨lr,ws,_,h1⟩:=h;exact ⟨lr,ws,h1⟩
 | mixed k t' =>
  rw [e] at h;exact h
theorem Dz {K:W.Frag} {rows:List Hu.Row} {H:Hp} {v:V} {g:List T3} (h:rJ K rows H v g):∃ a xs,v=.ref a/\SqT K H a (.str (if jc (Hu.run g rows [])=true then "mixed" else "rules")::xs):=by
 obtain ⟨a,rfl,h⟩:=h;cases e:Hu.run g rows [] with
 | rules rs =>
  rw [e] at h;obtain ⟨lr,ws,h1,_⟩:=h;exact ⟨a,_,rfl,h1⟩
 | mixed k t =>
  rw [e] at h;obtain ⟨x,h1⟩:=h;exact ⟨a,_,rfl,h1⟩
theorem uG {α β:Type} {R:α->β->Prop}:∀{vs:List α} {ts:List β},vs.length=ts.length->(∀(i:Nat) (v:α) (t:β),vs[i]?=some v->ts[i]?=some t->R v t)->cg R vs ts
 | [],[],_,_=>.nil
 | v::vs,t::ts,h,k=>.cons (k 0 v t rfl rfl) (uG (by simpa using h) λi v' t' a b=>k (i+1) v' t' (by simpa using a) (by simpa using b))
 | [],_::_,h,_=>by simp at h
 | _::_,[],h,_=>by simp at h
theorem zs_of {K:W.Frag} {H:Hp} {rows:List Hu.Row}:∀{L:List (List T3)} {ts:List V},cg (rJ K rows H) ts L->(L.map λg=>jc (Hu.run g rows [])).any id=false->∃ zs:List V,zs.length=ts.length/\∀(i:Nat) (y:V),ts[i]?=some y->∃ g t lr ws,L[i]?=some g/\y=.ref t/\zs[i]?=some (.ref lr)/\SqT K H t [.str "rules",.ref lr]/\H lr=some (.lst ws)/\DatAll K H ((iD (Hu.run g rows [])).map t3D) ws
 | [],_,al,_=>by cases al;exact ⟨[],rfl,λi y h=>by simp at h⟩
 | g::L,_,al,nm=>by
  cases al with
  | cons h al =>
  rw [List.map_cons,List.any_cons,Bool.or_eq_false_iff] at nm;obtain ⟨zs,l,k⟩:=zs_of al nm.2;obtain ⟨a,rfl,h⟩:=h;cases e:Hu.run g rows [] with
  | mixed k t=>rw [e] at nm;simp [jc] at nm
  | rules rs =>
   rw [e] at h;obtain ⟨lr,ws,h1,h2,h3⟩:=h;refine ⟨.ref lr::zs,by simp [l],λi y hy=>?_⟩;cases i with
   | zero=>cases hy;exact ⟨g,a,lr,ws,rfl,rfl,rfl,h1,h2,by rw [e];exact h3⟩
   | succ i=>simpa using k i y (by simpa using hy)
variable {P:Program} {w:World} {K:W.Frag} {mg:Str->Option Value} {base:Heap}
theorem ok_ril {CN:Addr} (T:aF K mg "rules_in_leaves" bD) (sV:mg "any"=none) (ir:mg "zip"=none) (mM:mg "NoCut"=some (.ref CN)) (Fm:iz K CN) (su:PySem.W.mroIn K CN (.ref CN)=some true) (cZ:cy P w K mg base 4 "hulls_of" ["tree"] (kq K CN)) (dw:Def P w K mg base 4 "rules_of_rows" ["rows","hull"] (pw K)):Def P w K mg base 6 "rules_in_leaves" ["rows","tree"] (mY K):=by
 refine aW T ic (λ_ _ _ _ _ _=>L2.ar2 λ_ _=>rfl) ?_ ?_
 ·walk_at "i1";obtain ⟨l,us,rows,x,t,rfl,_⟩:=h;rfl
 walk_at "i2";obtain ⟨l,us,rows,x,t,rfl,el,da,ok,pos,few,dx,sm,dp,cu,q1,q2⟩:=h;have nd:=ic.nd
 refine ⟨_,(ae (ps_tryA (i:=2) rfl rfl rfl cZ (hr.mono (by decide)) rfl (aa (pv 1) ah) rfl mM Fm nd rfl rfl (λ_=>(aq (aD cI))))
  (ae (zH (i:=3) nd rfl (Or.inl rfl) (Or.inl rfl) rfl rfl (bR (pv 2)) rfl (by decide+kernel) (by decide+kernel) rfl (show ∀ p∈Scope.names _,p.2=NameKind.free->List.lookup p.1 (ak bD).names=some .cell\/List.lookup p.1 (ak bD).names=some .free by decide+kernel) (dX (j:=0) rfl (Or.inl rfl) (by decide+kernel) (Or.inl rfl) dC) (show (["hull","rows"]:List Str).Nodup by decide+kernel) (λ_ _ _ _=>gv) (λ_ _ _ _=>(aI dw (hr.mono (by decide)) rfl (aa (pv 1) (aa (pv 0) ah)))))
  (ae (aJ (iH (aN (wU rfl) rfl sV (by decide+kernel) (aa (fE rfl (bR (pv 3)) rfl (by decide+kernel) (by decide+kernel) rfl (show ∀ p∈Scope.names _,p.2=NameKind.free->List.lookup p.1 (ak bD).names=some .cell\/List.lookup p.1 (ak bD).names=some .free by decide+kernel) dC (show (["answer"]:List Str).Nodup by decide+kernel) (λ_ _ _ _=>gv) (λ_ _ _ _=>(gw aM (aK (gY (K:=K) rfl) (pv 0) ao (λ_ _=>rfl)) aR (aC _)))) ah))) (aq (aD cI)) av)
  (aq (aD (iX (xs:=["hull","answer"]) rfl (Dr rfl ir (pv 2) (pv 3)) rfl (by decide+kernel) (by decide+kernel) (show ∀ p∈Scope.names _,p.2=NameKind.free->List.lookup p.1 (ak bD).names=some .cell\/List.lookup p.1 (ak bD).names=some .free by decide+kernel) dC (show (["hull","answer"]:List Str).Nodup by decide+kernel) (λ_ _ _ _=>jr (K:=K) (n:=2) rfl rfl (bE (aV (i:=0) (show (["hull","answer"]:List Str).Nodup by decide+kernel) rfl (Or.inl rfl) (.inr rfl)) (bE (aV (i:=1) (show (["hull","answer"]:List Str).Nodup by decide+kernel) rfl (Or.inl rfl) (.inr rfl)) fD))) (λ_ _ _ _=>(bB (aa (pv 0) (aa (aK (gY (K:=K) rfl) (pv 1) ao (λ_ _=>rfl)) ah)))))))))),?_⟩
 refine ⟨_,rfl,x,t,rfl,dx,sm,dp,λnn H1 s1=>⟨CN,rfl,su,?_⟩,λL eL lh us1 H1 s1 f1 e1 al=>?_⟩
 ·exact q1 (by unfold cF;rw [nn]) H1 s1
 have ln:=fP eL;have hk:=Hu.Tc.gU Hu.jz sm eL;have a1:=al.all2;have lu:=a1.len;dsimp only [ip,Ax,rM];refine yx (K:=K) (xs:=us1) (ts:=L) (R0:=HuV K) (R:=pd K rows) (λH H' v t s h=>HuV.to s v t h) (λD H H' v t s h=>pd.to D H H' v t s h) (λD H ws zs v t e h=>pd.mut D H ws zs v t e h) (λl' H'=>l'=lh/\H'=H1) (λR k=>⟨_,rfl,lh,rfl,⟨_,SqL.of e1⟩,k lh H1 ⟨rfl,rfl⟩⟩) (λl' H' z=>by obtain ⟨rfl,rfl⟩:=z;exact ⟨e1,aH.refl _⟩) (by omega) a1 (λD v g H2 N hg s2 eD rv hN=>?_) (λD ts H2 s2 hD eD al2=>?_)
 ·obtain ⟨ga,gus,rfl,eg,dg⟩:=rv;obtain ⟨ys,eD⟩:=eD;obtain ⟨hkg,gl⟩:=hk g hg;have n3:=hkg.n3;have s02:=s1.trans s2;have gl':g.length<=4+t.deep:=gl;refine ⟨_,rfl,_,rfl,l,ga,us,gus,rows,g,rfl,s02 _ _ el,da.ts s02.ts,ok,pos,few,eg,dg,λp hp=>(hkg.ok p hp).r.mono (by decide),by omega,by omega,λrs t lr ws H3 s3 ru rb rl f2 st e2 d2=>?_,λk tt t v H3 s3 mx kl bt st dv=>?_⟩
  ·refine hN _ _ s3 ⟨t,rfl,?_⟩;rw [ru];exact ⟨lr,ws,(λz=>by subst z;rw [eD] at f2;cases f2),st,e2,d2⟩
  ·refine hN _ _ s3 ⟨t,rfl,?_⟩;rw [mx];exact ⟨v,st⟩
 have a2:cg (rJ K rows H2) ts L:=al2.imp pd.ans;have lt:=a2.len;dsimp only [tIfS,tB,tCB,dN,jE];refine comp_map (K:=K) (xs:=ts) (ts:=L) (R:=rJ K rows) (λg=>V.bl (jc (Hu.run g rows []))) (λH H' v t s h=>rJ.to s v t h) (λl' H'=>l'=D/\H'=H2) (λR k=>⟨_,rfl,D,rfl,⟨_,SqL.of eD⟩,k D H2 ⟨rfl,rfl⟩⟩) (λl' H' z=>by obtain ⟨rfl,rfl⟩:=z;exact ⟨eD,aH.refl _⟩) (by omega) a2 (λv g H3 N hg rv hN=>?_) (λD3 H3 s3 hD3 e3=>?_)
 ·obtain ⟨a,xs,rfl,sq⟩:=Dz rv;refine ⟨_,rfl,_,_,_,_,rfl,rfl,sq,bS (j:=0) rfl,rfl,?_⟩
  have e:decide (V.str (if jc (Hu.run g rows [])=true then "mixed" else "rules")=V.str "mixed")=jc (Hu.run g rows []):=by
   cases jc (Hu.run g rows []) <;> decide+kernel
  rw [e];exact hN _ (aH.refl _)
 refine ⟨D3,L.map λg=>jc (Hu.run g rows []),rfl,SqL.of (by rw [e3,List.map_map];rfl),_,rfl,gG (λc=>?_) (λc=>?_)⟩
 ·refine q1 ?_ _ ((s1.trans s2).trans s3);unfold cF;rw [eL];show (cX rows L).map _=none;rw [(bZ rows L).1 c];rfl
 have c:(L.map λg=>jc (Hu.run g rows [])).any id=false:=by simpa using c
 have a3:=a2.imp (rJ.to s3);obtain ⟨zs,lz,kz⟩:=zs_of a3 c;have s13:=s2.trans s3;have e13:=s13 _ _ e1;have eD3:=s3 _ _ eD;dsimp only [yV,Ay];refine jv ?_;refine ⟨_,rfl,_,rfl,lh,D,rfl,rfl,⟨_,SqL.of e13⟩,⟨_,SqL.of eD3⟩,?_⟩;refine BB (K:=K) zs e13 eD3 (by omega) (by omega) (by omega) (λi x y z H4 N hx hy hz s4 hN=>?_) (λD5 ws H5 s5 hD5 e5 l5 k5=>?_)
 ·obtain ⟨g,t',lr,w',hg,rfl,hz',sq,e,d⟩:=kz i y hy;rw [hz] at hz';cases hz'
  refine ⟨_,rfl,_,rfl,_,_,_,_,rfl,rfl,sq.ts s4.ts,bS (j:=1) rfl,(by show 2<=sizeLine;decide),λp hp=>?_⟩;exact hN p _ (az hp _) hp af
 refine q2 (L.zip (L.map λg=>iD (Hu.run g rows []))) ?_ D5 ws H5 (((s1.trans s13)).trans s5) e5 ?_
 ·unfold cF;rw [eL];show (cX rows L).map _=_;rw [(bZ rows L).2 c];rfl
 ·have a15:=a1.imp (HuV.to (s13.trans s5));refine uG (by simp [l5,lu]) λi v p hv hp=>?_;rw [List.getElem?_zip_eq_some,List.getElem?_map] at hp;obtain ⟨hg,hp2⟩:=hp;rw [hg] at hp2;have hi:i < us1.length:=by rw [lu];exact (List.getElem?_eq_some_iff.mp hg).1
  have h1:us1[i]?=some us1[i]:=List.getElem?_eq_getElem hi;have h2:ts[i]?=some (ts[i]'(by omega)):=List.getElem?_eq_getElem (by omega);obtain ⟨g,t',lr,w',hg',et,hz',sq,e,d⟩:=kz i _ h2;rw [hg] at hg';cases hg'
  obtain ⟨t5,z1,z2⟩:=k5 i _ _ h1 hz';rw [hv] at z1;cases z1
  obtain ⟨g0,hg0,ga,gu,eu,eg,dg⟩:=a15.get i _ h1;rw [hg] at hg0;cases hg0
  rw [eu] at z2;have:p.2=iD (Hu.run p.1 rows []):=(Option.some.inj hp2).symm;exact ⟨t5,ga,lr,gu,w',rfl,z2,eg,dg,s5 _ _ e,by rw [this];exact d.ts s5.ts⟩
theorem ui {α:Type} {P:Nat->α->Prop}:∀ n:Nat,(∀ i,i < n->∃ x,P i x)->∃ l:List α,l.length=n/\∀(i:Nat) (x:α),l[i]?=some x->P i x
 | 0,_=>⟨[],rfl,λi x h=>by simp at h⟩
 | n+1,h=>by
  obtain ⟨l,hl,k⟩:=ui n λi hi=>h i (Nat.lt_succ_of_lt hi);obtain ⟨x,hx⟩:=h n (Nat.lt_succ_self n);refine ⟨l++[x],by simp [hl],λi y hy=>?_⟩
  by_cases e:i < l.length
  ·rw [List.getElem?_append_left e] at hy;exact k i y hy
  ·have:i=l.length:=by
    have:=(List.getElem?_eq_some_iff.mp hy).1;simp at this;omega
   subst this;rw [List.getElem?_concat_length] at hy;cases hy
   rw [hl];exact hx
theorem yB {f:List T3->Bool}:∀{L:List (List T3)},(L.map f).any id=true->∃ g∈L,f g=true
 | [],h=>by simp at h
 | g::L,h=>by
  rw [List.map_cons,List.any_cons,Bool.or_eq_true] at h;rcases h with h | h
  ·exact ⟨g,List.mem_cons_self,h⟩
  ·obtain ⟨x,hx,e⟩:=yB h;exact ⟨x,List.mem_cons_of_mem _ hx,e⟩
theorem no_mx {f:List T3->Bool} {L:List (List T3)} (h:(L.map f).any id=false):∀ g∈L,f g=false:=λg hg=>by
 cases e:f g with
 | false=>rfl
 | true =>
  have:(L.map f).any id=true:=List.any_eq_true.mpr ⟨f g,List.mem_map.mpr ⟨g,hg,rfl⟩,e⟩;rw [h] at this;cases this
theorem all_false {f:List T3->Bool} {L:List (List T3)} {g:List T3} (hg:g∈L) (h:f g=false):L.all f=false:=by
 cases e:L.all f with
 | false=>rfl
 | true=>rw [List.all_eq_true.mp e g hg] at h;cases h
theorem sS {xs:List V} (h:0 < xs.length):atI xs (-1)=xs[xs.length - 1]?:=by
 unfold atI ixN;rw [if_neg (by decide),if_pos (by omega)];show xs[((-1:Int)+(xs.length:Nat)).toNat]?=_;congr 1;omega
def nl (f:Int×Int) (r p:T3):Bool:=decide (f.1*p.u<=Hu.tl r p*f.2)
def hog (a:Tr) (f:Int×Int) (g:List T3):Bool:=match rl g a with
 | some r=>g.all (nl f r)
 | none=>false
def ho (a:Tr) (t:Hu.Tc) (f:Int×Int):Bool:=match t.told Hu.sqH with
 | none=>false
 | some L=>L.all (hog a f)
theorem DZ {a b:Int} {m n:Nat} (ha:a.natAbs < 2 ^ m) (hb:b.natAbs < 2 ^ n):(a*b).natAbs < 2 ^ (m+n):=by
 rw [Int.natAbs_mul,Nat.pow_add];exact Nat.mul_lt_mul'' ha hb
theorem tl_b {r p:T3} {m n k:Nat} (hr:Hu.R3 m r) (hp:Hu.R3 n p) (hk:m+n+2<=k):(Hu.tl r p).natAbs < 2 ^ k:=by
 have h1:=DZ hr.a hp.b;have h2:=DZ hr.b hp.c;have h3:=DZ hr.c hp.a;have e:2 ^ (m+n+2)=4*2 ^ (m+n):=by rw [Nat.pow_add];omega
 refine Nat.lt_of_lt_of_le ?_ (Nat.pow_le_pow_right (by decide) hk);rw [e];show (r.u*p.v+r.v*p.w+r.w*p.u).natAbs < _;generalize r.u*p.v=x at *;generalize r.v*p.w=y at *;generalize r.w*p.u=z at *;generalize 2 ^ (m+n)=q at *;omega
theorem tl_bg {r p:T3} (hr:Hu.R3 3000 r) (hp:Hu.R3 3000 p):Bg (Hu.tl r p):=tl_b hr hp (by decide)
theorem rl_b {a:Tr} {g:List T3} {r:T3} (h:rl g a=some r):Hu.R3 a.size r:=by
 have R:=sj a;rcases R.run g with ⟨out,r',e,e1,e2⟩ | ⟨_,e⟩
 ·rw [h] at e2;cases e2
  have B:=(Hu.CW (h:=g) (bG a) [] (λi y z=>by simp at z) (λi r z=>by simpa using R.ok i r z)).2 out e;rw [List.getLast?_eq_getElem?] at e1;have p:=R.pos;have l:=R.len;have b2:=B.2;simp at b2;exact (B.1 _ _ e1).mono (by omega)
 ·rw [h] at e;cases e
theorem rl_r3 {a:Tr} {g:List T3} {r:T3} (h:rl g a=some r) (sz:a.size<=60):Hu.R3 3000 r:=(rl_b h).mono (by omega)
theorem wB {a:Tr} {t:Hu.Tc} (f:Int×Int) (h:cF (bG a) t=none):ho a t f=false:=by
 unfold cF at h;unfold ho;cases e:t.told Hu.sqH with
 | none=>rfl
 | some L =>
  rw [e] at h;show L.all (hog a f)=false;cases c:(L.map λg=>jc (Hu.run g (bG a) [])).any id with
  | false =>
   have h:(cX (bG a) L).map _=none:=h;rw [(bZ (bG a) L).2 c] at h;cases h
  | true =>
   obtain ⟨g,hg,m⟩:=yB c;refine all_false hg ?_;rcases (sj a).run g with ⟨out,x,e1,_⟩ | ⟨_,e2⟩
   ·rw [e1] at m;cases m
   ·unfold hog;rw [e2]
theorem uk {a:Tr} {t:Hu.Tc} (f:Int×Int) (sm:t.Sm 64) {o:List (List T3×List T3)} (h:cF (bG a) t=some o):o.length=t.gZ+1/\∃ bs:List Bool,bs.length=o.length/\ho a t f=bs.all id/\∀(i:Nat) (p:List T3×List T3),o[i]?=some p->∃ r,p.2.getLast?=some r/\rl p.1 a=some r/\Hu.HK p.1/\p.1.length<=4+t.deep/\bs[i]?=some (p.1.all (nl f r)):=by
 unfold cF at h;cases e:t.told Hu.sqH with
 | none=>rw [e] at h;cases h
 | some L =>
  rw [e] at h;have ln:=fP e;have hk:=Hu.Tc.gU Hu.jz sm e;have h:(cX (bG a) L).map _=some o:=h;cases c:(L.map λg=>jc (Hu.run g (bG a) [])).any id with
  | true=>rw [(bZ (bG a) L).1 c] at h;cases h
  | false =>
   rw [(bZ (bG a) L).2 c] at h;have h:L.zip (L.map λg=>iD (Hu.run g (bG a) []))=o:=Option.some.inj h;subst h;refine ⟨by simp [ln],L.map (hog a f),by simp,?_,λi p hp=>?_⟩
   ·unfold ho;rw [e];show L.all (hog a f)=_;rw [List.all_map];rfl
   ·rw [List.getElem?_zip_eq_some,List.getElem?_map] at hp;obtain ⟨hg,hp2⟩:=hp;rw [hg] at hp2;have e2:p.2=iD (Hu.run p.1 (bG a) []):=(Option.some.inj hp2).symm;have nm:=no_mx c p.1 (List.mem_of_getElem? hg);obtain ⟨k1,k2⟩:=hk p.1 (List.mem_of_getElem? hg);rcases (sj a).run p.1 with ⟨out,x,e1,x1,x2⟩ | ⟨⟨k,z,e1⟩,_⟩
    ·rw [e1] at e2;refine ⟨x,by rw [e2];exact x1,x2,k1,k2,?_⟩;rw [List.getElem?_map,hg];show some (hog a f p.1)=_;unfold hog;rw [x2]
    ·rw [e1] at nm;cases nm
def spAt (K:W.Frag):Sp:=λvs H Q _=>∃(x y z:V) (r p:T3) (f:Int×Int),vs=[x,y,z]/\Dat K H (t3D r) x/\Dat K H (t3D p) y/\Hu.R3 3000 r/\Hu.R3 3000 p/\FrV K H z f/\Bg f.1/\Bg f.2/\Q (.bl (nl f r p)) H
def spOn (K:W.Frag):Sp:=λvs H Q _=>∃(x:V) (l:Addr) (z:V) (us:List V) (r:T3) (h:List T3) (f:Int×Int),vs=[x,.ref l,z]/\Dat K H (t3D r) x/\H l=some (.lst us)/\DatAll K H (h.map t3D) us/\Hu.R3 3000 r/\(∀ p∈h,Hu.R3 3000 p)/\h.length<=900/\FrV K H z f/\Bg f.1/\Bg f.2/\∀ H',aH H H'->Q (.bl (h.all (nl f r))) H'
def spHo (c:CCs) (K:W.Frag):Sp:=λvs H Q _=>∃(x:Addr) (z lf:V) (a:Tr) (t:Hu.Tc) (f:Int×Int),vs=[.ref x,z,lf]/\Ob c H x a/\a.size<=60/\a.nf<=8/\Dat K H (tcD t) z/\t.Sm 64/\t.deep<=12/\t.gZ<=600/\FrV K H lf f/\Bg f.1/\Bg f.2/\∀ H',aH H H'->Q (.bl (ho a t f)) H'
def spHoX (c:CCs) (C:Addr):Sp:=λvs H _ E=>∃(x:Addr) (z lf:V) (a:Tr),vs=[.ref x,z,lf]/\Ob c H x a/\a.size<=900/\8 < a.nf/\∀ H',aH H H'->E (.ref C) none H'
variable {c:CCs}
theorem ok_at (T:aF K mg "is_no_less_at" gK) (jh:Def P w K mg base 1 "told_by" ["rule","point"] (spTl K)):Def P w K mg base 2 "is_no_less_at" ["rule","corner","least"] (spAt K):=by
 refine aW T iS (λ_ _ _ _ _ _=>L2.ar3 λ_ _ _=>rfl) ?_ ?_
 ·walk_at "i1";obtain ⟨x,y,z,r,p,f,rfl,_⟩:=h;rfl
 walk_at "i2";obtain ⟨x,y,z,r,p,fr,rfl,dx,dy,br,bp,⟨za,rfl,sz⟩,b1,b2,q⟩:=h;have nd:=iS.nd;obtain ⟨ap,rfl,st⟩:=fO dy;refine ⟨_,(aq (aD (gw vT (aP bH (aI jh (hr.mono (by decide)) rfl (aa (pv 0) (aa (pv 1) ah))) (aK aL (pv 2) ao (λ_ _=>rfl))) (aP bH (aK aL (pv 2) ao (λ_ _=>rfl)) (aK aL (pv 1) ao (λ_ _=>rfl))) (aC _)))),?_⟩;refine ⟨_,rfl,_,rfl,x,.ref ap,r,p,rfl,dx,dy,br,bp,?_⟩;exact ⟨_,rfl,_,_,_,_,rfl,rfl,sz,rfl,_,_,rfl,rfl,fV (tl_bg br bp) b2,_,rfl,_,_,_,_,rfl,rfl,sz,rfl,_,rfl,_,_,_,_,rfl,rfl,st,rfl,_,_,rfl,rfl,fV b1 (r3b bp).1,_,_,rfl,rfl,q⟩
theorem ok_on47 (T:aF K mg "is_no_less_on" de) (jB:mg "all"=none) (oZ:Def P w K mg base 2 "is_no_less_at" ["rule","corner","least"] (spAt K)):Def P w K mg base 3 "is_no_less_on" ["rule","hull","least"] (spOn K):=by
 refine aW T iR (λ_ _ _ _ _ _=>L2.ar3 λ_ _ _=>rfl) ?_ ?_
 ·walk_at "i1";obtain ⟨x,l,z,us,r,h,f,rfl,_⟩:=h;rfl
 walk_at "i2";obtain ⟨x,l,z,us,r,h,fr,rfl,dx,el,da,br,bp,hl,fv,b1,b2,q⟩:=h;have nd:=iR.nd;have lu:=fS da;refine ⟨_,(aq (aD (aN (mH rfl) rfl jB (by decide+kernel) (aa (fE rfl (bR (pv 1)) rfl (by decide+kernel) (by decide+kernel) rfl (show ∀ p∈Scope.names _,p.2=NameKind.free->List.lookup p.1 (ak de).names=some .cell\/List.lookup p.1 (ak de).names=some .free by decide+kernel) (dX (j:=0) rfl (Or.inl rfl) (by decide+kernel) (Or.inl rfl) (dX (j:=2) rfl (Or.inl rfl) (by decide+kernel) (Or.inl rfl) dC)) (show (["corner","rule","least"]:List Str).Nodup by decide+kernel) (λ_ _ _ _=>gv) (λ_ _ _ _=>(aI oZ (hr.mono (by decide)) rfl (aa (pv 1) (aa (pv 0) (aa (pv 2) ah)))))) ah)))),?_⟩
 have a1:cg (λv p=>aH H H/\Dat K H (t3D p) v) us h:=uG lu λi v p hv hp=>by
  obtain ⟨p',hp',d⟩:=jJ da hv;rw [hp] at hp';cases hp'
  exact ⟨aH.refl _,d⟩
 dsimp only [Ay,tCB,dN,jE];refine comp_map (K:=K) (xs:=us) (ts:=h) (R:=λH' v p=>aH H H'/\Dat K H' (t3D p) v) (λp=>V.bl (nl fr r p)) (λH H' v t s h=>⟨h.1.trans s,h.2.ts s.ts⟩) (λl' H'=>l'=l/\H'=H) (λR k=>⟨_,rfl,l,rfl,⟨_,SqL.of el⟩,k l H ⟨rfl,rfl⟩⟩) (λl' H' z=>by obtain ⟨rfl,rfl⟩:=z;exact ⟨el,aH.refl _⟩) (by omega) a1 (λv p H3 N hp rv hN=>?_) (λD3 H3 s3 hD3 e3=>?_)
 ·obtain ⟨s3,d3⟩:=rv;exact ⟨_,rfl,_,rfl,_,rfl,x,v,z,r,p,fr,rfl,dx.ts s3.ts,d3,br,bp p hp,fv.to s3,b1,b2,hN _ (aH.refl _)⟩
 ·refine ⟨D3,h.map (nl fr r),rfl,SqL.of (by rw [e3,List.map_map];rfl),?_⟩;have e:(h.map (nl fr r)).all id=h.all (nl fr r):=by rw [List.all_map];rfl
  rw [e];exact q _ s3
theorem ok_holds (T : aF K mg "holds" s_holds) (jB : mg "all" = none) (GF : ∀ t, aQ P w K mg base (c.of t) "folds" 3 ["self"] (eJ c t)) (aY : Def P w K mg base 1 "must_be_few" ["folds"] uZ) (eA : Def P w K mg base 3 "rows_of" ["saying"] (iP c)) (fN : Def P w K mg base 6 "rules_in_leaves" ["rows", "tree"] (mY K)) (oY : Def P w K mg base 3 "is_no_less_on" ["rule", "hull", "least"] (spOn K)) : Def P w K mg base 8 "holds" ["saying", "tree", "least"] (spHo c K) := by
 refine aW T sc_holds (fun _ _ _ _ _ _ => L2.ar3 fun _ _ _ => rfl) (fun vs H Q E h => ?_) (fun f cdv A outer s H vs Q E hr h => ?_)
 ·obtain ⟨x,z,lf,a,t,f,rfl,_⟩:=h;rfl
 obtain ⟨x,z,lf,a,t,fr,rfl,oa,sz,n8,dz,sm,dp,cu,fv,b1,b2,q⟩:=h;have nd := sc_holds.nd
 have hu:=hr.units;have R:=sj a;have rl1:=R.len;obtain ⟨dx,fs,ea,nf⟩:=oa.cls
 refine ⟨_,(ae (aZ (aI aY (hr.mono (by decide)) rfl (aa (bF (k:=3) (pv 0) (hr.mono (by omega))) ah)))
  (ae (aG (i:=3) nd rfl (Or.inl rfl) (aI fN (hr.mono (by decide)) rfl (aa (aI eA (hr.mono (by omega)) rfl (aa (pv 0) ah)) (aa (pv 1) ah))))
  (ae (aJ (au nH (pv 3) cI (aC _)) (aq (aD kR)) av)
  (aq (aD (aN (mH rfl) rfl jB (by decide+kernel) (aa (iX (xs := ["hull", "rules"]) rfl (bR (pv 3)) rfl (by decide+kernel) (by decide+kernel) (show ∀ p ∈ Scope.names _, p.2 = NameKind.free → List.lookup p.1 (ak s_holds).names = some .cell ∨ List.lookup p.1 (ak s_holds).names = some .free by decide+kernel) (dX (j := 2) rfl (Or.inl rfl) (by decide+kernel) (Or.inl rfl) dC) (show (["hull", "rules", "least"] : List Str).Nodup by decide+kernel) (fun _ _ _ _ => jr (K := K) (n := 2) rfl rfl (bE (aV (i := 0) (show (["hull", "rules", "least"] : List Str).Nodup by decide+kernel) rfl (Or.inl rfl) (.inr rfl)) (bE (aV (i := 1) (show (["hull", "rules", "least"] : List Str).Nodup by decide+kernel) rfl (Or.inl rfl) (.inr rfl)) fD))) (fun _ _ _ _ => (aI oY (hr.mono (by decide)) rfl (aa (aK (qG (K := K) rfl) (pv 1) (oz jI ao) (fun _ _ => rfl)) (aa (pv 0) (aa (pv 2) ah)))))) ah))))))), ?_⟩
 refine ⟨_,rfl,x,_,_,_,_,_,rfl,ea,nf _ (by decide+kernel),GF a,x,rfl,oa,by omega,λH1 s1=>⟨_,rfl,by omega,?_⟩⟩;refine ⟨_,rfl,x,a,rfl,oa.to (Kp.of s1),by omega,λlr us H3 s3 hlr el al=>?_⟩;have s13:=s1.trans s3;refine ⟨_,rfl,lr,us,bG a,z,t,rfl,el,R.dat al,R.ok,R.pos,by omega,dz.ts s13.ts,sm,dp,cu,λnn H4 s4=>?_,λo eo d ws H4 s4 ed al4=>?_⟩
 ·refine ⟨_,rfl,rfl,_,rfl,cj ?_⟩;have e:=wB fr nn;have q:=q H4 (s13.trans s4);rw [e] at q;exact q
 ·refine ⟨_,rfl,rfl,_,rfl,aT ?_⟩;obtain ⟨lo,bs,lb,eb,kb⟩:=uk fr sm eo;have lw:=al4.len
  have pr:∀(i:Nat) (p:List T3×List T3),o[i]?=some p->∃(tt a b:Addr) (us ws':List V),ws[i]?=some (.ref tt)/\H4 tt=some (.tup [.ref a,.ref b])/\H4 a=some (.lst us)/\DatAll K H4 (p.1.map t3D) us/\H4 b=some (.lst ws')/\DatAll K H4 (p.2.map t3D) ws':=λi p hp=>by
   have hi:i < ws.length:=by rw [lw];exact (List.getElem?_eq_some_iff.mp hp).1
   have h1:ws[i]?=some ws[i]:=List.getElem?_eq_getElem hi;obtain ⟨p',hp',tt,a,b,us,ws',ev,e1,e2,e3,e4,e5⟩:=al4.get i _ h1;rw [hp] at hp';cases hp'
   exact ⟨tt,a,b,us,ws',by rw [h1,ev],e1,e2,e3,e4,e5⟩
  obtain ⟨ps,lp,kp⟩:=ui (P:=λi (q:V×V)=>∀ p,o[i]?=some p->∃(tt a b:Addr) (us ws':List V),ws[i]?=some (.ref tt)/\H4 tt=some (.tup [q.1,q.2])/\q=(.ref a,.ref b)/\H4 a=some (.lst us)/\DatAll K H4 (p.1.map t3D) us/\H4 b=some (.lst ws')/\DatAll K H4 (p.2.map t3D) ws') o.length (λi hi=>by
   obtain ⟨tt,a,b,us,ws',h1,h2,h3,h4,h5,h6⟩:=pr i _ (List.getElem?_eq_getElem hi);exact ⟨(.ref a,.ref b),λp hp=>by rw [List.getElem?_eq_getElem hi] at hp;cases hp;exact ⟨tt,a,b,us,ws',h1,h2,rfl,h3,h4,h5,h6⟩⟩)
  have at_o:∀{i:Nat} {q:V×V},ps[i]?=some q->∃ p,o[i]?=some p:=λ{i q} h=>by
   have hi:i < o.length:=by rw [<- lp];exact (List.getElem?_eq_some_iff.mp h).1
   exact ⟨_,List.getElem?_eq_getElem hi⟩
  dsimp only [yV,Ay,tCB,dN,jE];refine jv ?_;refine ⟨_,rfl,d,rfl,⟨_,SqL.of ed⟩,?_⟩;refine wN (K:=K) ps bs ed (by omega) (by omega) (by omega) (λi q hq=>?_) (λi q b' H5 N hq hb' s5 hN=>?_) (λD5 H5 s5 hD5 e5=>?_)
  ·obtain ⟨p,hp⟩:=at_o hq;obtain ⟨tt,a,b,us,ws',h1,h2,_⟩:=kp i q hq p hp;exact ⟨tt,h1,h2⟩
  ·obtain ⟨p,hp⟩:=at_o hq;obtain ⟨tt,a2,b2',us',ws',h1,h2,rfl,h4,h5,h6,h7⟩:=kp i q hq p hp;obtain ⟨r,r1,r2,hk,pl,e1⟩:=kb i p hp;rw [hb'] at e1;cases e1
   have lw':=fS h7;rw [List.getLast?_eq_getElem?,<- lw'] at r1;obtain ⟨vx,hvx,dvx⟩:=pN (h7.ts s5.ts) r1;have s35:=s13.trans (s4.trans s5);have hpos:0 < ws'.length:=Nat.lt_of_le_of_lt (Nat.zero_le _) (List.getElem?_eq_some_iff.mp hvx).1;refine ⟨_,rfl,_,rfl,_,_,_,_,rfl,rfl,SqL.of (s5 _ _ h6),(by rw [sS hpos];exact hvx),_,rfl,_,rfl,vx,a2,lf,us',r,p.1,fr,rfl,dvx,s5 _ _ h4,h5.ts s5.ts,rl_r3 r2 sz,λp' hp'=>(hk.ok p' hp').r.mono (by decide),by omega,fv.to s35,b1,b2,λH6 s6=>hN _ s6⟩
  ·refine ⟨D5,bs,rfl,SqL.of e5,?_⟩;rw [<- eb];exact q H5 ((s13.trans s4).trans s5)
theorem ok_hoX {aX : Addr} (T : aF K mg "holds" s_holds) (GF : ∀ t, aQ P w K mg base (c.of t) "folds" 3 ["self"] (eJ c t)) (aY : cy P w K mg base 1 "must_be_few" ["folds"] (pR aX)) : cy P w K mg base 8 "holds" ["saying", "tree", "least"] (spHoX c aX) := by
 refine dG T sc_holds (fun _ _ _ _ _ _ => L2.ar3 fun _ _ _ => rfl) (fun vs H Q E h => ?_) (fun f cdv A outer s H vs Q E hr h => ?_)
 ·obtain ⟨x,z,lf,a,rfl,_⟩:=h;rfl
 obtain ⟨x,z,lf,a,rfl,oa,sz,n8,k⟩:=h;have nd := sc_holds.nd
 obtain ⟨dx,fs,ea,nf⟩:=oa.cls;refine ⟨_,ae (aZ (bX aY (hr.mono (by omega)) rfl (aa (bF (k:=3) (pv 0) (hr.mono (by omega))) ah))) (show PSs _ _ aO from λ_ _ _ _ _ _ h=>h.elim),?_⟩;exact ⟨_,rfl,x,_,_,_,_,_,rfl,ea,nf _ (by decide+kernel),GF a,x,rfl,oa,by omega,λH1 s1=>⟨_,rfl,by omega,λH3 s3=>k H3 (s1.trans s3)⟩⟩
theorem Hu.ins_cor {h:List T3} {c:T3} (T:Hu.oQ h) (n3:3<=h.length) (hc:c∈h):Hu.Ins h c:=by
 obtain ⟨j,hj,rfl⟩:=List.mem_iff_getElem.mp hc;rw [<- Hu.eF hj];intro i hi
 by_cases e1:j=i
 ·rw [e1,Hu.EN];exact Int.le_refl _
 by_cases e2:j=(i+1) % h.length
 ·rw [e2,Hu.uA];exact Int.le_of_eq (by simp only [Hu.det];grind)
 exact Int.le_of_lt (Hu.sideS T n3 hi hj e1 e2)
structure Rg where
 h:List T3
 bs:List B4
def Rg.Ok (r:Rg):Prop:=(∀ c∈r.h,Nar c)/\0 < r.h.length/\r.h.length<=100/\∀ q∈r.bs,q.R
def Rg.Col (r:Rg) (n x:Int):Prop:=(∃ c∈r.h,rup (c.v*n) c.u<=x)/\∃ c∈r.h,x<=(c.v*n).fdiv c.u
def RgV (K:W.Frag) (N:Addr->Prop) (H:Hp) (v:V) (r:Rg):Prop:=∃(t l lb:Addr) (us ws:List V),v=.ref t/\SqT K H t [.ref l,.ref lb]/\N l/\N lb/\H l=some (.lst us)/\DatAll K H (r.h.map t3D) us/\H lb=some (.lst ws)/\DatAll K H (r.bs.map b4D) ws
theorem RgV.to {K:W.Frag} {N:Addr->Prop} {H H':Hp} {v:V} {r:Rg} (s:aH H H') (g:RgV K N H v r):RgV K N H' v r:=by
 obtain ⟨t,l,lb,us,ws,rfl,h1,h2,h3,h4,h5,h6,h7⟩:=g;exact ⟨t,l,lb,us,ws,rfl,h1.ts s.ts,h2,h3,s _ _ h4,h5.ts s.ts,s _ _ h6,h7.ts s.ts⟩
theorem RgV.mut {K:W.Frag} {D:Addr} {H:Hp} {v:V} {r:Rg} {ws zs:List V} (e:H D=some (.lst ws)) (g:RgV K (·≠D) H v r):RgV K (·≠D) (upd H D (.lst zs)) v r:=by
 obtain ⟨t,l,lb,us,ws,rfl,h1,h2,h3,h4,h5,h6,h7⟩:=g;have z:Tst H (upd H D (.lst zs)):=dM e;exact ⟨t,l,lb,us,ws,rfl,h1.ts z,h2,h3,by rw [aB h2];exact h4,h5.ts z,by rw [aB h3];exact h6,h7.ts z⟩
def Cu (K:W.Frag):Sp:=λvs H Q _=>∃(l:Addr) (us:List V) (N:Addr->Prop) (rs:List Rg) (n:Int),vs=[.ref l,.int n]/\H l=some (.lst us)/\cg (RgV K N H) us rs/\(∀ r∈rs,r.Ok)/\0<=n/\n < 2 ^ 32/\
 (∀ r∈rs,∀ x y,0<=y->y<=n->Kept r.bs n x y->∀(t:Addr) (H':Hp),aH H H'->Dat K H' (t3D ⟨n,x,y⟩) (.ref t)->Q (.ref t) H')/\
 ((∀ r∈rs,∀ x y,r.Col n x->0<=y->y<=n->¬Kept r.bs n x y)->∀ H',aH H H'->Q .non H')
def ruR (rows:List Hu.Row) (g:List T3):T3:=match Hu.run g rows [] with
 | .rules rs=>rs.getLastD Hu.z0
 | _=>Hu.z0
def blw (rows:List Hu.Row) (g:List T3):Bool:=g.any λc=>decide (Hu.tl (ruR rows g) c < c.u)
def rgs (rows:List Hu.Row) (L:List (List T3)):List Rg:=(L.filter (blw rows)).map λg=>⟨g,yA g (ruR rows g)⟩
def spRbl (c:CCs) (K:W.Frag):Sp:=λvs H Q _=>∃(x:Addr) (a:Tr),vs=[.ref x]/\Ob c H x a/\a.size<=60/\a.nf<=8/\
 ∀(D:Addr) (us:List V) (T:Hu.Tc) (L:List (List T3)) (H':Hp),aH H H'->H' D=some (.lst us)->cg (RgV K (·≠D) H') us (rgs (bG a) L)->(∀ r∈rgs (bG a) L,r.Ok)->T.Sm 8->T.told Hu.sqH=some L->(∀ g∈L,∃ rs,Hu.run g (bG a) []=.rules rs)->Q (.ref D) H'
structure Few (rs:List Rg) (n x y:Int):Prop where
 n1:1<=n
 y0:0<=y
 y1:y<=n
 kp:∃ r∈rs,Kept r.bs n x y
 no:∀ m,1<=m->m < n->∀ r∈rs,∀ x y,r.Col m x->0<=y->y<=m->¬Kept r.bs m x y
def spFst (c:CCs) (K:W.Frag):Sp:=λvs H Q _=>∃(x:Addr) (a:Tr),vs=[.ref x]/\Ob c H x a/\a.size<=60/\a.nf<=8/\
 ∀(
  T:Hu.Tc) (L:List (List T3)),T.Sm 8->T.told Hu.sqH=some L->(∀ g∈L,∃ rs,Hu.run g (bG a) []=.rules rs)->
  (rgs (bG a) L=[]->∀ H',aH H H'->Q .non H')/\(∀(n x y:Int) (t p:Addr) (H':Hp),Few (rgs (bG a) L) n x y->aH H H'->H' t=some (.tup [.int n,.ref p])->Dat K H' (t3D ⟨n,x,y⟩) (.ref p)->Q (.ref t) H')
theorem ok_sbl (T:aF K mg "step_below" jm) (rF:Def P w K mg base 3 "step_within" ["hull","bounds","n"] (spSw K)):Def P w K mg base 4 "step_below" ["regions","n"] (Cu K):=by
 refine aW T kN (λ_ _ _ _ _ _=>L2.ar2 λ_ _=>rfl) ?_ ?_
 ·walk_at "i1";obtain ⟨l,us,N,rs,n,rfl,_⟩:=h;rfl
 walk_at "i2";obtain ⟨l,us,N,rs,n,rfl,el,al,ok,n0,n1,q1,q2⟩:=h;have nd:=kN.nd;have ll:=al.len
 refine ⟨_,(ae (eE PassesOwn.never rfl (bR (pv 0)) (qm rfl (bE (aV (i:=2) nd rfl (Or.inl rfl)) (bE (aV (i:=3) nd rfl (Or.inl rfl)) fD))) (ae (aG (i:=4) nd rfl (Or.inl rfl) (aI rF (hr.mono (by decide)) rfl (aa (pv 2) (aa (pv 3) (aa (pv 1) ah)))))
  (aq (aJ (au zL (pv 4) cI (aC _)) (aq (aD (pv 4))) av))))
  (aq (aD cI))),?_⟩
 refine ⟨_,rfl,_,rfl,⟨us,SqL.of el⟩,?_⟩;refine fF (xs:=us) (λi σ H'=>aH H H'/\∃(o2 o3 o4:Option V),σ=[some (.ref l),some (.int n),o2,o3,o4]/\∀ r∈rs.take i,∀ x y,r.Col n x->0<=y->y<=n->¬Kept r.bs n x y) ⟨aH.refl _,_,_,_,rfl,λr hr=>by simp at hr⟩ (λi σ H' _ z=>SqL.of (z.1 _ _ el)) (λi v σ H' hv z=>?_) (λσ H' z=>?_)
 ·obtain ⟨s1,o2,o3,o4,rfl,iv⟩:=z;obtain ⟨r,hri,rv⟩:=al.get i v hv;have rm:=List.mem_of_getElem? hri;obtain ⟨t,lh,lb,hs,ws,rfl,st,_,_,eh,dh,eb,db⟩:=rv.to s1;obtain ⟨k1,k2,k3,k4⟩:=ok r rm;refine ⟨t,_,rfl,st,rfl,_,_,rfl,_,_,rfl,rfl,?_⟩;refine ⟨_,rfl,_,rfl,_,rfl,lh,lb,hs,ws,r.h,r.bs,n,rfl,eh,dh,k1,k2,k3,eb,db,k4,n0,n1,λx y y0 y1 k t2 H2 s2 d2=>?_,λno H2 s2=>?_⟩
  ·refine ⟨_,rfl,rfl,_,rfl,cj ?_⟩;exact ⟨_,rfl,q1 r rm x y y0 y1 k t2 _ (s1.trans s2) d2⟩
  ·refine ⟨_,rfl,rfl,_,rfl,aT ?_⟩;refine ⟨s1.trans s2,_,_,_,rfl,λr' hr'=>?_⟩;rw [List.take_add_one,hri] at hr';rcases List.mem_append.mp hr' with z | z
   ·exact iv r' z
   ·rw [show r'=r by simpa using z];exact λx y cl=>no x y cl.1 cl.2
 ·obtain ⟨s1,o2,o3,o4,rfl,iv⟩:=z;rw [ll,List.take_length] at iv;exact q2 iv _ s1
theorem SB.ts {D:Addr} {H H':Hp} {ws:List V} (e:SB (.ref D) H H') (h:H D=some (.lst ws)):Tst H H':=by
 constructor
 ·intro b xs hb;refine e b _ hb λz=>?_;cases z
  rw [h] at hb;cases hb
 ·intro b o u hb;refine e b _ hb λz=>?_;cases z
  rw [h] at hb;cases hb
theorem rg_ok {X:Hu.Tc} {L:List (List T3)} {rows:List Hu.Row} (sm:X.Sm 8) (dp:X.deep<=8) (eL:X.told Hu.sqH=some L) {g:List T3} (hg:g∈L):(∀ p∈g,Hu.R3 3000 p)/\(3<=g.length/\g.length<=12/\Hu.oQ g)/\∀{r:T3},Hu.R3 100 r->Rg.Ok ⟨g,yA g r⟩:=by
 obtain ⟨hk,gl⟩:=Hu.Tc.gU (Hu.xF (by decide)) sm eL g hg;have cn:=Hu.Tc.told_cone Hu.jz (sm.mono (by decide)) eL g hg;have n3:=hk.n3;have gl:g.length<=4+X.deep:=gl;have nar:∀ p∈g,Nar p:=λp hp=>⟨(hk.ok p hp).n0,Int.lt_trans (hk.ok p hp).n1 (by decide),(Hu.kH (cn p hp)).1,(Hu.kH (cn p hp)).2.1⟩;refine ⟨λp hp=>(hk.ok p hp).r.mono (by decide),⟨n3,by omega,hk.tri⟩,λ{r} br=>⟨nar,by show 0 < g.length;omega,by show g.length<=100;omega,λq hq=>?_⟩⟩;rcases List.mem_append.mp hq with z | z
 ·obtain ⟨i,_,rfl⟩:=List.mem_map.mp z;have h1:=hk.cok i;have h2:=hk.cok (i+1)
  have mb:∀{a b c d:Int},0<=a->a < 2 ^ 18->0<=b->b < 2 ^ 18->0<=c->c < 2 ^ 18->0<=d->d < 2 ^ 18->(a*b - c*d).natAbs < 2 ^ 200:=λ{a b c d} a0 a1 b0 b1 c0 c1 d0 d1=>by
   have e1:=Int.mul_le_mul (Int.le_of_lt a1) (Int.le_of_lt b1) b0 (by decide);have e2:=Int.mul_le_mul (Int.le_of_lt c1) (Int.le_of_lt d1) d0 (by decide);have e3:=Int.mul_nonneg a0 b0;have e4:=Int.mul_nonneg c0 d0;exact Nat.lt_of_lt_of_le (show (a*b - c*d).natAbs < 2 ^ 40 by omega) (by decide)
  have u1:=Int.le_of_lt h1.n0;have u2:=Int.le_of_lt h2.n0;exact ⟨mb h1.y0 h1.y1 u2 h2.n1 u1 h1.n1 h2.y0 h2.y1,mb u1 h1.n1 h2.x0 h2.x1 h1.x0 h1.x1 u2 h2.n1,mb h1.x0 h1.x1 h2.y0 h2.y1 h1.y0 h1.y1 h2.x0 h2.x1,(by show (0:Int).natAbs < _;decide)⟩
 ·rw [List.mem_singleton.mp z];have k:(2:Nat) ^ 100+1 < 2 ^ 200:=by decide
  have ka:=br.a;have kb:=br.b;have kc:=br.c;refine ⟨?_,?_,?_,?_⟩
  ·show (-r.u).natAbs < _;omega
  ·show (-r.v).natAbs < _;omega
  ·show (1 - r.w).natAbs < _;omega
  ·show (1:Int).natAbs < _;decide
theorem ok_rbl {CN:Addr} (T:aF K mg "regions_below" cA) (sV:mg "any"=none) (eA:Def P w K mg base 3 "rows_of" ["saying"] (iP c)) (fY:Def P w K mg base 14 "cutting" ["saying"] (pA c K)) (cZ:cy P w K mg base 4 "hulls_of" ["tree"] (kq K CN)) (dw:Def P w K mg base 4 "rules_of_rows" ["rows","hull"] (pw K)) (jh:Def P w K mg base 1 "told_by" ["rule","point"] (spTl K)) (xp:Def P w K mg base 2 "bounds_of" ["hull","rule"] (CH K)):Def P w K mg base 16 "regions_below" ["saying"] (spRbl c K):=by
 refine aW T dS (λ_ _ _ _ _ _=>L2.ar1 λ_=>rfl) ?_ ?_
 ·walk_at "i1";obtain ⟨x,a,rfl,_⟩:=h;rfl
 walk_at "i2";obtain ⟨x,a,rfl,oa,sz,n8,q⟩:=h;have nd:=dS.nd;have R:=sj a;have fd:=R.fd;have ln:=R.len
 refine ⟨_,(ae (aG (i:=1) nd rfl (Or.inl rfl) (aI eA (hr.mono (by omega)) rfl (aa (pv 0) ah)))
  (ae (aG (i:=2) nd rfl (Or.inl rfl) (bO ah))
  (ae (eE PassesOwn.never rfl (bR (pD cZ (hr.mono (by omega)) rfl (aa (aI fY (hr.mono (by omega)) rfl (aa (pv 0) ah)) ah))) (aV (i:=3) nd rfl (Or.inl rfl)) (ae (aG (i:=4) nd rfl (Or.inr rfl) (aK bY (aK aL (aI dw (hr.mono (by omega)) rfl (aa (pv 1) (aa (pv 3) ah))) ao (λ_ _=>rfl)) (oz jI ao) (λ_ _=>rfl)))
  (aq (aJ (iH (aN (wU rfl) rfl sV (by decide+kernel) (aa (fE rfl (bR (pv 3)) rfl (by decide+kernel) (by decide+kernel) rfl (show ∀ p∈Scope.names _,p.2=NameKind.free->List.lookup p.1 (ak cA).names=some .cell\/List.lookup p.1 (ak cA).names=some .free by decide+kernel) (dX (j:=4) rfl (Or.inl rfl) (by decide+kernel) (Or.inl rfl) dC) (show (["corner","rule"]:List Str).Nodup by decide+kernel) (λ_ _ _ _=>gv) (λ_ _ _ _=>(gw oA (aI jh (hr.mono (by decide)) rfl (aa (pv 1) (aa (pv 0) ah))) (aK (gY (K:=K) rfl) (pv 0) ao (λ_ _=>rfl)) (aC _)))) ah))) (aq (aZ (dP PySem.F.plainAttrs_list PySem.F.slot_list_append PySem.F.type_list_append bA (pv 2) (so (bB (aa (pv 3) (aa (aI xp (hr.mono (by decide)) rfl (aa (pv 3) (aa (pv 4) ah))) ah))) ah)))) av))))
  (aq (aD (pv 2)))))),?_⟩
 refine ⟨_,rfl,x,a,rfl,oa,by omega,λlr rws H1 s1 hlr er alr=>?_⟩;refine ⟨(by show 0<=sizeLine;decide),λD hD=>?_⟩;have uD:=az hD (.lst []);have s1D:=s1.trans uD;have nr:lr≠D:=aA er hD;refine ⟨_,rfl,x,a,rfl,oa.to (Kp.of s1D),sz,n8,λvt X H2 s2 dt sm dp cu gd=>?_⟩;obtain ⟨L,eL,kL⟩:=gd;have kL:∀ g∈L,∃ rs,Hu.run g (bG a) []=.rules rs:=λg hg=>kL g hg _ List.mem_cons_self;have eD2:=s2 _ _ af;refine ⟨vt,X,rfl,dt,sm.mono (by decide),by omega,λnn=>absurd (eL.symm.trans nn) (λz=>by cases z),λL' eL' l us H3 s3 hl el al=>?_⟩;rw [eL] at eL';cases eL'
 have eD3:=s3 _ _ eD2;have er3:=(s2.trans s3) _ _ (uD _ _ er);have nl:l≠D:=λz=>by rw [z,eD2] at hl;cases hl
 have dr3:=(R.dat (K:=K) alr).ts (uD.trans (s2.trans s3)).ts;have lu:=al.len;refine ⟨l,rfl,⟨us,SqL.of el⟩,?_⟩;refine fF (xs:=us) (λi σ H'=>SB (.ref D) H3 H'/\∃(ws:List V) (o3 o4:Option V),σ=[some (.ref x),some (.ref lr),some (.ref D),o3,o4]/\H' D=some (.lst ws)/\cg (RgV K (·≠D) H') ws (rgs (bG a) (L.take i))/\∀ r∈rgs (bG a) (L.take i),r.Ok) ⟨SB.refl _ _,[],_,_,rfl,eD3,.nil,λr hr=>by simp [rgs] at hr⟩ (λi σ H' _ z=>SqL.of (z.1 _ _ el (λz=>nl (V.ref.inj z)))) (λi v σ H' hv z=>?_) (λσ H' z=>?_)
 ·obtain ⟨s4,ws,o3,o4,rfl,eD4,aw,okw⟩:=z;obtain ⟨g,hgi,ga,gus,rfl,⟨gn,_⟩,eg,dg⟩:=al.at hv;have gm:=List.mem_of_getElem? hgi;have ng:ga≠D:=λz=>by rw [z,eD2] at gn;cases gn
  have ts4:=s4.ts eD3;have eg4:=s4 _ _ eg (λz=>ng (V.ref.inj z));have dg4:=dg.ts ts4;obtain ⟨rs,hrs⟩:=kL g gm;obtain ⟨g1,g2,g3⟩:=rg_ok (rows:=bG a) sm dp eL gm;refine ⟨_,rfl,_,rfl,lr,ga,rws,gus,bG a,g,rfl,s4 _ _ er3 (λz=>nr (V.ref.inj z)),dr3.ts ts4,R.ok,R.pos,by omega,eg4,dg4,g1,by omega,by omega,λrs' t lt tws H5 s5 ru rb rl f5 st e5 d5=>?_,λk tt t v H5 s5 mx=>?_⟩
  rotate_left
  ·rw [hrs] at mx;cases mx
  rw [hrs] at ru;cases ru
  have rp:0 < rs.length:=by have:=R.pos;omega
  have tl:=fS d5
  have hl1:rs[rs.length - 1]?=some (ruR (bG a) g):=by
   unfold ruR;rw [hrs];show _=some (rs.getLastD Hu.z0);rw [List.getLastD_eq_getLast?,List.getLast?_eq_getElem?,List.getElem?_eq_getElem (by omega)];rfl
  obtain ⟨vr,hvr⟩:∃ vr,tws[tws.length - 1]?=some vr:=⟨_,List.getElem?_eq_getElem (by omega)⟩;obtain ⟨r',hr',dr'⟩:=jJ d5 hvr;rw [tl,hl1] at hr';cases hr'
  have br:Hu.R3 100 (ruR (bG a) g):=(rb _ _ hl1).mono (by omega);refine ⟨_,_,_,_,rfl,rfl,st,rfl,_,rfl,_,_,_,_,rfl,rfl,SqL.of e5,(sS (by omega)).trans hvr,?_⟩;have eg5:=s5 _ _ eg4;have ag:=uF (dg4.ts s5.ts);have gl:=fS dg4;dsimp only [ip,tIfS,tB,tCB,dN,jE];refine comp_map (K:=K) (xs:=gus) (ts:=g) (R:=λH v c=>Dat K H (t3D c) v/\Dat K H (t3D (ruR (bG a) g)) vr) (λc=>V.bl (decide (Hu.tl (ruR (bG a) g) c < c.u))) (λH H' v t s z=>⟨z.1.ts s.ts,z.2.ts s.ts⟩) (λl' H'=>l'=ga/\H'=H5) (λR k=>⟨_,rfl,ga,rfl,⟨_,SqL.of eg5⟩,k ga H5 ⟨rfl,rfl⟩⟩) (λl' H' z=>by obtain ⟨rfl,rfl⟩:=z;exact ⟨eg5,aH.refl _⟩) (by omega) (ag.imp λv c z=>⟨z,dr'⟩) (λv c H6 N hc rv hN=>?_) (λD6 H6 s6 hD6 e6=>?_)
  ·obtain ⟨dv,dr6⟩:=rv;obtain ⟨ca,rfl,sc⟩:=fO dv;exact ⟨_,rfl,_,rfl,_,_,_,_,rfl,dr6,dv,br.mono (by decide),g1 c hc,_,rfl,_,_,_,_,rfl,rfl,sc,bS (j:=0) rfl,_,_,rfl,rfl,hN _ (aH.refl _)⟩
  have s46:=s5.trans s6;have tk:L.take (i+1)=L.take i++[g]:=by rw [List.take_add_one,hgi];rfl
  have eb:(g.map λc=>decide (Hu.tl (ruR (bG a) g) c < c.u)).any id=blw (bG a) g:=by unfold blw;rw [List.any_map];rfl
  refine ⟨D6,g.map λc=>decide (Hu.tl (ruR (bG a) g) c < c.u),rfl,SqL.of (by rw [e6,List.map_map];rfl),_,rfl,?_⟩;rw [eb];refine gG (λcc=>?_) (λcc=>?_)
  ·have rg:rgs (bG a) (L.take (i+1))=rgs (bG a) (L.take i)++[⟨g,yA g (ruR (bG a) g)⟩]:=by
    unfold rgs;rw [tk,List.filter_append,List.map_append,List.filter_cons,if_pos cc];rfl
   have eD6:=s46 _ _ eD4;refine ⟨_,rfl,.inl ⟨rfl,_,SqL.of eD6⟩,?_⟩;refine ⟨_,rfl,_,rfl,_,rfl,ga,vr,gus,g,ruR (bG a) g,rfl,s6 _ _ eg5,dg4.ts s46.ts,dr'.ts s6.ts,g1,by omega,by omega,λlb bws H7 s7 nb eb7 db7=>?_⟩;refine ⟨(by show 2<=sizeLine;decide),λt8 ht8=>?_⟩;have u8:=az ht8 (.tup [.ref ga,.ref lb]);have s68:=s7.trans u8;have eD8:=s68 _ _ eD6;have nlb:lb≠D:=λz=>by rw [z,eD6] at nb;cases nb
   refine ⟨D,ws,.ref t8,rfl,rfl,eD8,?_,?_⟩
   ·have h1:=aw.len
    have h2:(rgs (bG a) (L.take i)).length<=L.length:=by
     unfold rgs;rw [List.length_map];exact Nat.le_trans (List.length_filter_le _ _) (by rw [List.length_take];omega)
    have h3:=fP eL;exact Nat.lt_of_le_of_lt (show ws.length<=2 ^ 8 by omega) (by decide)
   have t9:Tst (upd H7 t8 (.tup [.ref ga,.ref lb])) (upd (upd H7 t8 (.tup [.ref ga,.ref lb])) D (.lst (ws++[.ref t8]))):=dM eD8;refine ⟨(s4.trans (SB.of (s46.trans s68))).trans (jO _ _),ws++[.ref t8],_,_,rfl,af,?_,?_⟩
   ·rw [rg];refine cg.app ?_ (.cons (RgV.mut eD8 ⟨t8,ga,lb,gus,bws,rfl,SqT.of af,ng,nlb,(s6.trans s68) _ _ eg5,dg4.ts (s46.trans s68).ts,u8 _ _ eb7,db7.ts u8.ts⟩) .nil);exact aw.imp λv r z=>RgV.mut eD8 (z.to (s46.trans s68))
   ·rw [rg];intro r hr;rcases List.mem_append.mp hr with z | z
    ·exact okw r z
    ·rw [List.mem_singleton.mp z];exact (g3 br)
  ·have rg:rgs (bG a) (L.take (i+1))=rgs (bG a) (L.take i):=by
    unfold rgs;rw [tk,List.filter_append,List.map_append,List.filter_cons,if_neg cc];simp
   refine ⟨s4.trans (SB.of s46),ws,_,_,rfl,s46 _ _ eD4,?_,?_⟩
   ·rw [rg];exact aw.imp λv r z=>z.to s46
   ·rw [rg];exact okw
 ·obtain ⟨s4,ws,o3,o4,rfl,eD4,aw,okw⟩:=z;rw [lu,List.take_length] at aw okw;refine ⟨_,rfl,q D ws X L _ ?_ eD4 aw okw sm eL kL⟩;intro b o hb;exact s4 _ _ ((s1D.trans (s2.trans s3)) _ _ hb) λz=>by cases z;rw [s1.free hD] at hb;cases hb
theorem rg_met {X:Hu.Tc} {L:List (List T3)} {rows:List Hu.Row} (sm:X.Sm 8) (eL:X.told Hu.sqH=some L) (ne:rgs rows L≠[]):∃(N x y:Int) (r:Rg),r∈rgs rows L/\1<=N/\N < 2 ^ 24/\r.Col N x/\0<=y/\y<=N/\Kept r.bs N x y:=by
 obtain ⟨r,hr⟩:=List.exists_mem_of_ne_nil _ ne;obtain ⟨g,hg,rfl⟩:=List.mem_map.mp hr;obtain ⟨gm,bl⟩:=List.mem_filter.mp hg;obtain ⟨p,hp,lt⟩:=List.any_eq_true.mp bl;have lt:=of_decide_eq_true lt;obtain ⟨hk,gl⟩:=Hu.Tc.gU (Hu.xF (by decide)) sm eL g gm;have cn:=Hu.kH (Hu.Tc.told_cone Hu.jz (sm.mono (by decide)) eL g gm p hp);have p0:=(hk.ok p hp).n0;refine ⟨p.u,p.v,p.w,_,hr,by omega,Int.lt_trans (hk.ok p hp).n1 (by decide),⟨⟨p,hp,(tI p0).mpr (Int.le_of_eq (Int.mul_comm _ _))⟩,p,hp,?_⟩,cn.2.2.1,cn.2.2.2,(BH _ _ _ _ _).mpr ⟨Hu.ins_cor hk.tri hk.n3 hp,lt⟩⟩;rw [Int.mul_fdiv_cancel _ (by omega)];exact Int.le_refl _
theorem ok_fst (T:aF K mg "fewest_steps" fj) (gQ:Def P w K mg base 16 "regions_below" ["saying"] (spRbl c K)) (mQ:Def P w K mg base 4 "step_below" ["regions","n"] (Cu K)):Def P w K mg base 17 "fewest_steps" ["saying"] (spFst c K):=by
 refine aW T eU (λ_ _ _ _ _ _=>L2.ar1 λ_=>rfl) ?_ ?_
 ·walk_at "i1";obtain ⟨x,a,rfl,_⟩:=h;rfl
 walk_at "i2";obtain ⟨x,a,rfl,oa,sz,n8,q⟩:=h;have nd:=eU.nd;have hu:=hr.units
 refine ⟨_,(ae (aG (i:=1) nd rfl (Or.inl rfl) (aI gQ (hr.mono (by decide)) rfl (aa (pv 0) ah)))
  (ae (aJ (au (DA hu) (pv 1) (bO ah) (aC _)) (aq (aD cI)) av)
  (ae (aG (i:=2) nd rfl (Or.inl rfl) ao)
  (ae (aG (i:=3) nd rfl (Or.inl rfl) (aI mQ (hr.mono (by decide)) rfl (aa (pv 1) (aa (pv 2) ah))))
  (ae (mr PassesOwn.never (au nH (pv 3) cI (aC _)) (ae (ps_aug (i:=2) nd rfl (Or.inl rfl) ao ip_add)
  (aq (aG (i:=3) nd rfl (Or.inl rfl) (aI mQ (hr.mono (by decide)) rfl (aa (pv 1) (aa (pv 2) ah)))))))
  (aq (aD (bB (aa (pv 2) (aa (pv 3) ah)))))))))),?_⟩
 refine ⟨_,rfl,x,a,rfl,oa,sz,n8,λD us X L H1 s1 eD al ok sm eL kL=>?_⟩;obtain ⟨q1,q2⟩:=q X L sm eL kL;have ul:=al.len;have met:=rg_met (rows:=bG a) sm eL;generalize rgs (bG a) L=rs at *;refine ⟨_,rfl,(by show 0<=sizeLine;decide),λp0 hp0=>?_⟩;have u0:=az hp0 (.lst []);refine ⟨D,p0,us,[],rfl,rfl,SqL.of (u0 _ _ eD),SqL.of af,?_⟩
 by_cases er:rs=[]
 ·refine .inl ⟨?_,λv hv=>?_,_,rfl,cj (q1 er _ (s1.trans u0))⟩
  ·subst er;exact List.eq_nil_of_length_eq_zero ul
  ·subst er;rw [List.eq_nil_of_length_eq_zero ul] at hv;cases hv
 refine .inr ⟨?_,_,rfl,aT ?_⟩
 ·rw [ul];intro z;exact er (List.eq_nil_of_length_eq_zero z)
 obtain ⟨N,X0,Y0,r0,hr0,N1,N2,col,Y1,Y2,kp⟩:=met er;have s1:=s1.trans u0;have eD:=u0 _ _ eD;have al:=al.imp λv r z=>RgV.to u0 z
 have step:∀(n:Int) (H':Hp) (M:VK),1<=n->n<=N->aH (upd H1 p0 (.lst [])) H'->(∀ m,1<=m->m < n->∀ r∈rs,∀ x y,r.Col m x->0<=y->y<=m->¬Kept r.bs m x y)->
   (∀(v:V) (H'':Hp),aH (upd H1 p0 (.lst [])) H''->((v=.non/\n < N/\∀ m,1<=m->m < n+1->∀ r∈rs,∀ x y,r.Col m x->0<=y->y<=m->¬Kept r.bs m x y)\/∃ t x y,v=.ref t/\Dat K H'' (t3D ⟨n,x,y⟩) v/\Few rs n x y)->M v H'')->Cu K [.ref D,.int n] H' M E0:=λn H' M n1 nN s4 iv k=>by
  refine ⟨D,us,_,rs,n,rfl,s4 _ _ eD,al.imp λv r z=>RgV.to s4 z,ok,by omega,by omega,λr hr x y y0 y1 kk t H5 s5 d5=>?_,λno H5 s5=>?_⟩
  ·exact k _ _ (s4.trans s5) (.inr ⟨t,x,y,rfl,d5,⟨n1,y0,y1,⟨r,hr,kk⟩,iv⟩⟩)
  ·refine k _ _ (s4.trans s5) (.inl ⟨rfl,?_,λm m1 m2 r hr x y cl y0 y1=>?_⟩)
   ·rcases Int.lt_or_le n N with z | z
    ·exact z
    ·have e:n=N:=by omega
     subst e;exact absurd kp (no r0 hr0 _ _ col Y1 Y2)
   ·rcases Int.lt_or_le m n with z | z
    ·exact iv m m1 z r hr x y cl y0 y1
    ·have e:m=n:=by omega
     subst e;exact no r hr x y cl y0 y1
 refine ⟨_,rfl,_,rfl,?_⟩;dsimp only [jE,List.cons_append,List.nil_append];refine (step 1 _ _ (by omega) N1 (aH.refl _) (λm m1 m2=>by omega) λv H4 s4 hv=>?_);refine ⟨λm σ H'=>aH (upd H1 p0 (.lst [])) H'/\∃(n:Int) (v:V),m=(N - n).toNat/\σ=[some (.ref x),some (.ref D),some (.int n),some v]/\1<=n/\n<=N/\((v=.non/\n < N/\∀ m,1<=m->m < n+1->∀ r∈rs,∀ x y,r.Col m x->0<=y->y<=m->¬Kept r.bs m x y)\/∃ t x y,v=.ref t/\Dat K H' (t3D ⟨n,x,y⟩) v/\Few rs n x y),⟨_,s4,1,v,rfl,rfl,by omega,N1,hv⟩,?_⟩;rintro m σ H' ⟨s5,n,v,rfl,rfl,n1,nN,iv⟩
 refine ⟨_,rfl,rfl,_,rfl,?_⟩;rcases iv with ⟨rfl,lt,no⟩ | ⟨t,X1,Y3,rfl,d5,few⟩
 ·refine cj ⟨_,λσ' H' z=>z,?_⟩;refine ⟨_,rfl,_,_,rfl,rfl,_,rfl,_,rfl,?_⟩;dsimp only [jE,List.cons_append,List.nil_append];refine (step (n+1) _ _ (by omega) (by omega) s5 no λv H6 s6 hv=>?_);exact ⟨_,by omega,s6,n+1,v,rfl,rfl,by omega,by omega,hv⟩
 ·refine aT ?_;refine ⟨_,rfl,_,rfl,(by show 2<=sizeLine;decide),λt6 ht6=>?_⟩;have u6:=az ht6 (.tup [.int n,.ref t]);exact q2 n X1 Y3 t6 t _ few ((s1.trans s5).trans u6) af (d5.ts u6.ts)
end Mine
namespace L2
open PySem PySem.Spec PyProof.Rows
def tForD (wi:TI):TS:=λ_ σ H=>wi σ H λ_ _=>False
theorem ps_forD {X:Cx} {tg:Expr} {iter:Expr} {body:List Stmt} {wi:TI} {pos:Pos} (hi:PI X tg iter wi) (hs:∀ x,foldedSetIterable iter X.env x=pure x:=by intro _;rfl):PS X (.For tg iter body [] pos) (tForD wi):=by
 intro pins s σ H D I h;refine wpAny_For (thn (hi pins s σ H _ I h) λv s1 h1=>thn h1 λitv s2 h2=>?_) hs;obtain ⟨it,fp,tn,J,H2,e,I2,T,st2,f2,z⟩:=h2;exact z.elim
end L2
namespace Mine
open PySem L2
def bN (c:CCs) (C:Addr):Sp:=λvs H _ E=>∃(a:Addr) (t:Tr),vs=[.ref a]/\Ob c H a t/\t.size<=900/\8 < t.nf/\∀ H',aH H H'->E (.ref C) none H'
def kr (c:CCs) (C:Addr) (k:Nat):Sp:=λvs H _ E=>∃(x y:Addr) (a b:Tr),vs=[.ref x,.ref y]/\Ob c H x a/\Ob c H y b/\a.size+b.size<=800/\k < a.nf+b.nf/\∀ H',aH H H'->E (.ref C) none H'
variable {P:Program} {w:World} {K:W.Frag} {mg:Str->Option Value} {base:Heap} {c:CCs}
theorem ok_fewX {tm:Tok} {aX:Addr} (T:aF K mg "must_be_few" fZ) (jx:mg "MOST_FOLDS"=some (.int 8 tm)) (nW:mg "TooMany"=some (.ref aX)) (BK:PySem.W.excIn K aX bmV "ValueError.__new__"=true):cy P w K mg base 1 "must_be_few" ["folds"] (pR aX):=by
 refine dG T fh (λ_ _ _ _ _ _=>L2.ar1 λ_=>rfl) ?_ ?_
 ·walk_at "i1";obtain ⟨i,rfl,_⟩:=h;rfl
 walk_at "i2";obtain ⟨i,rfl,hi,k⟩:=h;have nd:=fh.nd;refine ⟨_,(aq (aJ (au qq (pv 0) (bV (v:=V.int 8) rfl jx ⟨_,rfl⟩) (aC _)) (aq (vO rfl nW BK (aa aR ah))) av)),?_⟩;refine ⟨_,rfl,_,_,rfl,rfl,_,rfl,gG (λ_=>?_) (λc=>absurd (decide_eq_true hi) c)⟩;exact ⟨by decide,k _ (aH.refl _)⟩
theorem vY {aX:Addr} (T:aF K mg "cutting" ky) (M:∀ t,aQ P w K mg base (c.of t) "folds" 3 ["self"] (eJ c t)) (aY:cy P w K mg base 1 "must_be_few" ["folds"] (pR aX)):cy P w K mg base 14 "cutting" ["saying"] (bN c aX):=by
 refine dG T jk (λ_ _ _ _ _ _=>L2.ar1 λ_=>rfl) ?_ ?_
 ·walk_at "i1";obtain ⟨a,t,rfl,_⟩:=h;rfl
 walk_at "i2";obtain ⟨a,t,rfl,oa,sz,nf8,k⟩:=h;have nd:=jk.nd;obtain ⟨dx,fs,ea,nf⟩:=oa.cls;refine ⟨_,ae (aZ (bX aY (hr.mono (by omega)) rfl (aa (bF (k:=3) (pv 0) (hr.mono (by omega))) ah))) (show PSs _ _ aO from λ_ _ _ _ _ _ h=>h.elim),?_⟩;exact ⟨_,rfl,a,_,_,_,_,_,rfl,ea,nf _ (by decide+kernel),M t,a,rfl,oa,by omega,λH1 s1=>⟨_,rfl,by omega,λH2 s2=>k H2 (s1.trans s2)⟩⟩
theorem ok_lwX {C:Addr} (T:aF K mg "least_worth" gf) (fY:cy P w K mg base 14 "cutting" ["saying"] (bN c C)):cy P w K mg base 15 "least_worth" ["saying"] (bN c C):=by
 refine dG T fi (λ_ _ _ _ _ _=>L2.ar1 λ_=>rfl) ?_ ?_
 ·walk_at "i1";obtain ⟨a,t,rfl,_⟩:=h;rfl
 walk_at "i2";obtain ⟨a,t,rfl,oa,sz,nf8,k⟩:=h;have nd:=fi.nd;refine ⟨_,ae (aG (i:=1) nd rfl (Or.inl rfl) (bX fY (hr.mono (by omega)) rfl (aa (pv 0) ah))) (show PSs _ _ aO from λ_ _ _ _ _ _ h=>h.elim),?_⟩;exact ⟨_,rfl,a,t,rfl,oa,sz,nf8,k⟩
theorem ok_alwX {C:Addr} (T:aF K mg "always" mj) (cJ:cy P w K mg base 15 "least_worth" ["saying"] (bN c C)):cy P w K mg base 16 "always" ["saying"] (bN c C):=by
 refine dG T ku (λ_ _ _ _ _ _=>L2.ar1 λ_=>rfl) ?_ ?_
 ·walk_at "i1";obtain ⟨a,t,rfl,_⟩:=h;rfl
 walk_at "i2";obtain ⟨a,t,rfl,oa,sz,nf8,k⟩:=h;have nd:=ku.nd;refine ⟨_,ae (aG (i:=1) nd rfl (Or.inl rfl) (bX cJ (hr.mono (by omega)) rfl (aa (pv 0) ah))) (show PSs _ _ aO from λ_ _ _ _ _ _ h=>h.elim),?_⟩;exact ⟨_,rfl,a,t,rfl,oa,sz,nf8,k⟩
theorem ok_rblX {C CN:Addr} (T:aF K mg "regions_below" cA) (eA:Def P w K mg base 3 "rows_of" ["saying"] (iP c)) (cZ:cy P w K mg base 4 "hulls_of" ["tree"] (kq K CN)) (fY:cy P w K mg base 14 "cutting" ["saying"] (bN c C)):cy P w K mg base 15 "regions_below" ["saying"] (bN c C):=by
 refine dG T dS (λ_ _ _ _ _ _=>L2.ar1 λ_=>rfl) ?_ ?_
 ·walk_at "i1";obtain ⟨a,t,rfl,_⟩:=h;rfl
 walk_at "i2";obtain ⟨a,t,rfl,oa,sz,nf8,k⟩:=h;have nd:=dS.nd;refine ⟨_,ae (aG (i:=1) nd rfl (Or.inl rfl) (aI eA (hr.mono (by omega)) rfl (aa (pv 0) ah))) (ae (aG (i:=2) nd rfl (Or.inl rfl) (bO ah)) (ae (ps_forD (bR (bX cZ (hr.mono (by omega)) rfl (aa (bX fY (hr.mono (by omega)) rfl (aa (pv 0) ah)) ah)))) (show PSs _ _ aO from λ_ _ _ _ _ _ h=>h.elim))),?_⟩;refine ⟨_,rfl,a,t,rfl,oa,by omega,λlr ws H1 s1 _ _ _=>?_⟩;refine ⟨(by show 0<=sizeLine;decide),λD hD=>?_⟩;have u:=az hD (.lst []);exact ⟨_,rfl,a,t,rfl,oa.to (Kp.of (s1.trans u)),sz,nf8,λH2 s2=>k H2 ((s1.trans u).trans s2)⟩
theorem ok_fstX {C:Addr} (T:aF K mg "fewest_steps" fj) (gQ:cy P w K mg base 15 "regions_below" ["saying"] (bN c C)):cy P w K mg base 16 "fewest_steps" ["saying"] (bN c C):=by
 refine dG T eU (λ_ _ _ _ _ _=>L2.ar1 λ_=>rfl) ?_ ?_
 ·walk_at "i1";obtain ⟨a,t,rfl,_⟩:=h;rfl
 walk_at "i2";obtain ⟨a,t,rfl,oa,sz,nf8,k⟩:=h;have nd:=eU.nd;refine ⟨_,ae (aG (i:=1) nd rfl (Or.inl rfl) (bX gQ (hr.mono (by omega)) rfl (aa (pv 0) ah))) (show PSs _ _ aO from λ_ _ _ _ _ _ h=>h.elim),?_⟩;exact ⟨_,rfl,a,t,rfl,oa,sz,nf8,k⟩
theorem ok_cfbX {aX:Addr} (T:aF K mg "cutting_for_both" cU) (GF:∀ t,aQ P w K mg base (c.of t) "folds" 3 ["self"] (eJ c t)) (aY:cy P w K mg base 1 "must_be_few" ["folds"] (pR aX)):cy P w K mg base 8 "cutting_for_both" ["one","other"] (kr c aX 8):=by
 refine dG T cL (λ_ _ _ _ _ _=>L2.ar2 λ_ _=>rfl) ?_ ?_
 ·walk_at "i1";obtain ⟨x,y,a,b,rfl,_⟩:=h;rfl
 walk_at "i2";obtain ⟨x,y,a,b,rfl,oa,ob,sz,n8,k⟩:=h;have nd:=cL.nd;obtain ⟨dx,fs,ea,nf⟩:=oa.cls;refine ⟨_,ae (aZ (bX aY (hr.mono (by omega)) rfl (aa (aP dB (bF (k:=3) (pv 0) (hr.mono (by omega))) (bF (k:=3) (pv 1) (hr.mono (by omega)))) ah))) (show PSs _ _ aO from λ_ _ _ _ _ _ h=>h.elim),?_⟩;refine ⟨_,rfl,x,_,_,_,_,_,rfl,ea,nf _ (by decide+kernel),GF a,x,rfl,oa,by omega,λH1 s1=>?_⟩;have ob1:=ob.to (Kp.of s1);obtain ⟨dy,fy,ey,ny⟩:=ob1.cls;exact ⟨_,rfl,y,_,_,_,_,_,rfl,ey,ny _ (by decide+kernel),GF b,y,rfl,ob1,by omega,λH2 s2=>⟨_,_,rfl,rfl,_,rfl,by omega,λH3 s3=>k H3 ((s1.trans s2).trans s3)⟩⟩
theorem Ba {C:Addr} (T:aF K mg "alike" pC) (fc:cy P w K mg base 8 "cutting_for_both" ["one","other"] (kr c C 8)):cy P w K mg base 9 "alike" ["one","other"] (kr c C 8):=by
 refine dG T ma (λ_ _ _ _ _ _=>L2.ar2 λ_ _=>rfl) ?_ ?_
 ·walk_at "i1";obtain ⟨x,y,a,b,rfl,_⟩:=h;rfl
 walk_at "i2";obtain ⟨x,y,a,b,rfl,oa,ob,sz,n8,k⟩:=h;have nd:=ma.nd;refine ⟨_,ae (aG (i:=2) nd rfl (Or.inl rfl) (bX fc (hr.mono (by omega)) rfl (aa (pv 0) (aa (pv 1) ah)))) (show PSs _ _ aO from λ_ _ _ _ _ _ h=>h.elim),?_⟩;exact ⟨_,rfl,_,rfl,x,y,a,b,rfl,oa,ob,sz,n8,k⟩
theorem DL {C:Addr} (T:aF K mg "lack" tG) (iw:∀ u:W5,mL P w K mg base u.cls (c.fold u) 1 ["self","one","other"] (kj (c.fold u))) (cJ:cy P w K mg base 15 "least_worth" ["saying"] (bN c C)):cy P w K mg base 16 "lack" ["one","other"] (kr c C 7):=by
 refine dG T pB (λ_ _ _ _ _ _=>L2.ar2 λ_ _=>rfl) ?_ ?_
 ·walk_at "i1";obtain ⟨x,y,a,b,rfl,_⟩:=h;rfl
 walk_at "i2";obtain ⟨x,y,a,b,rfl,oa,ob,sz,n8,k⟩:=h;have nd:=pB.nd;have nf':=mv .leads a b;have sz':(Tr.fold .leads a b).size=a.size+b.size+1:=rfl;refine ⟨_,ae (aG (i:=2) nd rfl (Or.inl rfl) (bX cJ (hr.mono (by omega)) rfl (aa (kQ (iw .leads) (hr.mono (by omega)) rfl (aa (pv 0) (aa (pv 1) ah))) ah))) (show PSs _ _ aO from λ_ _ _ _ _ _ h=>h.elim),?_⟩;refine ⟨_,rfl,_,rfl,λz dz h1 h2 ne=>⟨z,dz,_,_,rfl,af,rfl,?_⟩⟩;have sm:=fT (C:=c.fold .leads) (fs:=lG (.ref x) (.ref y)) h1 h2 ne;exact ⟨z,.fold .leads a b,rfl,.fold af (oa.to (Kp.of sm)) (ob.to (Kp.of sm)),by omega,by omega,λH1 s1=>k H1 (sm.trans s1)⟩
def hbg (a b:Tr) (g:List T3):Bool:=match rl g a,rl g b with
 | some x,some y=>decide (x=y)
 | _,_=>false
def hb (a b:Tr) (t:Hu.Tc):Bool:=match t.told Hu.sqH with
 | none=>false
 | some L=>L.all (hbg a b)
theorem Bn {a b:Tr} {t:Hu.Tc} (h:cF (fu a b) t=none):hb a b t=false:=by
 unfold cF at h;unfold hb;cases e:t.told Hu.sqH with
 | none=>rfl
 | some L =>
  rw [e] at h;show L.all (hbg a b)=false;cases c:(L.map λg=>jc (Hu.run g (fu a b) [])).any id with
  | false =>
   have h:(cX (fu a b) L).map _=none:=h;rw [(bZ (fu a b) L).2 c] at h;cases h
  | true =>
   obtain ⟨g,hg,m⟩:=yB c;refine all_false hg ?_;rcases (iV a b).1.run g with ⟨out,x,y,e1,_⟩ | ⟨_,e2⟩
   ·rw [e1] at m;cases m
   ·unfold hbg;rcases e2 with z | z
    ·rw [z]
    ·rw [z];cases rl g a <;> rfl
theorem yk {a b:Tr} {t:Hu.Tc} {o:List (List T3×List T3)} (h:cF (fu a b) t=some o):∃ bs:List Bool,bs.length=o.length/\hb a b t=bs.all id/\∀(i:Nat) (p:List T3×List T3),o[i]?=some p->∃ x y,p.2[(a.putR []).2]?=some x/\p.2[(b.putR (a.putR []).1).2]?=some y/\bs[i]?=some (decide (x=y)):=by
 unfold cF at h;cases e:t.told Hu.sqH with
 | none=>rw [e] at h;cases h
 | some L =>
  rw [e] at h;have h:(cX (fu a b) L).map _=some o:=h;cases c:(L.map λg=>jc (Hu.run g (fu a b) [])).any id with
  | true=>rw [(bZ (fu a b) L).1 c] at h;cases h
  | false =>
   rw [(bZ (fu a b) L).2 c] at h;have h:L.zip (L.map λg=>iD (Hu.run g (fu a b) []))=o:=Option.some.inj h;subst h;refine ⟨L.map (hbg a b),by simp,?_,λi p hp=>?_⟩
   ·unfold hb;rw [e];show L.all (hbg a b)=_;rw [List.all_map];rfl
   ·rw [List.getElem?_zip_eq_some,List.getElem?_map] at hp;obtain ⟨hg,hp2⟩:=hp;rw [hg] at hp2;have e2:p.2=iD (Hu.run p.1 (fu a b) []):=(Option.some.inj hp2).symm;have nm:=no_mx c p.1 (List.mem_of_getElem? hg);rcases (iV a b).1.run p.1 with ⟨out,x,y,e1,x1,x2,y1,y2⟩ | ⟨⟨k,z,e1⟩,_⟩
    ·rw [e1] at e2;refine ⟨x,y,by rw [e2];exact x1,by rw [e2];exact y1,?_⟩;rw [List.getElem?_map,hg];show some (hbg a b p.1)=_;unfold hbg;rw [x2,y2]
    ·rw [e1] at nm;cases nm
theorem eqv_t3 (x y:T3):PyData.eqv (t3D x) (t3D y)=decide (x=y):=by
 have e:PyData.eqv (t3D x) (t3D y)=((x.u == y.u) && ((x.v == y.v) && ((x.w == y.w) && true))):=rfl;rw [e];clear e;cases x
 cases y
 rw [Bool.eq_iff_iff];simp [T3.mk.injEq]
theorem rN (x:T3):SeqAt.shaped (t3D x)=true:=rfl
def spRB (c:CCs):Sp:=λvs H Q _=>∃(x y:Addr) (a b:Tr),vs=[.ref x,.ref y]/\Ob c H x a/\Ob c H y b/\a.size+b.size<=900/\
 ∀(p lr:Addr) (us:List V) (H':Hp),aH H H'->H' p=some (.tup [.ref lr,.int ((a.putR []).2:Nat),.int ((b.putR (a.putR []).1).2:Nat)])->H' lr=some (.lst us)->cg (RwV H') us (mI a b)->Q (.ref p) H'
def spHB (c:CCs) (K:W.Frag):Sp:=λvs H Q _=>∃(x y:Addr) (z:V) (a b:Tr) (t:Hu.Tc),vs=[.ref x,.ref y,z]/\Ob c H x a/\Ob c H y b/\a.size+b.size<=60/\a.nf+b.nf<=8/\Dat K H (tcD t) z/\t.Sm 64/\t.deep<=12/\t.gZ<=600/\∀ H',aH H H'->Q (.bl (hb a b t)) H'
def spHBX (c:CCs) (C:Addr):Sp:=λvs H _ E=>∃(x y:Addr) (z:V) (a b:Tr),vs=[.ref x,.ref y,z]/\Ob c H x a/\Ob c H y b/\a.size+b.size<=900/\8 < a.nf+b.nf/\∀ H',aH H H'->E (.ref C) none H'
theorem ok_rb (T:aF K mg "rows_of_both" ig) (iw:∀ u:W5,mL P w K mg base u.cls (c.fold u) 1 ["self","one","other"] (kj (c.fold u))) (eA:Def P w K mg base 3 "rows_of" ["saying"] (iP c)):Def P w K mg base 4 "rows_of_both" ["one","other"] (spRB c):=by
 refine aW T jA (λ_ _ _ _ _ _=>L2.ar2 λ_ _=>rfl) ?_ ?_
 ·walk_at "i1";obtain ⟨x,y,a,b,rfl,_⟩:=h;rfl
 walk_at "i2";obtain ⟨x,y,a,b,rfl,oa,ob,sz,q⟩:=h;have nd:=jA.nd
 refine ⟨_,(ae (aG (i:=2) nd rfl (Or.inl rfl) (aI eA (hr.mono (by omega)) rfl (aa (kQ (iw .leads) (hr.mono (by omega)) rfl (aa (pv 0) (aa (pv 1) ah))) ah)))
  (ae (aG (i:=3) nd rfl (Or.inl rfl) (il PySem.F.plainAttrs_list PySem.F.slot_list_pop PySem.F.type_list_pop jt (pv 2)))
  (aq (aD (bB (aa (pv 2) (aa (aK aL (pv 3) ao (λ_ _=>rfl)) (aa (aK aL (pv 3) ao (λ_ _=>rfl)) ah)))))))),?_⟩
 refine ⟨_,rfl,_,rfl,λz dz hz hdz ne=>⟨z,dz,_,_,rfl,af,rfl,?_⟩⟩;have s1:=fT (C:=c.fold .leads) (fs:=lG (.ref x) (.ref y)) hz hdz ne;have oe:Ob c (upd (upd (upd H dz (.own z)) z (.ins (c.fold .leads) dz [])) z (.ins (c.fold .leads) dz (lG (.ref x) (.ref y)))) z (.fold .leads a b):=.fold af (oa.to (Kp.of s1)) (ob.to (Kp.of s1));generalize upd (upd (upd H dz (.own z)) z (.ins (c.fold .leads) dz [])) z (.ins (c.fold .leads) dz (lG (.ref x) (.ref y)))=H1 at s1 oe ⊢;have fsz:(Tr.fold .leads a b).size=a.size+b.size+1:=rfl;refine ⟨z,.fold .leads a b,rfl,oe,by omega,λl us H2 s2 hl el al=>?_⟩;rw [(iV a b).2] at al;have ul:=al.len;obtain ⟨us',v,ts',r',rfl,e2,⟨p,rfl,ep⟩,al'⟩:=al.last (λz=>by rw [z] at ul;simp at ul);obtain ⟨rfl,e3⟩:=List.append_inj' e2 rfl;have e3:eZ "leads" [(a.putR []).2,(b.putR (a.putR []).1).2]=r':=(List.cons.inj e3).1;subst e3;have ep':H2 p=some (.tup [.str "leads",.int ((a.putR []).2:Nat),.int ((b.putR (a.putR []).1).2:Nat)]):=ep;refine ⟨_,rfl,.inl ⟨rfl,_,SqL.of el⟩,l,_,_,rfl,rfl,el,hJ _ _,?_⟩;rw [List.dropLast_concat];have k3:Kp H2 (upd H2 l (.lst us')):=iJ el rfl;have np:p≠l:=sA ep' el (by intro z;cases z)
 have ep3:upd H2 l (.lst us') p=some (.tup [.str "leads",.int ((a.putR []).2:Nat),.int ((b.putR (a.putR []).1).2:Nat)]):=by rw [aB np];exact ep'
 refine ⟨_,rfl,_,rfl,_,_,_,_,rfl,rfl,SqT.of ep3,bS (j:=1) rfl,_,rfl,_,_,_,_,rfl,rfl,SqT.of ep3,bS (j:=2) rfl,(by show 3<=sizeLine;decide),λp2 hp2=>?_⟩;have u4:=az hp2 (.tup [.ref l,.int ((a.putR []).2:Nat),.int ((b.putR (a.putR []).1).2:Nat)]);refine q p2 l us' _ ((bc (s1.trans s2) (s1.free hl) _).trans u4) af (u4 _ _ af) ?_;exact (al'.imp (RwV.to k3)).imp (RwV.to (Kp.of u4))
theorem ok_hb (T : aF K mg "holds_for_both" s_holds_for_both) (jB : mg "all" = none) (GF : ∀ t, aQ P w K mg base (c.of t) "folds" 3 ["self"] (eJ c t)) (aY : Def P w K mg base 1 "must_be_few" ["folds"] uZ) (ix : Def P w K mg base 4 "rows_of_both" ["one", "other"] (spRB c)) (fN : Def P w K mg base 6 "rules_in_leaves" ["rows", "tree"] (mY K)) : Def P w K mg base 8 "holds_for_both" ["one", "other", "tree"] (spHB c K) := by
 refine aW T sc_holds_for_both (fun _ _ _ _ _ _ => L2.ar3 fun _ _ _ => rfl) (fun vs H Q E h => ?_) (fun f cdv A outer s H vs Q E hr h => ?_)
 ·obtain ⟨x,y,z,a,b,t,rfl,_⟩:=h;rfl
 obtain ⟨x,y,z,a,b,t,rfl,oa,ob,sz,n8,dz,sm,dp,cu,q⟩:=h;have nd := sc_holds_for_both.nd
 have hu:=hr.units;have R:=(iV a b).1;have rl1:=R.len;obtain ⟨dx,fs,ea,nf⟩:=oa.cls
 refine ⟨_,(ae (aZ (aI aY (hr.mono (by decide)) rfl (aa (aP dB (bF (k:=3) (pv 0) (hr.mono (by omega))) (bF (k:=3) (pv 1) (hr.mono (by omega)))) ah)))
  (ae (aG (i:=3) nd rfl (Or.inr rfl) (aI ix (hr.mono (by decide)) rfl (aa (pv 0) (aa (pv 1) ah))))
  (ae (aG (i:=4) nd rfl (Or.inl rfl) (aI fN (hr.mono (by decide)) rfl (aa (aK aL (pv 3) ao (λ_ _=>rfl)) (aa (pv 2) ah))))
  (ae (aJ (au nH (pv 4) cI (aC _)) (aq (aD kR)) av)
  (aq (aD (aN (mH rfl) rfl jB (by decide+kernel) (aa (iX (xs := ["hull", "rules"]) rfl (bR (pv 4)) rfl (by decide+kernel) (by decide+kernel) (show ∀ p ∈ Scope.names _, p.2 = NameKind.free → List.lookup p.1 (ak s_holds_for_both).names = some .cell ∨ List.lookup p.1 (ak s_holds_for_both).names = some .free by decide+kernel) (dX (j := 3) rfl (Or.inl rfl) (by decide+kernel) (Or.inl rfl) dC) (show (["hull", "rules", "both"] : List Str).Nodup by decide+kernel) (fun _ _ _ _ => jr (K := K) (n := 2) rfl rfl (bE (aV (i := 0) (show (["hull", "rules", "both"] : List Str).Nodup by decide+kernel) rfl (Or.inl rfl) (.inr rfl)) (bE (aV (i := 1) (show (["hull", "rules", "both"] : List Str).Nodup by decide+kernel) rfl (Or.inl rfl) (.inr rfl)) fD))) (fun _ _ _ _ => (gw (op_eqDK (K := K) rfl hu) (aK (qG (K := K) rfl) (pv 1) (aK (gY (K := K) rfl) (pv 2) ao (fun _ _ => rfl)) (fun _ _ => rfl)) (aK (qG (K := K) rfl) (pv 1) (aK (gY (K := K) rfl) (pv 2) ao (fun _ _ => rfl)) (fun _ _ => rfl)) (aC _)))) ah)))))))), ?_⟩
 refine ⟨_,rfl,x,_,_,_,_,_,rfl,ea,nf _ (by decide+kernel),GF a,x,rfl,oa,by omega,λH1 s1=>?_⟩;have ob1:=ob.to (Kp.of s1);obtain ⟨dy,fy,ey,ny⟩:=ob1.cls;refine ⟨_,rfl,y,_,_,_,_,_,rfl,ey,ny _ (by decide+kernel),GF b,y,rfl,ob1,by omega,λH2 s2=>?_⟩;have s12:=s1.trans s2;refine ⟨_,_,rfl,rfl,_,rfl,by omega,?_⟩;refine ⟨_,rfl,_,rfl,x,y,a,b,rfl,oa.to (Kp.of s12),ob.to (Kp.of s12),by omega,λp lr us H3 s3 ep el al=>?_⟩;have s13:=s12.trans s3;refine ⟨_,rfl,_,_,_,_,rfl,rfl,SqT.of ep,bS (j:=0) rfl,_,rfl,lr,us,fu a b,z,t,rfl,el,R.dat al,R.ok,R.pos,by omega,dz.ts s13.ts,sm,dp,cu,λnn H4 s4=>?_,λo eo d ws H4 s4 ed al4=>?_⟩
 ·refine ⟨_,rfl,rfl,_,rfl,cj ?_⟩;have e:=Bn nn;have q:=q H4 (s13.trans s4);rw [e] at q;exact q
 ·refine ⟨_,rfl,rfl,_,rfl,aT ?_⟩;obtain ⟨bs,lb,eb,kb⟩:=yk eo;have lw:=al4.len
  have lo:o.length<=1000:=by
   unfold cF at eo;cases e:t.told Hu.sqH with
   | none=>rw [e] at eo;cases eo
   | some L =>
    rw [e] at eo;have eo:(cX (fu a b) L).map _=some o:=eo;have:=fP e;cases e2:cX (fu a b) L with
    | none=>rw [e2] at eo;cases eo
    | some o' =>
     rw [e2] at eo;have eo:L.zip o'=o:=Option.some.inj eo;rw [<- eo,List.length_zip];omega
  have pr:∀(i:Nat) (p:List T3×List T3),o[i]?=some p->∃(tt a b:Addr) (us ws':List V),ws[i]?=some (.ref tt)/\H4 tt=some (.tup [.ref a,.ref b])/\H4 b=some (.lst ws')/\DatAll K H4 (p.2.map t3D) ws':=λi p hp=>by
   have hi:i < ws.length:=by rw [lw];exact (List.getElem?_eq_some_iff.mp hp).1
   have h1:ws[i]?=some ws[i]:=List.getElem?_eq_getElem hi;obtain ⟨p',hp',tt,a,b,us,ws',ev,e1,e2,e3,e4,e5⟩:=al4.get i _ h1;rw [hp] at hp';cases hp'
   exact ⟨tt,a,b,us,ws',by rw [h1,ev],e1,e4,e5⟩
  obtain ⟨ps,lp,kp⟩:=ui (P:=λi (q:V×V)=>∀ p,o[i]?=some p->∃(tt:Addr) (b:Addr) (ws':List V),ws[i]?=some (.ref tt)/\H4 tt=some (.tup [q.1,q.2])/\q.2=.ref b/\H4 b=some (.lst ws')/\DatAll K H4 (p.2.map t3D) ws') o.length (λi hi=>by
   obtain ⟨tt,a,b,us,ws',h1,h2,h3,h4⟩:=pr i _ (List.getElem?_eq_getElem hi);exact ⟨(.ref a,.ref b),λp hp=>by rw [List.getElem?_eq_getElem hi] at hp;cases hp;exact ⟨tt,b,ws',h1,h2,rfl,h3,h4⟩⟩)
  have at_o:∀{i:Nat} {q:V×V},ps[i]?=some q->∃ p,o[i]?=some p:=λ{i q} h=>by
   have hi:i < o.length:=by rw [<- lp];exact (List.getElem?_eq_some_iff.mp h).1
   exact ⟨_,List.getElem?_eq_getElem hi⟩
  dsimp only [yV,Ay,tCB,dN,jE];refine jv ?_;refine ⟨_,rfl,d,rfl,⟨_,SqL.of ed⟩,?_⟩;refine wN (K:=K) ps bs ed (by omega) (by omega) (by omega) (λi q hq=>?_) (λi q b' H5 N hq hb' s5 hN=>?_) (λD5 H5 s5 hD5 e5=>?_)
  ·obtain ⟨p,hp⟩:=at_o hq;obtain ⟨tt,b,ws',h1,h2,_⟩:=kp i q hq p hp;exact ⟨tt,h1,h2⟩
  ·obtain ⟨p,hp⟩:=at_o hq;obtain ⟨tt,b2,ws',h1,h2,h3,h4,h5⟩:=kp i q hq p hp;obtain ⟨xx,yy,x1,y1,b1⟩:=kb i p hp;rw [hb'] at b1;cases b1
   obtain ⟨vx,hvx,dvx⟩:=pN (h5.ts s5.ts) x1;obtain ⟨vy,hvy,dvy⟩:=pN (h5.ts s5.ts) y1;rw [h3];have s35:=s4.trans s5;refine ⟨_,rfl,_,rfl,_,_,_,_,rfl,rfl,SqT.of (s35 _ _ ep),bS (j:=1) rfl,_,_,_,_,rfl,rfl,SqL.of (s5 _ _ h4),bS hvx,_,rfl,_,rfl,_,_,_,_,rfl,rfl,SqT.of (s35 _ _ ep),bS (j:=2) rfl,_,_,_,_,rfl,rfl,SqL.of (s5 _ _ h4),bS hvy,?_⟩;refine ⟨_,_,.inl dvx,.inl dvy,rN xx,rN yy,?_⟩;rw [eqv_t3];exact hN _ (aH.refl _)
  ·refine ⟨D5,bs,rfl,SqL.of e5,?_⟩;rw [<- eb];exact q H5 ((s13.trans s4).trans s5)
theorem ok_hbX {aX : Addr} (T : aF K mg "holds_for_both" s_holds_for_both) (GF : ∀ t, aQ P w K mg base (c.of t) "folds" 3 ["self"] (eJ c t)) (aY : cy P w K mg base 1 "must_be_few" ["folds"] (pR aX)) : cy P w K mg base 8 "holds_for_both" ["one", "other", "tree"] (spHBX c aX) := by
 refine dG T sc_holds_for_both (fun _ _ _ _ _ _ => L2.ar3 fun _ _ _ => rfl) (fun vs H Q E h => ?_) (fun f cdv A outer s H vs Q E hr h => ?_)
 ·obtain ⟨x,y,z,a,b,rfl,_⟩:=h;rfl
 obtain ⟨x,y,z,a,b,rfl,oa,ob,sz,n8,k⟩:=h;have nd := sc_holds_for_both.nd
 obtain ⟨dx,fs,ea,nf⟩:=oa.cls;refine ⟨_,ae (aZ (bX aY (hr.mono (by omega)) rfl (aa (aP dB (bF (k:=3) (pv 0) (hr.mono (by omega))) (bF (k:=3) (pv 1) (hr.mono (by omega)))) ah))) (show PSs _ _ aO from λ_ _ _ _ _ _ h=>h.elim),?_⟩;refine ⟨_,rfl,x,_,_,_,_,_,rfl,ea,nf _ (by decide+kernel),GF a,x,rfl,oa,by omega,λH1 s1=>?_⟩;have ob1:=ob.to (Kp.of s1);obtain ⟨dy,fy,ey,ny⟩:=ob1.cls;exact ⟨_,rfl,y,_,_,_,_,_,rfl,ey,ny _ (by decide+kernel),GF b,y,rfl,ob1,by omega,λH2 s2=>⟨_,_,rfl,rfl,_,rfl,by omega,λH3 s3=>k H3 ((s1.trans s2).trans s3)⟩⟩
theorem wf_at {a:Tr} {T:Hu.Tc} {L:List (List T3)} {g:List T3} {p:T3} (sm:T.Sm 64) (eL:T.told Hu.sqH=some L) (hg:g∈L) (hp:p∈g) :
  0 < p.u/\(0<=p.v/\p.v<=p.u/\0<=p.w/\p.w<=p.u)/\Bg p.u/\Bg (a.worth p.u p.v p.w)/\Bg (WF a p).1/\Bg (WF a p).2/\0 < (WF a p).2/\Lo.gc (WF a p).1 (WF a p).2=1/\(WF a p).1*p.u=a.worth p.u p.v p.w*(WF a p).2:=by
 have hk:=Hu.Tc.gU Hu.jz sm eL;have cn:=Hu.Tc.told_cone Hu.jz sm eL;have u0:=((hk g hg).1.ok p hp).n0;have bx:=Hu.kH (cn g hg p hp);have ub:Bg p.u:=eQ ((hk g hg).1.ok p hp).r.a (by decide);obtain ⟨v0,v1,w0,w1⟩:=bx;have b:=jF (n:=p.u) (x:=p.v) (y:=p.w) (by omega) ⟨v0,v1⟩ ⟨w0,w1⟩ a;have e:=zS (w:=a.worth p.u p.v p.w) u0;exact ⟨u0,⟨v0,v1,w0,w1⟩,ub,Nat.lt_of_le_of_lt (by omega) ub,Nat.lt_of_le_of_lt (Lo.zQ (by omega)) (Nat.lt_of_le_of_lt (by omega) ub),Nat.lt_of_le_of_lt (Lo.zT (by omega)) ub,e.2,Lo.low_gc (by omega),e.1⟩
theorem gc_sub {t b:Int} (h:Lo.gc t b=1):Lo.gc (b - t) b=1:=by
 have h1:=Lo.dQ (b - t) b;have h2:=Lo.dW (b - t) b
 have h3:Lo.gc (b - t) b∣t:=by
  have:=Int.dvd_sub h2 h1
  rwa [show b - (b - t)=t by omega] at this
 have h4:Lo.gc (b - t) b∣Lo.gc t b:=Int.dvd_coe_gcd h3 h2;rw [h] at h4;exact Int.eq_one_of_dvd_one (Lo.sL _ _) h4
theorem low_id {t b:Int} (hb:0 < b) (h:Lo.gc t b=1):Lo.rz t b=t/\Lo.rA t b=b:=by
 have e:Lo.sg t b=1:=by unfold Lo.sg;rw [if_neg (by omega),h]
 unfold Lo.rz Lo.rA;rw [e,Int.fdiv_one,Int.fdiv_one];exact ⟨rfl,rfl⟩
def rQ (K:W.Frag):Sp:=λvs H Q _=>∃(a:Addr) (v:V) (f:Int×Int),vs=[.ref a,v]/\SqT K H a [.int 1,.int 1]/\FrV K H v f/\0 < f.2/\Lo.gc f.1 f.2=1/\Bg f.1/\Bg f.2/\∀(v':V) (H':Hp),aH H H'->FrV K H' v' (f.2 - f.1,f.2)->Q v' H'
def CB (c:CCs) (K:W.Frag):Sp:=λvs H Q _=>∃(x y:Addr) (a b:Tr),vs=[.ref x,.ref y]/\Ob c H x a/\Ob c H y b/\a.size+b.size<=50/\a.nf+b.nf<=7/\
 ∀(p:Addr) (vl vp vt:V) (pt:T3) (T:Hu.Tc) (L:List (List T3)) (H':Hp),aH H H'->H' p=some (.tup [vl,vp,vt])->FrV K H' vl ((WF (.fold .leads a b) pt).2 - (WF (.fold .leads a b) pt).1,(WF (.fold .leads a b) pt).2)->Dat K H' (t3D pt) vp->Dat K H' (tcD T) vt->T.Sm 64->T.deep<=8->T.gZ<=700->T.told Hu.sqH=some L->(∀ g∈L,∃ rs,Hu.run g (bG (.fold .leads a b)) []=.rules rs)->(∃ g∈L,pt∈g)->(∀ g∈L,∀ c∈g,(WF (.fold .leads a b) pt).1*c.u<=Tr.worth c.u c.v c.w (.fold .leads a b)*(WF (.fold .leads a b) pt).2)->Q (.ref p) H'
theorem xX (T:aF K mg "minus" tF) (lN:Def P w K mg base 2 "fraction" ["top","bottom"] (tq K)):Def P w K mg base 3 "minus" ["one","other"] (rQ K):=by
 refine aW T vq (λ_ _ _ _ _ _=>L2.ar2 λ_ _=>rfl) ?_ ?_
 ·walk_at "i1";obtain ⟨a,v,f,rfl,_⟩:=h;rfl
 walk_at "i2";obtain ⟨a,v,fr,rfl,sa,⟨b,rfl,sb⟩,f0,g1,b1,b2,q⟩:=h;have nd:=vq.nd;have o1:Bg 1:=eQ (n:=1) (by decide) (by decide);obtain ⟨i1,i2⟩:=low_id f0 (gc_sub g1);have e1:(1*fr.2 - fr.1*1:Int)=fr.2 - fr.1:=by omega
 have e2:(1*fr.2:Int)=fr.2:=by omega
 refine ⟨_,(aq (aD (aI lN (hr.mono (by decide)) rfl (aa (aP gP (aP bH (aK aL (pv 0) ao (λ_ _=>rfl)) (aK aL (pv 1) ao (λ_ _=>rfl))) (aP bH (aK aL (pv 1) ao (λ_ _=>rfl)) (aK aL (pv 0) ao (λ_ _=>rfl)))) (aa (aP bH (aK aL (pv 0) ao (λ_ _=>rfl)) (aK aL (pv 1) ao (λ_ _=>rfl))) ah))))),?_⟩;refine ⟨_,rfl,_,_,_,_,rfl,rfl,sa,rfl,_,rfl,_,_,_,_,rfl,rfl,sb,rfl,_,_,rfl,rfl,fV o1 b2,_,rfl,_,_,_,_,rfl,rfl,sb,rfl,_,rfl,_,_,_,_,rfl,rfl,sa,rfl,_,_,rfl,rfl,fV b1 o1,_,_,rfl,rfl,_,rfl,_,_,_,_,rfl,rfl,sa,rfl,_,rfl,_,_,_,_,rfl,rfl,sb,rfl,_,_,rfl,rfl,fV o1 b2,?_⟩;refine ⟨1*fr.2 - fr.1*1,1*fr.2,rfl,by omega,by rw [e2];exact b2,λv' H' s' fv=>q v' H' s' ?_⟩;rw [e1,e2,i1,i2] at fv;exact fv
theorem ok_lack (T:aF K mg "lack" tG) (kK:eG K mg "WHOLE" [1,1]) (iw:∀ u:W5,mL P w K mg base u.cls (c.fold u) 1 ["self","one","other"] (kj (c.fold u))) (cJ:Def P w K mg base 16 "least_worth" ["saying"] (spLW c K)) (D_minus:Def P w K mg base 3 "minus" ["one","other"] (rQ K)):Def P w K mg base 17 "lack" ["one","other"] (CB c K):=by
 refine aW T pB (λ_ _ _ _ _ _=>L2.ar2 λ_ _=>rfl) ?_ ?_
 ·walk_at "i1";obtain ⟨x,y,a,b,rfl,_⟩:=h;rfl
 walk_at "i2";obtain ⟨x,y,a,b,rfl,oa,ob,sz,nf,q⟩:=h;have nd:=pB.nd;obtain ⟨aWH,uJ,sWH⟩:=kK.ex;have nf':=mv .leads a b;have sz':(Tr.fold .leads a b).size=a.size+b.size+1:=rfl
 refine ⟨_,(ae (aG (i:=2) nd rfl (Or.inl rfl) (aI cJ (hr.mono (by decide)) rfl (aa (kQ (iw .leads) (hr.mono (by omega)) rfl (aa (pv 0) (aa (pv 1) ah))) ah)))
  (aq (aD (bB (aa (aI D_minus (hr.mono (by decide)) rfl (aa (bV (v:=V.ref aWH) rfl uJ rfl) (aa (aK aL (pv 2) ao (λ_ _=>rfl)) ah))) (aa (aK aL (pv 2) ao (λ_ _=>rfl)) (aa (aK aL (pv 2) ao (λ_ _=>rfl)) ah))))))),?_⟩
 refine ⟨_,rfl,_,rfl,λz dz h1 h2 ne=>⟨z,dz,_,_,rfl,af,rfl,?_⟩⟩;have sm:=fT (C:=c.fold .leads) (fs:=lG (.ref x) (.ref y)) h1 h2 ne;refine ⟨z,.fold .leads a b,rfl,.fold af (oa.to (Kp.of sm)) (ob.to (Kp.of sm)),by omega,by omega,λp vl vp vt pt T L H1 s1 ep fvl dpt dT smT dp cu eL kL hpt kpt=>?_⟩;obtain ⟨g,hg,hpg⟩:=id hpt;have sm64:T.Sm 64:=smT.mono (by decide);obtain ⟨u0,bx,ub,wb,b1,b2,f0,g1,eq1⟩:=wf_at (a:=.fold .leads a b) sm64 eL hg hpg;refine ⟨_,rfl,_,_,_,_,rfl,rfl,SqT.of ep,rfl,aWH,vl,WF (.fold .leads a b) pt,rfl,sWH _,fvl,f0,g1,b1,b2,λvm H2 s2 fvm=>?_⟩;have ep2:=s2 _ _ ep;refine ⟨_,rfl,_,_,_,_,rfl,rfl,SqT.of ep2,rfl,_,rfl,_,_,_,_,rfl,rfl,SqT.of ep2,rfl,(by show 3<=sizeLine;decide),λp3 h3=>?_⟩;have u3:=az h3 (.tup [vm,vp,vt]);have s23:=s2.trans u3;exact q p3 vm vp vt pt T L _ ((sm.trans s1).trans s23) af (fvm.to u3) (dpt.ts s23.ts) (dT.ts s23.ts) sm64 dp (by omega) eL kL hpt kpt
namespace Hu
end Hu
def spCfb (c:CCs) (K:W.Frag):Sp:=λvs H Q _=>∃(x y:Addr) (a b:Tr),vs=[.ref x,.ref y]/\Ob c H x a/\Ob c H y b/\a.size+b.size<=60/\a.nf+b.nf<=8/\∀(v:V) (T:Hu.Tc) (H':Hp),aH H H'->Dat K H' (tcD T) v->T.Sm 8->T.deep<=8->T.gZ+1<=2 ^ 8->Gd [fu a b] Hu.sqH T->Q v H'
def zf (c:CCs) (K:W.Frag):Sp:=λvs H Q _=>∃(x y:Addr) (a b:Tr),vs=[.ref x,.ref y]/\Ob c H x a/\Ob c H y b/\a.size+b.size<=60/\a.nf+b.nf<=8/\
 (∀(p:Addr) (vt:V) (T:Hu.Tc) (L:List (List T3)) (H':Hp),aH H H'->H' p=some (.tup [.str "alike",vt])->Dat K H' (tcD T) vt->T.Sm 64->T.deep<=8->T.gZ<=700->T.told Hu.sqH=some L->(∀ g∈L,∃ rs,Hu.run g (fu a b) []=.rules rs)->(∀ g∈L,∀ c∈g,a.worth c.u c.v c.w=b.worth c.u c.v c.w)->Q (.ref p) H')/\
 ∀(p:Addr) (vc:V) (k:T3) (H':Hp),aH H H'->H' p=some (.tup [.str "unlike",vc])->Dat K H' (t3D k) vc->0 < k.u->0<=k.v/\k.v<=k.u->0<=k.w/\k.w<=k.u->a.worth k.u k.v k.w≠b.worth k.u k.v k.w->Q (.ref p) H'
section
variable {P:Program} {w:World} {K:W.Frag} {mg:Str->Option Value} {base:Heap} {c:CCs}
theorem ok_cfb (T:aF K mg "cutting_for_both" cU) (M:∀ t,aQ P w K mg base (c.of t) "folds" 3 ["self"] (eJ c t)) (aY:Def P w K mg base 1 "must_be_few" ["folds"] uZ) (ki:Def P w K mg base 1 "square" [] (zb K)) (ix:Def P w K mg base 4 "rows_of_both" ["one","other"] (spRB c)) (hU:Def P w K mg base 13 "tree_on" ["hull","rows"] (pO K 9)):Def P w K mg base 14 "cutting_for_both" ["one","other"] (spCfb c K):=by
 refine aW T cL (λ_ _ _ _ _ _=>L2.ar2 λ_ _=>rfl) ?_ ?_
 ·walk_at "i1";obtain ⟨x,y,a,b,rfl,_⟩:=h;rfl
 walk_at "i2";obtain ⟨x,y,a,b,rfl,oa,ob,sz,nf8,q⟩:=h;have nd:=cL.nd;obtain ⟨dx,fs,ea,nf⟩:=oa.cls;have R:=(iV a b).1;have fd:=R.fd;have ln:=R.len
 refine ⟨_,(ae (aZ (aI aY (hr.mono (by decide)) rfl (aa (aP dB (bF (k:=3) (pv 0) (hr.mono (by omega))) (bF (k:=3) (pv 1) (hr.mono (by omega)))) ah)))
  (aq (aD (aI hU (hr.mono (by omega)) rfl (aa (tU ki (hr.mono (by omega)) rfl) (aa (aK aL (aI ix (hr.mono (by decide)) rfl (aa (pv 0) (aa (pv 1) ah))) ao (λ_ _=>rfl)) ah)))))),?_⟩
 refine ⟨_,rfl,x,_,_,_,_,_,rfl,ea,nf _ (by decide+kernel),M a,x,rfl,oa,by omega,λH1 s1=>?_⟩;have ob1:=ob.to (Kp.of s1);obtain ⟨dx',fs',eb,nf'⟩:=ob1.cls;refine ⟨_,rfl,y,_,_,_,_,_,rfl,eb,nf' _ (by decide+kernel),M b,y,rfl,ob1,by omega,λH2 s2=>⟨_,_,rfl,rfl,_,rfl,by omega,?_⟩⟩;have s12:=s1.trans s2;refine ⟨rfl,λl us H3 s3 hl el da=>?_⟩;have s13:=s12.trans s3;refine ⟨_,rfl,_,rfl,x,y,a,b,rfl,oa.to (Kp.of s13),ob.to (Kp.of s13),by omega,λp lr ws H4 s4 ep er al=>?_⟩;have s14:=s13.trans s4;refine ⟨_,_,_,_,rfl,rfl,SqT.of ep,rfl,?_⟩;exact ⟨l,lr,us,ws,fu a b,Hu.sqH,8,rfl,s4 _ _ el,da.ts s4.ts,er,R.dat al,R.ok,R.pos,by omega,sml_B (by omega),Cr (by simp;omega),by decide,λv T H5 s5 d5 m5 p5 c5 g5=>q v T H5 (s14.trans s5) d5 m5 p5 c5 g5⟩
theorem DT {CN:Addr} (T:aF K mg "alike" pC) (fc:Def P w K mg base 14 "cutting_for_both" ["one","other"] (spCfb c K)) (cZ:cy P w K mg base 4 "hulls_of" ["tree"] (kq K CN)) (pI:Def P w K mg base 4 "worth" ["saying","point"] (mX c K)):Def P w K mg base 16 "alike" ["one","other"] (zf c K):=by
 refine aW T ma (λ_ _ _ _ _ _=>L2.ar2 λ_ _=>rfl) ?_ ?_
 ·walk_at "i1";obtain ⟨x,y,a,b,rfl,_⟩:=h;rfl
 walk_at "i2";obtain ⟨x,y,a,b,rfl,oa,ob,sz,n8,q1,q2⟩:=h;have nd:=ma.nd;have d2:(2:Nat)<=sizeLine:=by decide
 refine ⟨_,(ae (aG (i:=2) nd rfl (Or.inl rfl) (aI fc (hr.mono (by omega)) rfl (aa (pv 0) (aa (pv 1) ah))))
  (ae (eE PassesOwn.never rfl (bR (pD cZ (hr.mono (by omega)) rfl (aa (pv 2) ah))) (aV (i:=3) nd rfl (Or.inl rfl)) (aq (eE PassesOwn.never rfl (bR (pv 3)) (aV (i:=4) nd rfl (Or.inl rfl)) (aq (aJ (au sv (aI pI (hr.mono (by omega)) rfl (aa (pv 0) (aa (pv 4) ah))) (aI pI (hr.mono (by omega)) rfl (aa (pv 1) (aa (pv 4) ah))) (aC _)) (aq (aD (bB (aa aR (aa (pv 4) ah))))) av)))))
  (aq (aD (bB (aa aR (aa (pv 2) ah))))))),?_⟩
 refine ⟨_,rfl,_,rfl,x,y,a,b,rfl,oa,ob,sz,n8,λvt X H1 s1 dt sm dp cu gd=>?_⟩;obtain ⟨L,eL,kL⟩:=gd;have sm64:X.Sm 64:=sm.mono (by decide);have hk:=Hu.Tc.gU Hu.jz sm64 eL;have cn:=Hu.Tc.told_cone Hu.jz sm64 eL;refine ⟨_,rfl,vt,X,rfl,dt,sm64,by omega,λnn=>absurd (eL.symm.trans nn) (λz=>by cases z),λL' eL' l us H2 s2 hl el al=>?_⟩;rw [eL] at eL';cases eL'
 have s12:=s1.trans s2;have al2:=al.all2;have lu:=al2.len;refine ⟨l,rfl,⟨us,SqL.of el⟩,?_⟩;refine fF (xs:=us) (λi σ H'=>aH H2 H'/\∃(o3 o4:Option V),σ=[some (.ref x),some (.ref y),some vt,o3,o4]/\∀ g∈L.take i,∀ k∈g,a.worth k.u k.v k.w=b.worth k.u k.v k.w) ⟨aH.refl _,_,_,rfl,(λg hg=>by simp at hg)⟩ (λi σ H' _ z=>SqL.of (z.1 _ _ el)) (λi v σ H' hv z=>?_) (λσ H' z=>?_)
 ·obtain ⟨s3,o3,o4,rfl,be⟩:=z;obtain ⟨g,hg,ga,gus,rfl,eg,dg⟩:=(al2.imp (HuV.to s3)).get i v hv;have gm:=List.mem_of_getElem? hg;refine ⟨_,rfl,ga,rfl,⟨gus,SqL.of eg⟩,?_⟩;refine fF (xs:=gus) (λj σ H''=>aH H' H''/\∃(o4:Option V),σ=[some (.ref x),some (.ref y),some vt,some (.ref ga),o4]/\∀ k∈g.take j,a.worth k.u k.v k.w=b.worth k.u k.v k.w) ⟨aH.refl _,_,rfl,(λk hk=>by simp at hk)⟩ (λj σ H'' _ z=>SqL.of (z.1 _ _ eg)) (λj v σ H'' hv z=>?_) (λσ H'' z=>?_)
  ·obtain ⟨s4,o4,rfl,bj⟩:=z;obtain ⟨p,hpj,dpv⟩:=jJ (dg.ts s4.ts) hv;obtain ⟨pa,rfl,sp⟩:=fO dpv;have pm:=List.mem_of_getElem? hpj;have u0:=((hk g gm).1.ok p pm).n0;have bx:=Hu.kH (cn g gm p pm);have s04:=(s12.trans s3).trans s4;refine ⟨_,rfl,_,rfl,x,pa,a,p.u,p.v,p.w,rfl,oa.to (Kp.of s04),by omega,⟨sp,by omega,bx.1,bx.2.1,bx.2.2.1,bx.2.2.2⟩,λH5 s5=>?_⟩;have s05:=s04.trans s5;refine ⟨_,rfl,_,rfl,y,pa,b,p.u,p.v,p.w,rfl,ob.to (Kp.of s05),by omega,⟨sp.ts s5.ts,by omega,bx.1,bx.2.1,bx.2.2.1,bx.2.2.2⟩,λH6 s6=>?_⟩;have s46:=s5.trans s6;refine ⟨rfl,_,rfl,?_⟩
   by_cases e:a.worth p.u p.v p.w=b.worth p.u p.v p.w
   ·refine iteNS (congrArg V.int e) ⟨s4.trans s46,_,rfl,λk hk=>?_⟩;rw [List.take_add_one,hpj] at hk;rcases List.mem_append.mp hk with z | z
    ·exact bj k z
    ·have:k=p:=by simpa using z
     rw [this];exact e
   ·rw [show (!decide (V.int (a.worth p.u p.v p.w)=V.int (b.worth p.u p.v p.w)))=true from by rw [decide_eq_false (λz=>e (V.int.inj z))];rfl];refine cj ?_;refine ⟨_,rfl,d2,λp9 hp9=>?_⟩;have u:=az hp9 (.tup [.str "unlike",.ref pa]);exact q2 p9 (.ref pa) p _ ((s04.trans s46).trans u) af (dpv.ts (s46.trans u).ts) u0 ⟨bx.1,bx.2.1⟩ ⟨bx.2.2.1,bx.2.2.2⟩ e
  ·obtain ⟨s4,o4,rfl,bj⟩:=z;rw [fS dg,List.take_length] at bj;refine ⟨s3.trans s4,_,_,rfl,λg' hg'=>?_⟩;rw [List.take_add_one,hg] at hg';rcases List.mem_append.mp hg' with z | z
   ·exact be g' z
   ·have:g'=g:=by simpa using z
    rw [this];exact bj
 ·obtain ⟨s3,o3,o4,rfl,be⟩:=z;rw [lu,List.take_length] at be;refine ⟨_,rfl,d2,λp9 hp9=>?_⟩;have u:=az hp9 (.tup [.str "alike",vt]);exact q1 p9 vt X L _ ((s12.trans s3).trans u) af (dt.ts ((s2.trans s3).trans u).ts) sm64 dp (by omega) eL (λg hg=>kL g hg _ List.mem_cons_self) be
end
def CI (c:CCs):Sp:=λvs H Q _=>∃(x:Addr) (a:Tr),vs=[.ref x]/\Ob c H x a/\a.size<=60/\a.nf<=8/\∀ v H',aH H H'->Q v H'
def wds (us:List W5):List V:=us.map λu=>V.str u.str
def zd:Sp:=λvs H Q _=>∃(l lw:Addr) (ms:List Int) (m:Nat) (us:List W5),vs=[.ref l,.int m,.ref lw]/\H l=some (.lst (ms.map V.int))/\(∀ m∈ms,Cel m)/\H lw=some (.lst (wds us))/\l≠lw/\0 < us.length/\m<=20/\
 ∀(a:Addr) (t:Tr) (ms':List Int) (H':Hp),t.nf=m->t.size=2*m+1->(∀ m∈ms',Cel m)->SB (.ref l) H H'->H' l=some (.lst (ms'.map V.int))->Tu H' a t->Q (.ref a) H'
section
variable {P:Program} {w:World} {K:W.Frag} {mg:Str->Option Value} {base:Heap} {c:CCs}
theorem Ez {H:Hp} {v:V} {f:Int×Int} (h:FrV K H v f):Dat K H (frD f.1 f.2) v:=by
 obtain ⟨a,rfl,s⟩:=h;exact ⟨a,_,rfl,s,_,_,rfl,rfl,_,_,rfl,rfl,rfl⟩
theorem ok_alw (T:aF K mg "always" mj) (kK:eG K mg "WHOLE" [1,1]) (cJ:Def P w K mg base 16 "least_worth" ["saying"] (spLW c K)):Def P w K mg base 17 "always" ["saying"] (CI c):=by
 refine aW T ku (λ_ _ _ _ _ _=>L2.ar1 λ_=>rfl) ?_ ?_
 ·walk_at "i1";obtain ⟨x,a,rfl,_⟩:=h;rfl
 walk_at "i2";obtain ⟨x,a,rfl,oa,sz,n8,q⟩:=h;have nd:=ku.nd;have hu:=hr.units;obtain ⟨aWH,uJ,sWH⟩:=kK.ex
 refine ⟨_,(ae (aG (i:=1) nd rfl (Or.inl rfl) (aI cJ (hr.mono (by decide)) rfl (aa (pv 0) ah)))
  (ae (aJ (au (DB hu) (aK aL (pv 1) ao (λ_ _=>rfl)) (bV (v:=V.ref aWH) rfl uJ rfl) (aC _)) (aq (aD (bB (aa aR (aa (aK aL (pv 1) ao (λ_ _=>rfl)) ah))))) av)
  (aq (aD (bB (aa aR (aa (aK aL (pv 1) ao (λ_ _=>rfl)) ah))))))),?_⟩
 refine ⟨_,rfl,x,a,rfl,oa,sz,n8,λp vl vp vt pt T L H1 s1 ep fvl dpt dT smT dp cu eL kL hpt kpt=>?_⟩;refine ⟨_,rfl,_,_,_,_,rfl,rfl,SqT.of ep,rfl,_,_,.inl (Ez fvl),.inl (Ez (f:=(1,1)) ⟨aWH,rfl,sWH _⟩),sM _ _,sM _ _,_,rfl,gG (λ_=>?_) (λ_=>?_)⟩
 ·refine ⟨_,rfl,_,_,_,_,rfl,rfl,SqT.of ep,rfl,(by show 2<=sizeLine;decide),λp2 h2=>?_⟩;exact q _ _ (s1.trans (az h2 _))
 ·refine ⟨_,rfl,_,_,_,_,rfl,rfl,SqT.of ep,rfl,(by show 2<=sizeLine;decide),λp2 h2=>?_⟩;exact q _ _ (s1.trans (az h2 _))
theorem DR (T:aF K mg "_law_chain" nu) (eW:mg "range"=none) (cK:mg "len"=none) (iy:Def P w K mg base 1 "_law_next" ["_law_cells"] xG):Def P w K mg base 2 "_law_chain" ["_law_cells","_law_many","_law_words"] zd:=by
 refine aW T qa (λ_ _ _ _ _ _=>L2.ar3 λ_ _ _=>rfl) ?_ ?_
 ·walk_at "i1";obtain ⟨l,lw,ms,m,us,rfl,_⟩:=h;rfl
 walk_at "i2";obtain ⟨l,lw,ms,m,us,rfl,el,hc,ew,nlw,up,m20,q⟩:=h;have nd:=qa.nd
 refine ⟨_,(ae (aG (i:=3) nd rfl (Or.inl rfl) (bB (aa aR ah)))
  (ae (eE PassesOwn.never rfl (nG rfl eW (aa (pv 1) ah)) (aV (i:=4) nd rfl (Or.inl rfl)) (ae (aG (i:=5) nd rfl (Or.inl rfl) (aI iy (hr.mono (by omega)) rfl (aa (pv 0) ah)))
  (ae (aG (i:=3) nd rfl (Or.inl rfl) (bB (aa (aK bY (pv 2) (aP tY (aP op_fdiv (pv 5) ao) (aN di rfl cK (by decide+kernel) (aa (pv 2) ah))) (λ_ _=>rfl)) (so (bB (aa aR ah)) (aa (pv 3) ah)))))
  (aq (aJ (au aM (aP jW (pv 5) ao) ao (aC _)) (aq (aG (i:=3) nd rfl (Or.inl rfl) (bB (aa (aK aL (pv 3) ao (λ_ _=>rfl)) (aa (aK aL (pv 3) ao (λ_ _=>rfl)) (so (bB (aa aR ah)) ah)))))) av)))))
  (aq (aD (pv 3))))),?_⟩
 refine ⟨(by show 1<=sizeLine;decide),λp0 hp0=>?_⟩;have u0:=az hp0 (.tup [.str "p"]);refine ⟨_,rfl,_,rfl,by omega,by omega,?_⟩;refine kG (λi σ H'=>∃(ta:Addr) (t:Tr) (ms':List Int) (o4 o5:Option V),σ=[some (.ref l),some (.int m),some (.ref lw),some (.ref ta),o4,o5]/\SB (.ref l) H H'/\(∀ m∈ms',Cel m)/\H' l=some (.lst (ms'.map V.int))/\Tu H' ta t/\t.nf=i/\t.size=2*i+1) ⟨p0,.lp,ms,_,_,rfl,SB.of u0,hc,u0 _ _ el,.lp af,rfl,rfl⟩ (λi σ H' hi z=>?_) (λσ H' z=>?_)
 ·obtain ⟨ta,t,ms1,o4,o5,rfl,sb1,hc1,e1,tu,nf,sz⟩:=z;refine ⟨_,rfl,l,ms1,rfl,e1,hc1,λv ms2 H2 cv hc2 sb2 e2=>?_⟩;have sb12:=sb1.trans sb2;have ew2:=sb12 _ _ ew (λz=>nlw (V.ref.inj z).symm);have tu2:=tu.to (sb2.kp (yi e1));have v0:0<=v:=cv.1;have wl:(wds us).length=us.length:=by unfold wds;rw [List.length_map]
  have f1:(v / 2).fmod (((wds us).length:Nat):Int)=v / 2 % (us.length:Int):=by rw [wl,Int.fmod_eq_emod_of_nonneg _ (by omega)]
  have m0:=Int.emod_nonneg (v / 2) (show (us.length:Int)≠0 by omega);have m1:=Int.emod_lt_of_pos (v / 2) (show (0:Int) < us.length by omega)
  obtain ⟨u,hu⟩:∃ u:W5,atI (wds us) ((v / 2).fmod (((wds us).length:Nat):Int))=some (.str u.str):=by
   rw [f1];obtain ⟨j,hj⟩:=Int.eq_ofNat_of_zero_le m0;rw [hj];have hlt:j < us.length:=by omega
   refine ⟨us[j],?_⟩;refine bS ?_;unfold wds;rw [List.getElem?_map,List.getElem?_eq_getElem hlt];rfl
  refine ⟨_,rfl,_,rfl,_,_,rfl,rfl,⟨by decide,by decide⟩,_,rfl,_,_,rfl,.inl ⟨_,SqL.of ew2,rfl⟩,_,_,rfl,rfl,(by rw [wl];omega),_,_,_,_,rfl,rfl,SqL.of ew2,hu,?_⟩;refine ⟨(by show 1<=sizeLine;decide),λp1 hp1=>⟨_,rfl,(by show 3<=sizeLine;decide),λp2 hp2=>?_⟩⟩;have u1:=az hp1 (.tup [.str "p"]);have u2:=az hp2 (.tup [.str u.str,.ref p1,.ref ta]);have u12:=u1.trans u2;have nf':(Tr.fold u .lp t).nf=i+1:=by rw [mv,nf];show 0+i+1=_;omega
  have nf2:(Tr.fold u t .lp).nf=i+1:=by rw [mv,nf];show i+0+1=_;omega
  refine ⟨_,rfl,_,_,rfl,rfl,(show (0:Int) < 2 by decide),rfl,_,rfl,gG (λcc=>?_) (λcc=>?_)⟩
  ·refine ⟨_,rfl,_,_,_,_,rfl,rfl,SqT.of af,rfl,_,rfl,_,_,_,_,rfl,rfl,SqT.of af,rfl,(by show 1<=sizeLine;decide),λp3 hp3=>⟨(by show 3<=sizeLine;decide),λp4 hp4=>?_⟩⟩;have u3:=az hp3 (.tup [.str "p"]);have u4:=az hp4 (.tup [.str u.str,.ref ta,.ref p3]);have u14:=(u12.trans u3).trans u4;exact ⟨p4,.fold u t .lp,ms2,_,_,rfl,sb12.trans (SB.of u14),hc2,u14 _ _ e2,.fold af (tu2.to (Kp.of u14)) (.lp (u4 _ _ af)),nf2,by show t.size+1+1=_;omega⟩
  ·exact ⟨p2,.fold u .lp t,ms2,_,_,rfl,sb12.trans (SB.of u12),hc2,u12 _ _ e2,.fold af (.lp (u2 _ _ af)) (tu2.to (Kp.of u12)),nf',by show 1+t.size+1=_;omega⟩
 ·obtain ⟨ta,t,ms1,o4,o5,rfl,sb1,hc1,e1,tu,nf,sz⟩:=z;refine ⟨_,rfl,q ta t ms1 H' (by omega) (by omega) hc1 sb1 e1 tu⟩
end
def due (k:Nat) (a b:Tr):Prop:=if k<=4 then 8 < a.nf else if k=5 then 7 < a.nf+b.nf else 8 < a.nf+b.nf
def ze (c:CCs) (K:W.Frag) (C:Addr):Sp:=λvs H Q E=>∃(k:Nat) (x y:Addr) (z:V) (a b:Tr) (t:Hu.Tc),vs=[.int k,.ref x,.ref y,z]/\k<=7/\Ob c H x a/\Ob c H y b/\a.size+b.size<=50/\Dat K H (tcD t) z/\t.Sm 64/\t.deep<=12/\t.gZ<=600/\
 (¬due k a b->∀ v H',aH H H'->Q v H')/\(due k a b->∀ H',aH H H'->E (.ref C) none H')
section
variable {P:Program} {w:World} {K:W.Frag} {mg:Str->Option Value} {base:Heap} {c:CCs}
theorem DS {CT : Addr} (T : aF K mg "_law_asked" nv) (rE : Def P w K mg base 16 "least_worth" ["saying"] (spLW c K)) (rB : cy P w K mg base 15 "least_worth" ["saying"] (bN c CT)) (qZ : Def P w K mg base 17 "always" ["saying"] (CI c)) (Fc : cy P w K mg base 16 "always" ["saying"] (bN c CT)) (qY : Def P w K mg base 17 "fewest_steps" ["saying"] (spFst c K)) (qW : cy P w K mg base 16 "fewest_steps" ["saying"] (bN c CT)) (BS : Def P w K mg base 14 "cutting" ["saying"] (pA c K)) (BJ : cy P w K mg base 14 "cutting" ["saying"] (bN c CT)) (N_holds : Def P w K mg base 8 "holds" ["saying", "tree", "least"] (spHo c K)) (X_holds : cy P w K mg base 8 "holds" ["saying", "tree", "least"] (spHoX c CT)) (N_lack : Def P w K mg base 17 "lack" ["one", "other"] (CB c K)) (X_lack : cy P w K mg base 16 "lack" ["one", "other"] (kr c CT 7)) (N_alike : Def P w K mg base 16 "alike" ["one", "other"] (zf c K)) (X_alike : cy P w K mg base 9 "alike" ["one", "other"] (kr c CT 8)) (N_holds_for_both : Def P w K mg base 8 "holds_for_both" ["one", "other", "tree"] (spHB c K)) (X_holds_for_both : cy P w K mg base 8 "holds_for_both" ["one", "other", "tree"] (spHBX c CT)) : cy P w K mg base 18 "_law_asked" ["_law_ask", "_law_one", "_law_other", "_law_tree"] (ze c K CT) := by
 refine dG T qc (λ_ _ _ _ _ _=>L2.ar4 λ_ _ _ _=>rfl) ?_ ?_
 ·walk_at "i1";obtain ⟨k,x,y,z,a,b,t,rfl,_⟩:=h;rfl
 walk_at "i2";obtain ⟨k,x,y,z,a,b,t,rfl,k7,oa,ob,sz,dz,sm,dp,cu,qn,qx⟩:=h;have nd:=qc.nd;have d2:(2:Nat)<=sizeLine:=by decide
 have b0:Bg 0:=eQ (n:=1) (by decide) (by decide);have b1:Bg 1:=eQ (n:=1) (by decide) (by decide)
 by_cases du:due k a b
 ·replace qx:=qx du;clear qn
  match k,k7 with
  | 0,_ =>
   refine ⟨_,(ae (aJ (au aM (pv 0) ao (aC _)) (aq (aD (bX rB (hr.mono (by omega)) rfl (aa (pv 1) ah)))) av) (show PSs _ _ aO from λ_ _ _ _ _ _ h=>h.elim)),?_⟩;refine ⟨_,rfl,rfl,_,rfl,cj ?_⟩;exact ⟨_,rfl,x,a,rfl,oa,by omega,du,qx⟩
  | 1,_ =>
   refine ⟨_,(ae (aJ (au aM (pv 0) ao (aC _)) (show PSs _ _ aO from λ_ _ _ _ _ _ h=>h.elim) av) (ae (aJ (au aM (pv 0) ao (aC _)) (aq (aD (bX Fc (hr.mono (by omega)) rfl (aa (pv 1) ah)))) av) (show PSs _ _ aO from λ_ _ _ _ _ _ h=>h.elim))),?_⟩;refine ⟨_,rfl,rfl,_,rfl,aT ?_⟩;refine ⟨_,rfl,rfl,_,rfl,cj ?_⟩;exact ⟨_,rfl,x,a,rfl,oa,by omega,du,qx⟩
  | 2,_ =>
   refine ⟨_,(ae (aJ (au aM (pv 0) ao (aC _)) (show PSs _ _ aO from λ_ _ _ _ _ _ h=>h.elim) av) (ae (aJ (au aM (pv 0) ao (aC _)) (show PSs _ _ aO from λ_ _ _ _ _ _ h=>h.elim) av) (ae (aJ (au aM (pv 0) ao (aC _)) (aq (aD (bX qW (hr.mono (by omega)) rfl (aa (pv 1) ah)))) av) (show PSs _ _ aO from λ_ _ _ _ _ _ h=>h.elim)))),?_⟩;refine ⟨_,rfl,rfl,_,rfl,aT ?_⟩;refine ⟨_,rfl,rfl,_,rfl,aT ?_⟩;refine ⟨_,rfl,rfl,_,rfl,cj ?_⟩;exact ⟨_,rfl,x,a,rfl,oa,by omega,du,qx⟩
  | 3,_ =>
   refine ⟨_,(ae (aJ (au aM (pv 0) ao (aC _)) (show PSs _ _ aO from λ_ _ _ _ _ _ h=>h.elim) av) (ae (aJ (au aM (pv 0) ao (aC _)) (show PSs _ _ aO from λ_ _ _ _ _ _ h=>h.elim) av) (ae (aJ (au aM (pv 0) ao (aC _)) (show PSs _ _ aO from λ_ _ _ _ _ _ h=>h.elim) av) (ae (aJ (au aM (pv 0) ao (aC _)) (aq (aD (bX BJ (hr.mono (by omega)) rfl (aa (pv 1) ah)))) av) (show PSs _ _ aO from λ_ _ _ _ _ _ h=>h.elim))))),?_⟩;refine ⟨_,rfl,rfl,_,rfl,aT ?_⟩;refine ⟨_,rfl,rfl,_,rfl,aT ?_⟩;refine ⟨_,rfl,rfl,_,rfl,aT ?_⟩;refine ⟨_,rfl,rfl,_,rfl,cj ?_⟩;exact ⟨_,rfl,x,a,rfl,oa,by omega,du,qx⟩
  | 4,_ =>
   refine ⟨_, (ae (aJ (au aM (pv 0) ao (aC _)) (show PSs _ _ aO from fun _ _ _ _ _ _ h => h.elim) av) (ae (aJ (au aM (pv 0) ao (aC _)) (show PSs _ _ aO from fun _ _ _ _ _ _ h => h.elim) av) (ae (aJ (au aM (pv 0) ao (aC _)) (show PSs _ _ aO from fun _ _ _ _ _ _ h => h.elim) av) (ae (aJ (au aM (pv 0) ao (aC _)) (show PSs _ _ aO from fun _ _ _ _ _ _ h => h.elim) av) (ae (aJ (au aM (pv 0) ao (aC _)) (aq (aD (bX X_holds (hr.mono (by omega)) rfl (aa (pv 1) (aa (pv 3) (so (bB (eM (eM ah))) ah)))))) av) (show PSs _ _ aO from fun _ _ _ _ _ _ h => h.elim)))))), ?_⟩
   refine ⟨_,rfl,rfl,_,rfl,aT ?_⟩;refine ⟨_,rfl,rfl,_,rfl,aT ?_⟩;refine ⟨_,rfl,rfl,_,rfl,aT ?_⟩;refine ⟨_,rfl,rfl,_,rfl,aT ?_⟩;refine ⟨_,rfl,rfl,_,rfl,cj ?_⟩;refine ⟨_,rfl,_,rfl,d2,λp hp=>?_⟩;have u:=az hp (.tup [.int 0,.int 1]);exact ⟨x,z,_,a,rfl,oa.to (Kp.of u),by omega,du,λH' s'=>qx H' (u.trans s')⟩
  | 5,_ =>
   refine ⟨_,(ae (aJ (au aM (pv 0) ao (aC _)) (show PSs _ _ aO from λ_ _ _ _ _ _ h=>h.elim) av) (ae (aJ (au aM (pv 0) ao (aC _)) (show PSs _ _ aO from λ_ _ _ _ _ _ h=>h.elim) av) (ae (aJ (au aM (pv 0) ao (aC _)) (show PSs _ _ aO from λ_ _ _ _ _ _ h=>h.elim) av) (ae (aJ (au aM (pv 0) ao (aC _)) (show PSs _ _ aO from λ_ _ _ _ _ _ h=>h.elim) av) (ae (aJ (au aM (pv 0) ao (aC _)) (show PSs _ _ aO from λ_ _ _ _ _ _ h=>h.elim) av) (ae (aJ (au aM (pv 0) ao (aC _)) (aq (aD (bX X_lack (hr.mono (by omega)) rfl (aa (pv 1) (aa (pv 2) ah))))) av) (show PSs _ _ aO from λ_ _ _ _ _ _ h=>h.elim))))))),?_⟩;refine ⟨_,rfl,rfl,_,rfl,aT ?_⟩;refine ⟨_,rfl,rfl,_,rfl,aT ?_⟩;refine ⟨_,rfl,rfl,_,rfl,aT ?_⟩;refine ⟨_,rfl,rfl,_,rfl,aT ?_⟩;refine ⟨_,rfl,rfl,_,rfl,aT ?_⟩;refine ⟨_,rfl,rfl,_,rfl,cj ?_⟩;exact ⟨_,rfl,_,rfl,x,y,a,b,rfl,oa,ob,by omega,du,qx⟩
  | 6,_ =>
   refine ⟨_,(ae (aJ (au aM (pv 0) ao (aC _)) (show PSs _ _ aO from λ_ _ _ _ _ _ h=>h.elim) av) (ae (aJ (au aM (pv 0) ao (aC _)) (show PSs _ _ aO from λ_ _ _ _ _ _ h=>h.elim) av) (ae (aJ (au aM (pv 0) ao (aC _)) (show PSs _ _ aO from λ_ _ _ _ _ _ h=>h.elim) av) (ae (aJ (au aM (pv 0) ao (aC _)) (show PSs _ _ aO from λ_ _ _ _ _ _ h=>h.elim) av) (ae (aJ (au aM (pv 0) ao (aC _)) (show PSs _ _ aO from λ_ _ _ _ _ _ h=>h.elim) av) (ae (aJ (au aM (pv 0) ao (aC _)) (show PSs _ _ aO from λ_ _ _ _ _ _ h=>h.elim) av) (ae (aJ (au aM (pv 0) ao (aC _)) (aq (aD (bX X_alike (hr.mono (by omega)) rfl (aa (pv 1) (aa (pv 2) ah))))) av) (show PSs _ _ aO from λ_ _ _ _ _ _ h=>h.elim)))))))),?_⟩;refine ⟨_,rfl,rfl,_,rfl,aT ?_⟩;refine ⟨_,rfl,rfl,_,rfl,aT ?_⟩;refine ⟨_,rfl,rfl,_,rfl,aT ?_⟩;refine ⟨_,rfl,rfl,_,rfl,aT ?_⟩;refine ⟨_,rfl,rfl,_,rfl,aT ?_⟩;refine ⟨_,rfl,rfl,_,rfl,aT ?_⟩;refine ⟨_,rfl,rfl,_,rfl,cj ?_⟩;exact ⟨_,rfl,_,rfl,x,y,a,b,rfl,oa,ob,by omega,du,qx⟩
  | 7,_ =>
   refine ⟨_, (ae (aJ (au aM (pv 0) ao (aC _)) (show PSs _ _ aO from fun _ _ _ _ _ _ h => h.elim) av) (ae (aJ (au aM (pv 0) ao (aC _)) (show PSs _ _ aO from fun _ _ _ _ _ _ h => h.elim) av) (ae (aJ (au aM (pv 0) ao (aC _)) (show PSs _ _ aO from fun _ _ _ _ _ _ h => h.elim) av) (ae (aJ (au aM (pv 0) ao (aC _)) (show PSs _ _ aO from fun _ _ _ _ _ _ h => h.elim) av) (ae (aJ (au aM (pv 0) ao (aC _)) (show PSs _ _ aO from fun _ _ _ _ _ _ h => h.elim) av) (ae (aJ (au aM (pv 0) ao (aC _)) (show PSs _ _ aO from fun _ _ _ _ _ _ h => h.elim) av) (ae (aJ (au aM (pv 0) ao (aC _)) (show PSs _ _ aO from fun _ _ _ _ _ _ h => h.elim) av) (aq (aD (bX X_holds_for_both (hr.mono (by omega)) rfl (aa (pv 1) (aa (pv 2) (aa (pv 3) ah))))))))))))), ?_⟩
   refine ⟨_,rfl,rfl,_,rfl,aT ?_⟩;refine ⟨_,rfl,rfl,_,rfl,aT ?_⟩;refine ⟨_,rfl,rfl,_,rfl,aT ?_⟩;refine ⟨_,rfl,rfl,_,rfl,aT ?_⟩;refine ⟨_,rfl,rfl,_,rfl,aT ?_⟩;refine ⟨_,rfl,rfl,_,rfl,aT ?_⟩;refine ⟨_,rfl,rfl,_,rfl,aT ?_⟩;exact ⟨_,rfl,_,rfl,_,rfl,x,y,z,a,b,rfl,oa,ob,by omega,du,qx⟩
 ·replace qn:=qn du;clear qx;have nd':=du
  match k,k7 with
  | 0,_ =>
   refine ⟨_,(ae (aJ (au aM (pv 0) ao (aC _)) (aq (aD (aI rE (hr.mono (by omega)) rfl (aa (pv 1) ah)))) av) (show PSs _ _ aO from λ_ _ _ _ _ _ h=>h.elim)),?_⟩;refine ⟨_,rfl,rfl,_,rfl,cj ?_⟩;have n8:¬8 < a.nf:=du;exact ⟨_,rfl,x,a,rfl,oa,by omega,by omega,λp vl vp vt pt T L H' s' _ _ _ _ _ _ _ _ _ _ _=>qn _ H' s'⟩
  | 1,_ =>
   refine ⟨_,(ae (aJ (au aM (pv 0) ao (aC _)) (show PSs _ _ aO from λ_ _ _ _ _ _ h=>h.elim) av) (ae (aJ (au aM (pv 0) ao (aC _)) (aq (aD (aI qZ (hr.mono (by omega)) rfl (aa (pv 1) ah)))) av) (show PSs _ _ aO from λ_ _ _ _ _ _ h=>h.elim))),?_⟩;refine ⟨_,rfl,rfl,_,rfl,aT ?_⟩;refine ⟨_,rfl,rfl,_,rfl,cj ?_⟩;have n8:¬8 < a.nf:=du;exact ⟨_,rfl,x,a,rfl,oa,by omega,by omega,qn⟩
  | 2,_ =>
   refine ⟨_,(ae (aJ (au aM (pv 0) ao (aC _)) (show PSs _ _ aO from λ_ _ _ _ _ _ h=>h.elim) av) (ae (aJ (au aM (pv 0) ao (aC _)) (show PSs _ _ aO from λ_ _ _ _ _ _ h=>h.elim) av) (ae (aJ (au aM (pv 0) ao (aC _)) (aq (aD (aI qY (hr.mono (by omega)) rfl (aa (pv 1) ah)))) av) (show PSs _ _ aO from λ_ _ _ _ _ _ h=>h.elim)))),?_⟩;refine ⟨_,rfl,rfl,_,rfl,aT ?_⟩;refine ⟨_,rfl,rfl,_,rfl,aT ?_⟩;refine ⟨_,rfl,rfl,_,rfl,cj ?_⟩;have n8:¬8 < a.nf:=du;exact ⟨_,rfl,x,a,rfl,oa,by omega,by omega,λT L _ _ _=>⟨λ_ H' s'=>qn _ H' s',λn x y t p H' _ s' _ _=>qn _ H' s'⟩⟩
  | 3,_ =>
   refine ⟨_,(ae (aJ (au aM (pv 0) ao (aC _)) (show PSs _ _ aO from λ_ _ _ _ _ _ h=>h.elim) av) (ae (aJ (au aM (pv 0) ao (aC _)) (show PSs _ _ aO from λ_ _ _ _ _ _ h=>h.elim) av) (ae (aJ (au aM (pv 0) ao (aC _)) (show PSs _ _ aO from λ_ _ _ _ _ _ h=>h.elim) av) (ae (aJ (au aM (pv 0) ao (aC _)) (aq (aD (aI BS (hr.mono (by omega)) rfl (aa (pv 1) ah)))) av) (show PSs _ _ aO from λ_ _ _ _ _ _ h=>h.elim))))),?_⟩;refine ⟨_,rfl,rfl,_,rfl,aT ?_⟩;refine ⟨_,rfl,rfl,_,rfl,aT ?_⟩;refine ⟨_,rfl,rfl,_,rfl,aT ?_⟩;refine ⟨_,rfl,rfl,_,rfl,cj ?_⟩;have n8:¬8 < a.nf:=du;exact ⟨_,rfl,x,a,rfl,oa,by omega,by omega,λv T H' s' _ _ _ _ _=>qn _ H' s'⟩
  | 4,_ =>
   refine ⟨_, (ae (aJ (au aM (pv 0) ao (aC _)) (show PSs _ _ aO from fun _ _ _ _ _ _ h => h.elim) av) (ae (aJ (au aM (pv 0) ao (aC _)) (show PSs _ _ aO from fun _ _ _ _ _ _ h => h.elim) av) (ae (aJ (au aM (pv 0) ao (aC _)) (show PSs _ _ aO from fun _ _ _ _ _ _ h => h.elim) av) (ae (aJ (au aM (pv 0) ao (aC _)) (show PSs _ _ aO from fun _ _ _ _ _ _ h => h.elim) av) (ae (aJ (au aM (pv 0) ao (aC _)) (aq (aD (aI N_holds (hr.mono (by omega)) rfl (aa (pv 1) (aa (pv 3) (so (bB (eM (eM ah))) ah)))))) av) (show PSs _ _ aO from fun _ _ _ _ _ _ h => h.elim)))))), ?_⟩
   refine ⟨_,rfl,rfl,_,rfl,aT ?_⟩;refine ⟨_,rfl,rfl,_,rfl,aT ?_⟩;refine ⟨_,rfl,rfl,_,rfl,aT ?_⟩;refine ⟨_,rfl,rfl,_,rfl,aT ?_⟩;refine ⟨_,rfl,rfl,_,rfl,cj ?_⟩;have n8:¬8 < a.nf:=du;refine ⟨_,rfl,_,rfl,d2,λp hp=>?_⟩;have u:=az hp (.tup [.int 0,.int 1]);exact ⟨x,z,_,a,t,(0,1),rfl,oa.to (Kp.of u),by omega,by omega,dz.ts u.ts,sm,dp,cu,⟨p,rfl,SqT.of af⟩,b0,b1,λH' s'=>qn _ H' (u.trans s')⟩
  | 5,_ =>
   refine ⟨_,(ae (aJ (au aM (pv 0) ao (aC _)) (show PSs _ _ aO from λ_ _ _ _ _ _ h=>h.elim) av) (ae (aJ (au aM (pv 0) ao (aC _)) (show PSs _ _ aO from λ_ _ _ _ _ _ h=>h.elim) av) (ae (aJ (au aM (pv 0) ao (aC _)) (show PSs _ _ aO from λ_ _ _ _ _ _ h=>h.elim) av) (ae (aJ (au aM (pv 0) ao (aC _)) (show PSs _ _ aO from λ_ _ _ _ _ _ h=>h.elim) av) (ae (aJ (au aM (pv 0) ao (aC _)) (show PSs _ _ aO from λ_ _ _ _ _ _ h=>h.elim) av) (ae (aJ (au aM (pv 0) ao (aC _)) (aq (aD (aI N_lack (hr.mono (by omega)) rfl (aa (pv 1) (aa (pv 2) ah))))) av) (show PSs _ _ aO from λ_ _ _ _ _ _ h=>h.elim))))))),?_⟩;refine ⟨_,rfl,rfl,_,rfl,aT ?_⟩;refine ⟨_,rfl,rfl,_,rfl,aT ?_⟩;refine ⟨_,rfl,rfl,_,rfl,aT ?_⟩;refine ⟨_,rfl,rfl,_,rfl,aT ?_⟩;refine ⟨_,rfl,rfl,_,rfl,aT ?_⟩;refine ⟨_,rfl,rfl,_,rfl,cj ?_⟩;have n8:¬7 < a.nf+b.nf:=du;exact ⟨_,rfl,_,rfl,x,y,a,b,rfl,oa,ob,by omega,by omega,λp vl vp vt pt T L H' s' _ _ _ _ _ _ _ _ _ _ _=>qn _ H' s'⟩
  | 6,_ =>
   refine ⟨_,(ae (aJ (au aM (pv 0) ao (aC _)) (show PSs _ _ aO from λ_ _ _ _ _ _ h=>h.elim) av) (ae (aJ (au aM (pv 0) ao (aC _)) (show PSs _ _ aO from λ_ _ _ _ _ _ h=>h.elim) av) (ae (aJ (au aM (pv 0) ao (aC _)) (show PSs _ _ aO from λ_ _ _ _ _ _ h=>h.elim) av) (ae (aJ (au aM (pv 0) ao (aC _)) (show PSs _ _ aO from λ_ _ _ _ _ _ h=>h.elim) av) (ae (aJ (au aM (pv 0) ao (aC _)) (show PSs _ _ aO from λ_ _ _ _ _ _ h=>h.elim) av) (ae (aJ (au aM (pv 0) ao (aC _)) (show PSs _ _ aO from λ_ _ _ _ _ _ h=>h.elim) av) (ae (aJ (au aM (pv 0) ao (aC _)) (aq (aD (aI N_alike (hr.mono (by omega)) rfl (aa (pv 1) (aa (pv 2) ah))))) av) (show PSs _ _ aO from λ_ _ _ _ _ _ h=>h.elim)))))))),?_⟩;refine ⟨_,rfl,rfl,_,rfl,aT ?_⟩;refine ⟨_,rfl,rfl,_,rfl,aT ?_⟩;refine ⟨_,rfl,rfl,_,rfl,aT ?_⟩;refine ⟨_,rfl,rfl,_,rfl,aT ?_⟩;refine ⟨_,rfl,rfl,_,rfl,aT ?_⟩;refine ⟨_,rfl,rfl,_,rfl,aT ?_⟩;refine ⟨_,rfl,rfl,_,rfl,cj ?_⟩;have n8:¬8 < a.nf+b.nf:=du;exact ⟨_,rfl,_,rfl,x,y,a,b,rfl,oa,ob,by omega,by omega,λp vt T L H' s' _ _ _ _ _ _ _ _=>qn _ H' s',λp vc k H' s' _ _ _ _ _ _=>qn _ H' s'⟩
  | 7,_ =>
   refine ⟨_, (ae (aJ (au aM (pv 0) ao (aC _)) (show PSs _ _ aO from fun _ _ _ _ _ _ h => h.elim) av) (ae (aJ (au aM (pv 0) ao (aC _)) (show PSs _ _ aO from fun _ _ _ _ _ _ h => h.elim) av) (ae (aJ (au aM (pv 0) ao (aC _)) (show PSs _ _ aO from fun _ _ _ _ _ _ h => h.elim) av) (ae (aJ (au aM (pv 0) ao (aC _)) (show PSs _ _ aO from fun _ _ _ _ _ _ h => h.elim) av) (ae (aJ (au aM (pv 0) ao (aC _)) (show PSs _ _ aO from fun _ _ _ _ _ _ h => h.elim) av) (ae (aJ (au aM (pv 0) ao (aC _)) (show PSs _ _ aO from fun _ _ _ _ _ _ h => h.elim) av) (ae (aJ (au aM (pv 0) ao (aC _)) (show PSs _ _ aO from fun _ _ _ _ _ _ h => h.elim) av) (aq (aD (aI N_holds_for_both (hr.mono (by omega)) rfl (aa (pv 1) (aa (pv 2) (aa (pv 3) ah))))))))))))), ?_⟩
   refine ⟨_,rfl,rfl,_,rfl,aT ?_⟩;refine ⟨_,rfl,rfl,_,rfl,aT ?_⟩;refine ⟨_,rfl,rfl,_,rfl,aT ?_⟩;refine ⟨_,rfl,rfl,_,rfl,aT ?_⟩;refine ⟨_,rfl,rfl,_,rfl,aT ?_⟩;refine ⟨_,rfl,rfl,_,rfl,aT ?_⟩;refine ⟨_,rfl,rfl,_,rfl,aT ?_⟩;have n8:¬8 < a.nf+b.nf:=du;exact ⟨_,rfl,_,rfl,_,rfl,x,y,z,a,b,t,rfl,oa,ob,by omega,by omega,dz,sm,dp,cu,λH' s'=>qn _ H' s'⟩
end
section
variable {P:Program} {w:World} {K:W.Frag} {mg:Str->Option Value} {base:Heap} {c:CCs}
theorem zm:aE ["_law_cells"] ["_law_cells"] (ak sNext):=L2.fsc rfl (by decide+kernel)
theorem ok_next (T:aF K mg "_law_next" sNext) (cK:mg "len"=none):Def P w K mg base 1 "_law_next" ["_law_cells"] xG:=by
 refine aW T zm (λ_ _ _ _ _ _=>L2.ar1 λ_=>rfl) ?_ ?_
 ·walk_at "i1";obtain ⟨l,ms,rfl,_⟩:=h;rfl
 walk_at "i2";obtain ⟨l,ms,rfl,e,hc,q⟩:=h;have nd:=zm.nd
 refine ⟨_,(ae (aJ (au aM (aN di rfl cK (by decide+kernel) (aa (pv 0) ah)) ao (aC _)) (aq (aD ao)) av)
  (aq (aD (dP PySem.F.plainAttrs_list PySem.F.slot_list_pop PySem.F.type_list_pop Ea (pv 0) (eM ah))))),?_⟩
 refine ⟨_,rfl,_,_,rfl,.inl ⟨_,SqL.of e,rfl⟩,rfl,_,rfl,?_⟩;refine gG (λz=>?_) (λz=>?_)
 ·exact q 0 ms H cel0 hc (SB.refl _ _) e
 ·cases ms with
  | nil=>exact absurd (decide_eq_true rfl) z
  | cons m r =>
   refine ⟨_,rfl,.inl ⟨rfl,_,SqL.of e⟩,l,_,0,0,V.int m,rfl,rfl,e,by decide,by decide,seqIndex_of (Int.le_refl 0) (by rw [List.length_map,List.length_cons];omega),rfl,?_⟩;exact q m r _ (hc m (by simp)) (λn hn=>hc n (List.mem_cons_of_mem _ hn)) (jO _ _) af
end
section
variable {P:Program} {w:World} {K:W.Frag} {mg:Str->Option Value} {base:Heap} {c:CCs}
theorem vo:aE wu ["_law_script","_law_least"] (ak tH):=L2.fsc rfl (by decide+kernel)
theorem DJ (T:aF K mg "_law_mixed" tH) (cK:mg "len"=none) (dR:mg "max"=none) (cT:mg "min"=none) (eW:mg "range"=none) (ke:mg "abs"=none) (sU:mg "int"=none):Def P w K mg base 1 "_law_mixed" ["_law_script","_law_least"] (zc K):=by
 refine aW T vo (λ_ _ _ _ _ _=>L2.ar2 λ_ _=>rfl) ?_ ?_
 ·walk_at "i1";obtain ⟨a,ns,k,rfl,_⟩:=h;rfl
 walk_at "i2";obtain ⟨a,ns,k,rfl,S,k0,k1,q⟩:=h;have nd:=vo.nd;have hlen:=S.few
 have tail:∃ t,PSs (eO CX0 P w K mg base wu "_law_mixed" (ak tH) f cdv A outer s H E).nox ((bP tH).drop 1) t/\∀ b:Bool,t {nx:=λ_ H'=>Q .non H',rt:=Q} [some (.ref a),some (.int k),some (.bl b),none,none,none] H:=by
  refine ⟨_,(ae (aG (i:=3) nd rfl (Or.inl rfl) (bO ah))
  (ae (eE PassesOwn.never rfl (nG rfl eW (aa (aN (kI rfl) rfl dR (by decide+kernel) (aa (aP dB (pv 1) ao) (aa (aN (je rfl) rfl cT (by decide+kernel) (eM (aa (aN di rfl cK (by decide+kernel) (aa (pv 0) ah)) ah))) ah))) ah)) (aV (i:=4) nd rfl (Or.inl rfl)) (ae (aG (i:=5) nd rfl (Or.inl rfl) ao)
  (ae (aJ (au oA (pv 4) (aN di rfl cK (by decide+kernel) (aa (pv 0) ah)) (aC _)) (aq (aG (i:=5) nd rfl (Or.inl rfl) (aK bY (pv 0) (pv 4) (λ_ _=>rfl)))) av)
  (aq (aJ (PW.pt (xO (qk (pv 2) (λ_=>rfl)) (zF (Dp oA oA ao (pv 4) (aN di rfl cK (by decide+kernel) (aa (pv 0) ah)))))) (aq (aZ (dP PySem.F.plainAttrs_list PySem.F.slot_list_append PySem.F.type_list_append bA (pv 3) (aa (aN jZ rfl ke (by decide+kernel) (aa (pv 5) ah)) ah)))) (aq (aZ (dP PySem.F.plainAttrs_list PySem.F.slot_list_append PySem.F.type_list_append bA (pv 3) (aa (aP jW (aP bH (aP jW (aP dB (aP bH (aP jW (pv 5) (aP op_pow ao ao)) ao) (aP bH ao (aP dB (pv 4) ao))) ao) ao) ao) ah)))))))))
  (aq (aD (qo tD (pv 3) (tQ (iY BG rfl sU (by decide+kernel) (aa (pv 2) ah))) tR))))),?_⟩
  intro b;refine ⟨(by show 0<=sizeLine;decide),λD hD=>?_⟩;refine ⟨_,rfl,_,_,rfl,rfl,_,rfl,_,_,rfl,.inl ⟨_,(az hD _).seq S.l,rfl⟩,_,_,rfl,_,_,rfl,_,rfl,?_,?_,?_⟩
  ·rw [nL,qC,List.length_map];omega
  ·rw [nL,qC,List.length_map];omega
  rw [nL,qC,List.length_map];have hN:(max (k+1) (min 63 (ns.length:Int))).toNat<=1000:=by omega
  refine kG (λi σ H2=>∃(ms:List Int) (o4 o5:Option V),σ=[some (.ref a),some (.int k),some (.bl b),some (.ref D),o4,o5]/\aH H H2/\H2 D=some (.lst (ms.map V.int))/\ms.length=i/\∀ m∈ms,Cel m)
   ⟨[],_,_,rfl,az hD _,af,rfl,λ_ h=>nomatch h⟩ (λi σ H2 hi h=>?_) (λσ H2 h=>?_)
  ·obtain ⟨ms,o4,o5,rfl,sm,e,hm,hc⟩:=h;have S2:=S.to sm
   have next:∀ v:Int,Cel v->∀ z:Int,∃(ms':List Int) (o4 o5:Option V),[some (V.ref a),some (.int k),some (.bl b),some (.ref D),some (.int (0+(i:Int))),some (.int z)]=[some (V.ref a),some (.int k),some (.bl b),some (.ref D),o4,o5]/\aH H (upd H2 D (.lst (ms.map V.int++[V.int v])))/\
     upd H2 D (.lst (ms.map V.int++[V.int v])) D=some (.lst (ms'.map V.int))/\ms'.length=i+1/\∀ m∈ms',Cel m:=λv cv z=>by
    refine ⟨ms++[v],_,_,rfl,λd o zz=>?_,by rw [af,List.map_append];rfl,by rw [List.length_append,hm];rfl,λm hm'=>?_⟩
    ·rw [aB (aA zz hD)];exact sm d o zz
    ·rcases List.mem_append.mp hm' with zz | zz
     ·exact hc m zz
     ·have:m=v:=by simpa using zz
      rw [this];exact cv
   have ml:(ms.map V.int).length < sizeLine:=by rw [List.length_map,hm];exact Nat.lt_of_lt_of_le hi (Nat.le_trans hN (by decide))
   have lenV:∃ xs,SqL K H2 a xs/\(ns.length:Nat)=xs.length:=⟨_,S2.l,(List.length_map _).symm⟩;refine ⟨_,rfl,_,rfl,_,ns.length,rfl,.inl lenV,_,_,rfl,rfl,_,rfl,?_⟩
   have cellOk:∃ z:Int,Builtin.Int.intBits z<=1048576/\(decide ((0+(i:Int)) < (ns.length:Int))=true->atI (ns.map V.int) (0+(i:Int))=some (V.int z))/\(¬decide ((0+(i:Int)) < (ns.length:Int))=true->z=0):=by
    by_cases hlt:i < ns.length
    ·refine ⟨ns[i],S.bit _ (List.getElem_mem hlt),λ_=>?_,λz=>absurd (decide_eq_true (by omega)) z⟩;rw [Int.zero_add];exact bS (by rw [List.getElem?_map,List.getElem?_eq_getElem hlt];rfl)
    ·exact ⟨0,by decide,λz=>absurd (of_decide_eq_true z) (by omega),λ_=>rfl⟩
   obtain ⟨z,hz,hz1,hz2⟩:=cellOk;refine gG (λg=>?a) (λg=>?b)
   case' a=>refine ⟨_,rfl,_,rfl,_,_,_,_,rfl,rfl,S2.l,hz1 g,?_⟩
   case' b=>have ez:=hz2 g;subst ez
   all_goals
    cases b with
    | false =>
     refine ⟨_,rfl,false,rfl,aT (aT ?_)⟩;refine ⟨_,rfl,.inl ⟨rfl,_,SqL.of e⟩,_,rfl,_,_,rfl,rfl,⟨by decide,by decide,by decide⟩,_,_,rfl,rfl,(show (0:Int) < 10 ^ (Int.toNat 18) by decide+kernel),_,_,rfl,rfl,jb (by decide+kernel),_,rfl,_,_,rfl,rfl,_,_,rfl,rfl,qw (by decide+kernel),_,_,rfl,rfl,_,_,rfl,rfl,(show (0:Int) < 2147483647 by decide),_,_,rfl,rfl,jb (by decide+kernel),_,_,rfl,rfl,(show (0:Int) < 2147483629 by decide),D,_,_,rfl,rfl,e,ml,?_⟩;exact next _ (nQ (Int.emod_nonneg _ (by decide)) (Int.lt_trans (Int.emod_lt_of_pos _ (by decide)) (by decide))) _
    | true =>
     refine ⟨_,rfl,true,rfl,cj ?_⟩;refine ⟨_,rfl,_,_,rfl,rfl,_,rfl,?_⟩;refine gG (λg1=>?_) (λg1=>?_)
     ·refine ⟨_,rfl,_,ns.length,rfl,.inl lenV,_,_,rfl,rfl,_,rfl,?_⟩;refine gG (λg2=>?_) (λg2=>?_)
      ·refine ⟨_,rfl,.inl ⟨rfl,_,SqL.of e⟩,_,rfl,_,rfl,D,_,_,rfl,rfl,e,ml,?_⟩;exact next _ (cel_abs hz) _
      ·refine ⟨_,rfl,.inl ⟨rfl,_,SqL.of e⟩,_,rfl,_,_,rfl,rfl,⟨by decide,by decide,by decide⟩,_,_,rfl,rfl,(show (0:Int) < 10 ^ (Int.toNat 18) by decide+kernel),_,_,rfl,rfl,jb (by decide+kernel),_,rfl,_,_,rfl,rfl,_,_,rfl,rfl,qw (by decide+kernel),_,_,rfl,rfl,_,_,rfl,rfl,(show (0:Int) < 2147483647 by decide),_,_,rfl,rfl,jb (by decide+kernel),_,_,rfl,rfl,(show (0:Int) < 2147483629 by decide),D,_,_,rfl,rfl,e,ml,?_⟩;exact next _ (nQ (Int.emod_nonneg _ (by decide)) (Int.lt_trans (Int.emod_lt_of_pos _ (by decide)) (by decide))) _
     ·refine ⟨_,rfl,aT ?_⟩;refine ⟨_,rfl,.inl ⟨rfl,_,SqL.of e⟩,_,rfl,_,_,rfl,rfl,⟨by decide,by decide,by decide⟩,_,_,rfl,rfl,(show (0:Int) < 10 ^ (Int.toNat 18) by decide+kernel),_,_,rfl,rfl,jb (by decide+kernel),_,rfl,_,_,rfl,rfl,_,_,rfl,rfl,qw (by decide+kernel),_,_,rfl,rfl,_,_,rfl,rfl,(show (0:Int) < 2147483647 by decide),_,_,rfl,rfl,jb (by decide+kernel),_,_,rfl,rfl,(show (0:Int) < 2147483629 by decide),D,_,_,rfl,rfl,e,ml,?_⟩;exact next _ (nQ (Int.emod_nonneg _ (by decide)) (Int.lt_trans (Int.emod_lt_of_pos _ (by decide)) (by decide))) _
  ·obtain ⟨ms,o4,o5,rfl,sm,e,hm,hc⟩:=h;refine ⟨_,rfl,_,rfl,.inr ⟨b,rfl,_,rfl,D,_,rfl,SqL.of e,λp hp=>?_⟩⟩;obtain ⟨ms',em,hm'⟩:=cut_int ms (some (if b then 1 else 0)) none;rw [em];have np:H p=none:=sm.free hp;exact q p ms' _ (λd o zz=>by rw [aB (aA zz np)];exact sm d o zz) np af λm h=>hc m (hm' m h)
 obtain ⟨t1,ht1,hq1⟩:=tail;refine ⟨_,ae (aG (i:=2) nd rfl (Or.inl rfl) (tW (gw qq (aN di rfl cK (by decide+kernel) (aa (pv 0) ah)) ao (aC _)) (xP (gw aM (aP jW (aK bY (pv 0) ao (λ_ _=>rfl)) ao) ao (aC _))))) ht1,?_⟩;refine ⟨_,rfl,_,ns.length,rfl,.inl ⟨_,S.l,(List.length_map _).symm⟩,_,_,rfl,rfl,_,rfl,?_⟩;refine gG (λg=>?_) (λg=>?_)
 ·cases ns with
  | nil=>exact absurd (of_decide_eq_true g) (by decide)
  | cons n r=>exact ⟨_,rfl,_,_,_,_,rfl,rfl,S.l,bS (j:=0) rfl,_,_,rfl,rfl,(show (0:Int) < 2 by decide),rfl,hq1 _⟩
 ·exact hq1 false
end
def Cz (c:CCs) (n:Nat):Sp:=λvs H Q _=>∃(a:Addr) (t:Tr),vs=[.ref a]/\Tu H a t/\t.size<=n/\∀ x H',aH H H'->Ob c H' x t->Q (.ref x) H'
section
variable {P:Program} {w:World} {K:W.Frag} {mg:Str->Option Value} {base:Heap} {c:CCs}
theorem pZ:aE ["_law_tree","_law_one","_law_other"] ["_law_tree"] (ak zu):=L2.fsc rfl (by decide+kernel)
theorem DI (T:aF K mg "_law_object" zu) (N_never:Mk0 K c.ne) (M_never:mg "Never"=some (.ref c.ne)) (qZ:Mk0 K c.al) (Ff:mg "Always"=some (.ref c.al)) (Fh:mL P w K mg base "Letter" c.le 1 ["self","name"] (ko c.le mC)) (K_not:mL P w K mg base "Not" c.no 1 ["self","part"] (ko c.no qO)) (iw:∀ u:W5,mL P w K mg base u.cls (c.fold u) 1 ["self","one","other"] (kj (c.fold u))):∀ n:Nat,Def P w K mg base (n+3) "_law_object" ["_law_tree"] (Cz c n):=by
 intro n
 induction n with
 | zero =>
  refine aW T pZ (λ_ _ _ _ _ _=>L2.ar1 λ_=>rfl) ?_ ?_
  ·walk_at "i1";obtain ⟨a,t,rfl,_⟩:=h;rfl
  ·walk_at "i2";obtain ⟨a,t,rfl,_,z,_⟩:=h;have:=t.size_pos;omega
 | succ n eB =>
  refine aW T pZ (λ_ _ _ _ _ _=>L2.ar1 λ_=>rfl) ?_ ?_
  ·walk_at "i1";obtain ⟨a,t,rfl,_⟩:=h;rfl
  walk_at "i2";obtain ⟨a,t,rfl,tu,hz,q⟩:=h;have nd:=pZ.nd;refine ⟨_,(ae (aJ (au aM (aK aL (pv 0) ao (λ_ _=>rfl)) aR (aC _)) (aq (aD (vQ N_never rfl M_never))) av)
  (ae (aJ (au aM (aK aL (pv 0) ao (λ_ _=>rfl)) aR (aC _)) (aq (aD (vQ qZ rfl Ff))) av)
  (ae (aJ (au AM (aK aL (pv 0) ao (λ_ _=>rfl)) (bB (aa aR (aa aR ah))) rfl) (aq (aD (kQ Fh (hr.mono (by omega)) rfl (aa (aK aL (pv 0) ao (λ_ _=>rfl)) ah)))) av)
  (ae (aJ (au aM (aK aL (pv 0) ao (λ_ _=>rfl)) aR (aC _)) (aq (aD (kQ K_not (hr.mono (by omega)) rfl (aa (aI eB (hr.mono (by omega)) rfl (aa (aK aL (pv 0) ao (λ_ _=>rfl)) ah)) ah)))) av)
  (ae (aG (i:=1) nd rfl (Or.inl rfl) (aI eB (hr.mono (by omega)) rfl (aa (aK aL (pv 0) ao (λ_ _=>rfl)) ah)))
  (ae (aG (i:=2) nd rfl (Or.inl rfl) (aI eB (hr.mono (by omega)) rfl (aa (aK aL (pv 0) ao (λ_ _=>rfl)) ah)))
  (ae (aJ (au aM (aK aL (pv 0) ao (λ_ _=>rfl)) aR (aC _)) (aq (aD (kQ (iw .more) (hr.mono (by omega)) rfl (aa (pv 1) (aa (pv 2) ah))))) av)
  (ae (aJ (au aM (aK aL (pv 0) ao (λ_ _=>rfl)) aR (aC _)) (aq (aD (kQ (iw .less) (hr.mono (by omega)) rfl (aa (pv 1) (aa (pv 2) ah))))) av)
  (ae (aJ (au aM (aK aL (pv 0) ao (λ_ _=>rfl)) aR (aC _)) (aq (aD (kQ (iw .greater) (hr.mono (by omega)) rfl (aa (pv 1) (aa (pv 2) ah))))) av)
  (ae (aJ (au aM (aK aL (pv 0) ao (λ_ _=>rfl)) aR (aC _)) (aq (aD (kQ (iw .lesser) (hr.mono (by omega)) rfl (aa (pv 1) (aa (pv 2) ah))))) av)
  (aq (aD (kQ (iw .leads) (hr.mono (by omega)) rfl (aa (pv 1) (aa (pv 2) ah))))))))))))))),?_⟩
  cases tu with
  | never e =>
   refine ⟨_,rfl,_,_,_,_,rfl,rfl,SqT.of e,rfl,rfl,_,rfl,ite_yes rfl (λz dz h1 h2 ne=>?_)⟩;exact q z _ (qh (C:=c.ne) h1 h2) (.never af)
  | always e =>
   refine ⟨_,rfl,_,_,_,_,rfl,rfl,SqT.of e,rfl,rfl,_,rfl,ite_no (by decide+kernel) ?_⟩;refine ⟨_,rfl,_,_,_,_,rfl,rfl,SqT.of e,rfl,rfl,_,rfl,ite_yes rfl (λz dz h1 h2 ne=>?_)⟩;exact q z _ (qh (C:=c.al) h1 h2) (.always af)
  | lp e =>
   refine ⟨_,rfl,_,_,_,_,rfl,rfl,SqT.of e,rfl,rfl,_,rfl,ite_no (by decide+kernel) ?_⟩;refine ⟨_,rfl,_,_,_,_,rfl,rfl,SqT.of e,rfl,rfl,_,rfl,ite_no (by decide+kernel) ?_⟩;refine ⟨_,rfl,_,_,_,_,rfl,rfl,SqT.of e,rfl,(by show 2<=sizeLine;decide),λp hp=>⟨p,_,rfl,.inr (SqT.of af),rfl,rfl,_,rfl,Ej pq_p ?_⟩⟩;have s0:=az hp (.tup [V.str "p",.str "q"]);refine ⟨_,rfl,_,_,_,_,rfl,rfl,SqT.of (s0 _ _ e),rfl,λz dz h1 h2 ne=>⟨z,dz,_,rfl,af,rfl,?_⟩⟩;exact q z _ (s0.trans (fT (C:=c.le) (fs:=mC (.str "p")) h1 h2 ne)) (.lp af)
  | lq e =>
   refine ⟨_,rfl,_,_,_,_,rfl,rfl,SqT.of e,rfl,rfl,_,rfl,ite_no (by decide+kernel) ?_⟩;refine ⟨_,rfl,_,_,_,_,rfl,rfl,SqT.of e,rfl,rfl,_,rfl,ite_no (by decide+kernel) ?_⟩;refine ⟨_,rfl,_,_,_,_,rfl,rfl,SqT.of e,rfl,(by show 2<=sizeLine;decide),λp hp=>⟨p,_,rfl,.inr (SqT.of af),rfl,rfl,_,rfl,Ej pq_q ?_⟩⟩;have s0:=az hp (.tup [V.str "p",.str "q"]);refine ⟨_,rfl,_,_,_,_,rfl,rfl,SqT.of (s0 _ _ e),rfl,λz dz h1 h2 ne=>⟨z,dz,_,rfl,af,rfl,?_⟩⟩;exact q z _ (s0.trans (fT (C:=c.le) (fs:=mC (.str "q")) h1 h2 ne)) (.lq af)
  | @no _ b x e tb =>
   have hz':x.size+1<=n+1:=hz;refine ⟨_,rfl,_,_,_,_,rfl,rfl,SqT.of e,rfl,rfl,_,rfl,ite_no (by decide+kernel) ?_⟩;refine ⟨_,rfl,_,_,_,_,rfl,rfl,SqT.of e,rfl,rfl,_,rfl,ite_no (by decide+kernel) ?_⟩;refine ⟨_,rfl,_,_,_,_,rfl,rfl,SqT.of e,rfl,(by show 2<=sizeLine;decide),λp hp=>⟨p,_,rfl,.inr (SqT.of af),rfl,rfl,_,rfl,in_no pq_not ?_⟩⟩;have s0:=az hp (.tup [V.str "p",.str "q"]);refine ⟨_,rfl,_,_,_,_,rfl,rfl,SqT.of (s0 _ _ e),rfl,rfl,_,rfl,ite_yes rfl ?_⟩;refine ⟨_,rfl,_,_,_,_,rfl,rfl,SqT.of (s0 _ _ e),rfl,b,x,rfl,tb.to (Kp.of s0),by omega,λy H2 s2 oy=>?_⟩;have s02:=s0.trans s2;refine λz dz h1 h2 ne=>⟨z,dz,_,rfl,af,rfl,?_⟩;have sm:=fT (C:=c.no) (fs:=qO (.ref y)) h1 h2 ne;exact q z _ (s02.trans sm) (.no af (oy.to (Kp.of sm)))
  | @fold _ b d u x y e tb td =>
   have hz':x.size+y.size+1<=n+1:=hz;refine ⟨_,rfl,_,_,_,_,rfl,rfl,SqT.of e,rfl,rfl,_,rfl,ite_no (w_ne u) ?_⟩;refine ⟨_,rfl,_,_,_,_,rfl,rfl,SqT.of e,rfl,rfl,_,rfl,ite_no (w_al u) ?_⟩;refine ⟨_,rfl,_,_,_,_,rfl,rfl,SqT.of e,rfl,(by show 2<=sizeLine;decide),λp hp=>⟨p,_,rfl,.inr (SqT.of af),rfl,rfl,_,rfl,in_no (pq_w u) ?_⟩⟩;have s0:=az hp (.tup [V.str "p",.str "q"]);refine ⟨_,rfl,_,_,_,_,rfl,rfl,SqT.of (s0 _ _ e),rfl,rfl,_,rfl,ite_no (w_not u) ?_⟩;refine ⟨_,rfl,_,_,_,_,rfl,rfl,SqT.of (s0 _ _ e),rfl,b,x,rfl,tb.to (Kp.of s0),by omega,λv1 H2 s2 o1=>?_⟩;have s02:=s0.trans s2;refine ⟨_,rfl,_,_,_,_,rfl,rfl,SqT.of (s02 _ _ e),rfl,d,y,rfl,td.to (Kp.of s02),by omega,λv2 H3 s3 o2=>?_⟩;have s03:=s02.trans s3;have o1':=o1.to (Kp.of s3);have e3:=s03 _ _ e;have fin:∀(z dz:Addr),H3 z=none->H3 dz=none->dz≠z->Q (.ref z) (upd (upd (upd H3 dz (.own z)) z (.ins (c.fold u) dz [])) z (.ins (c.fold u) dz (lG (.ref v1) (.ref v2)))):=λz dz h1 h2 ne=>Bl (Q:=Q) h1 h2 ne o1' o2 λe' H' s' o'=>q e' H' (s03.trans s') o';cases u
   ·refine ⟨_,rfl,_,_,_,_,rfl,rfl,SqT.of e3,rfl,rfl,_,rfl,ite_yes rfl ?_⟩;exact ⟨_,rfl,_,rfl,λz dz h1 h2 ne=>⟨z,dz,_,_,rfl,af,rfl,fin z dz h1 h2 ne⟩⟩
   ·refine ⟨_,rfl,_,_,_,_,rfl,rfl,SqT.of e3,rfl,rfl,_,rfl,ite_no (by decide+kernel) ?_⟩;refine ⟨_,rfl,_,_,_,_,rfl,rfl,SqT.of e3,rfl,rfl,_,rfl,ite_yes rfl ?_⟩;exact ⟨_,rfl,_,rfl,λz dz h1 h2 ne=>⟨z,dz,_,_,rfl,af,rfl,fin z dz h1 h2 ne⟩⟩
   ·refine ⟨_,rfl,_,_,_,_,rfl,rfl,SqT.of e3,rfl,rfl,_,rfl,ite_no (by decide+kernel) ?_⟩;refine ⟨_,rfl,_,_,_,_,rfl,rfl,SqT.of e3,rfl,rfl,_,rfl,ite_no (by decide+kernel) ?_⟩;refine ⟨_,rfl,_,_,_,_,rfl,rfl,SqT.of e3,rfl,rfl,_,rfl,ite_yes rfl ?_⟩;exact ⟨_,rfl,_,rfl,λz dz h1 h2 ne=>⟨z,dz,_,_,rfl,af,rfl,fin z dz h1 h2 ne⟩⟩
   ·refine ⟨_,rfl,_,_,_,_,rfl,rfl,SqT.of e3,rfl,rfl,_,rfl,ite_no (by decide+kernel) ?_⟩;refine ⟨_,rfl,_,_,_,_,rfl,rfl,SqT.of e3,rfl,rfl,_,rfl,ite_no (by decide+kernel) ?_⟩;refine ⟨_,rfl,_,_,_,_,rfl,rfl,SqT.of e3,rfl,rfl,_,rfl,ite_no (by decide+kernel) ?_⟩;refine ⟨_,rfl,_,_,_,_,rfl,rfl,SqT.of e3,rfl,rfl,_,rfl,ite_yes rfl ?_⟩;exact ⟨_,rfl,_,rfl,λz dz h1 h2 ne=>⟨z,dz,_,_,rfl,af,rfl,fin z dz h1 h2 ne⟩⟩
   ·refine ⟨_,rfl,_,_,_,_,rfl,rfl,SqT.of e3,rfl,rfl,_,rfl,ite_no (by decide+kernel) ?_⟩;refine ⟨_,rfl,_,_,_,_,rfl,rfl,SqT.of e3,rfl,rfl,_,rfl,ite_no (by decide+kernel) ?_⟩;refine ⟨_,rfl,_,_,_,_,rfl,rfl,SqT.of e3,rfl,rfl,_,rfl,ite_no (by decide+kernel) ?_⟩;refine ⟨_,rfl,_,_,_,_,rfl,rfl,SqT.of e3,rfl,rfl,_,rfl,ite_no (by decide+kernel) ?_⟩;exact ⟨_,rfl,_,rfl,λz dz h1 h2 ne=>⟨z,dz,_,_,rfl,af,rfl,fin z dz h1 h2 ne⟩⟩
end
structure Exc56 (K:W.Frag) (mg:Str->Option Value) (CS CT CN:Addr):Prop where
 ms:mg "SayError"=some (.ref CS)
 cc:iz K CS
 ec:lL K CT
 sub:PySem.W.mroIn K CT (.ref CS)=some true
 k2:PySem.W.kitOne K (.ref CT) (.type "ValueError")=some true
 k3:PySem.W.kitOne K (.ref CT) (.ref CN)=some false
def Cw (c:CCs) (K:W.Frag):Sp:=λvs H Q _=>∃(k:Nat) (x y:Addr) (z:V) (a b:Tr) (t:Hu.Tc),vs=[.int k,.ref x,.ref y,z]/\k<=7/\Ob c H x a/\Ob c H y b/\a.size+b.size<=50/\Dat K H (tcD t) z/\t.Sm 64/\t.deep<=12/\t.gZ<=600/\
 (¬due k a b->∀ H',aH H H'->Q (.bl false) H')/\(due k a b->∀ H',aH H H'->Q (.bl true) H')
section
variable {P:Program} {w:World} {K:W.Frag} {mg:Str->Option Value} {base:Heap} {c:CCs}
theorem xW {CS aX uM:Addr} (T:aF K mg "_law_refused" jQ) (bw:mg "isinstance"=none) (jw:mg "ValueError"=none) (nW:mg "TooMany"=some (.ref aX)) (mM:mg "NoCut"=some (.ref uM)) (X:Exc56 K mg CS aX uM) (uL:cy P w K mg base 18 "_law_asked" ["_law_ask","_law_one","_law_other","_law_tree"] (ze c K aX)):Def P w K mg base 19 "_law_refused" ["_law_ask","_law_one","_law_other","_law_tree"] (Cw c K):=by
 have yM:=X.ms;have xq:=X.cc;refine aW T lW (λ_ _ _ _ _ _=>L2.ar4 λ_ _ _ _=>rfl) ?_ ?_
 ·walk_at "i1";obtain ⟨k,x,y,z,a,b,t,rfl,_⟩:=h;rfl
 walk_at "i2";obtain ⟨k,x,y,z,a,b,t,rfl,k7,oa,ob,sz,dz,sm,dp,cu,qn,qx⟩:=h;have nd:=lW.nd
 refine ⟨_,(ae (aG (i:=4) nd rfl (Or.inl rfl) cI)
  (ae (ps_try (i:=5) rfl rfl rfl rfl uL (hr.mono (by decide)) rfl (aa (pv 0) (aa (pv 1) (aa (pv 2) (aa (pv 3) ah)))) rfl yM xq nd rfl rfl (λ_=>(aq (aG (i:=4) nd rfl (Or.inl rfl) (pv 5)))))
  (ae (aJ (au nH (pv 4) cI (aC _)) (aq (aD kR)) av)
  (ae (aJ (PW.pt (xO (iH (aN nU rfl bw (by decide+kernel) (aa (pv 4) (aa (bV (v:=V.ref aX) rfl nW rfl) ah)))) (xO (iH (aN nU rfl bw (by decide+kernel) (aa (pv 4) (aa (pE (v:=V.ty "ValueError") rfl jw (by decide+kernel) rfl) ah)))) (zF (tN (iH (aN nU rfl bw (by decide+kernel) (aa (pv 4) (aa (bV (v:=V.ref uM) rfl mM rfl) ah))))))))) (aq (aD kR)) av)
  (aq (aD cI)))))),?_⟩
 refine ⟨_,rfl,_,rfl,_,rfl,_,rfl,k,x,y,z,a,b,t,rfl,k7,oa,ob,sz,dz,sm,dp,cu,λdu v H1 s1=>?_,λdu H1 s1=>⟨aX,rfl,X.sub,λea hea=>?_⟩⟩
 ·refine ⟨_,rfl,rfl,_,rfl,cj ?_⟩;exact qn du _ s1
 ·have he:upd H1 ea (.ext (jD ea aX)) ea=some (.ext (jD ea aX)):=af;refine ⟨_,rfl,?_⟩;refine ⟨_,rfl,rfl,_,rfl,aT ?_⟩;refine ⟨_,rfl,ea,_,_,aX,true,rfl,(λ_ h=>h),he,X.ec,qE,_,rfl,cj ⟨_,rfl,ea,_,_,aX,true,rfl,(λ_ h=>h),he,X.ec,X.k2,_,rfl,cj ⟨_,rfl,ea,_,_,aX,false,rfl,(λ_ h=>h),he,X.ec,X.k3,_,rfl,?_⟩⟩⟩;exact qx du _ (s1.trans (az hea _))
end
end Mine
namespace L2
open PySem PySem.Spec PyProof.Rows
inductive Lt where
 | non | bl (b:Bool) | int (i:Int) | str (x:Str) | var (i:Nat) | tup (xs:List Lt) | lst (xs:List Lt) | dic
def visB (sc:Scope) (x:Str):Bool:=match sc.names.lookup x with
 | some .local=>true
 | some .cell=>true
 | some .free=>true
 | _=>false
mutual
def litE (N:List Str) (sc:Scope):Expr->Option Lt
 | .Constant .none _ _=>some .non
 | .Constant (.bool b) _ _=>some (.bl b)
 | .Constant (.int i) _ _=>some (.int i)
 | .Constant (.str x) _ _=>some (.str x)
 | .UnaryOp .USub (.Constant (.int i) _ _) _=>some (.int (-i))
 | .Name x _=>match N.idxOf? x with
  | some i=>if visB sc x && !(x == ("__debug__":Str)) && !(x == ("__classdict__":Str)) then some (.var i) else none
  | none=>none
 | .Tuple es _ _=>match oE N sc es with
  | some xs=>some (.tup xs)
  | none=>none
 | .List es _=>match oE N sc es with
  | some xs=>some (.lst xs)
  | none=>none
 | .Dict [] [] _=>some .dic
 | _=>none
def oE (N:List Str) (sc:Scope):List Expr->Option (List Lt)
 | []=>some []
 | e::es=>match litE N sc e,oE N sc es with
  | some x,some xs=>if plainArg e then some (x::xs) else none
  | _,_=>none
end
mutual
def tLit:Lt->TE
 | .non=>tC .non
 | .bl b=>tC (.bl b)
 | .int i=>tC (.int i)
 | .str x=>tC (.str x)
 | .var i=>tVar i
 | .tup xs=>tTup (uR xs)
 | .lst xs=>tLst (uR xs)
 | .dic=>Cj
def uR:List Lt->TA
 | []=>jE
 | x::xs=>dN (tLit x) (uR xs)
end
mutual
def LtV (σ:St) (H:Hp):Lt->V->Prop
 | .non,v=>v=.non
 | .bl b,v=>v=.bl b
 | .int i,v=>v=.int i
 | .str x,v=>v=.str x
 | .var i,v=>σ[i]?=some (some v)
 | .tup xs,v=>∃ a us,v=.ref a/\H a=some (.tup us)/\nX σ H xs us
 | .lst xs,v=>∃ a us,v=.ref a/\H a=some (.lst us)/\nX σ H xs us
 | .dic,v=>∃ a,v=.ref a/\H a=some (.dK [])
def nX (σ:St) (H:Hp):List Lt->List V->Prop
 | [],us=>us=[]
 | x::xs,us=>∃ u r,us=u::r/\LtV σ H x u/\nX σ H xs r
end
mutual
def Ee (σ:St):Lt->Bool
 | .var i=>match σ[i]? with | some (some _)=>true | _=>false
 | .tup xs=>decide (xs.length<=1000) && lD σ xs
 | .lst xs=>decide (xs.length<=1000) && lD σ xs
 | _=>true
def lD (σ:St):List Lt->Bool
 | []=>true
 | x::xs=>Ee σ x && lD σ xs
end
mutual
theorem LtV.same {σ:St} {H H':Hp} (s:aH H H'):∀{l:Lt} {v:V},LtV σ H l v->LtV σ H' l v
 | .non,_,h=>h
 | .bl _,_,h=>h
 | .int _,_,h=>h
 | .str _,_,h=>h
 | .var _,_,h=>h
 | .tup _,_,⟨a,us,h1,h2,h3⟩=>⟨a,us,h1,s _ _ h2,nX.same s h3⟩
 | .lst _,_,⟨a,us,h1,h2,h3⟩=>⟨a,us,h1,s _ _ h2,nX.same s h3⟩
 | .dic,_,⟨a,h1,h2⟩=>⟨a,h1,s _ _ h2⟩
theorem nX.same {σ:St} {H H':Hp} (s:aH H H'):∀{l:List Lt} {us:List V},nX σ H l us->nX σ H' l us
 | [],_,h=>h
 | _::_,_,⟨u,r,h1,h2,h3⟩=>⟨u,r,h1,LtV.same s h2,nX.same s h3⟩
end
theorem nX.len {σ:St} {H:Hp}:∀{l:List Lt} {us:List V},nX σ H l us->us.length=l.length
 | [],_,h=>by cases (show _=([]:List V) from h);rfl
 | _::_,_,⟨u,r,h1,_,h3⟩=>by subst h1;simp [nX.len h3]
theorem sameNew {H:Hp} {p:Addr} (h:H p=none) (o:HO):aH H (upd H p o):=λb u z=>by rw [aB (aA z h)];exact z
mutual
theorem lit_ok {σ:St}:∀(l:Lt) {H:Hp} {Q:VK},Ee σ l=true->(∀ v H',aH H H'->LtV σ H' l v->Q v H')->tLit l σ H Q
 | .non,H,Q,_,q=>q _ _ (λ_ _ z=>z) rfl
 | .bl _,H,Q,_,q=>q _ _ (λ_ _ z=>z) rfl
 | .int _,H,Q,_,q=>q _ _ (λ_ _ z=>z) rfl
 | .str _,H,Q,_,q=>q _ _ (λ_ _ z=>z) rfl
 | .var i,H,Q,h,q=>by
  have h':(match σ[i]? with | some (some _)=>true | _=>false)=true:=h
  cases e:σ[i]? with
  | none=>rw [e] at h';cases h'
  | some o =>
   cases o with
   | none=>rw [e] at h';cases h'
   | some v=>exact ⟨v,e,q v H (λ_ _ z=>z) e⟩
 | .tup xs,H,Q,h,q=>by
  have h':(decide (xs.length<=1000) && lD σ xs)=true:=h;rw [Bool.and_eq_true] at h';refine uh xs h'.2 λus H1 s1 l1=>⟨?_,λp hp=>?_⟩
  ·rw [l1.len];exact Nat.le_trans (of_decide_eq_true h'.1) (by decide)
  ·have s2:=sameNew hp (.tup us);exact q _ _ (λb o z=>s2 _ _ (s1 _ _ z)) ⟨p,us,rfl,af,l1.same s2⟩
 | .lst xs,H,Q,h,q=>by
  have h':(decide (xs.length<=1000) && lD σ xs)=true:=h;rw [Bool.and_eq_true] at h';refine uh xs h'.2 λus H1 s1 l1=>⟨?_,λp hp=>?_⟩
  ·rw [l1.len];exact Nat.le_trans (of_decide_eq_true h'.1) (by decide)
  ·have s2:=sameNew hp (.lst us);exact q _ _ (λb o z=>s2 _ _ (s1 _ _ z)) ⟨p,us,rfl,af,l1.same s2⟩
 | .dic,H,Q,_,q=>λp hp=>q _ _ (sameNew hp _) ⟨p,rfl,af⟩
theorem uh {σ:St}:∀(l:List Lt) {H:Hp} {Q:List V->Hp->Prop},lD σ l=true->(∀ us H',aH H H'->nX σ H' l us->Q us H')->uR l σ H Q
 | [],H,Q,_,q=>q [] H (λ_ _ z=>z) rfl
 | x::xs,H,Q,h,q=>by
  have h':(Ee σ x && lD σ xs)=true:=h;rw [Bool.and_eq_true] at h';refine lit_ok x h'.1 λv H1 s1 l1=>uh xs h'.2 λus H2 s2 l2=>?_;exact q _ _ (λb o z=>s2 _ _ (s1 _ _ z)) ⟨v,us,rfl,l1.same s2,l2⟩
end
section
variable {X:Cx}
theorem El {N:List Str} {x:Str} {i:Nat} (h:N.idxOf? x=some i):N[i]?=some x:=by
 have:=List.of_findIdx?_eq_some (p:=λy=>y == x) (xs:=N) h;cases e:N[i]? with
 | none=>rw [e] at this;cases this
 | some y =>
  rw [e] at this;have:(y == x)=true:=this;rw [beq_iff_eq] at this;rw [this]
theorem vis_of {sc:Scope} {x:Str} (h:visB sc x=true):Vis sc x:=by
 unfold visB at h;unfold Vis;cases e:sc.names.lookup x with
 | none=>rw [e] at h;cases h
 | some k =>
  rw [e] at h;cases k with
  | «local»=>exact .inl rfl
  | cell=>exact .inr (.inl rfl)
  | free=>exact .inr (.inr rfl)
  | globalExplicit=>cases h
  | globalImplicit=>cases h
mutual
theorem pe_litN {N:List Str} {sc:Scope} (eN:X.N=N) (es:X.env.scope=sc):∀(e:Expr) {l:Lt},litE N sc e=some l->PE X e (tLit l):=λe l h=>by
 cases e with
 | Constant c k p =>
  cases c with
  | none=>cases h;exact cI
  | bool b=>cases h;exact kR
  | int i=>cases h;exact ao
  | str x=>cases h;exact aR
  | _=>cases h
 | UnaryOp o a p =>
  cases o with
  | USub =>
   cases a with
   | Constant c k q =>
    cases c with
    | int i =>
     cases h
     intro pins s σ H Q I q;exact oz jI ao pins s σ H Q I ⟨i,rfl,q⟩
    | _=>cases h
   | _=>cases h
  | _=>cases h
 | Name x p =>
  unfold litE at h;cases z:N.idxOf? x with
  | none=>rw [z] at h;cases h
  | some i =>
   rw [z] at h;dsimp only at h
   by_cases c:(visB sc x && !(x == ("__debug__":Str)) && !(x == ("__classdict__":Str)))=true
   ·rw [if_pos c] at h;cases h
    rw [Bool.and_eq_true,Bool.and_eq_true] at c;exact Dt (by rw [eN];exact El z) (by rw [es];exact vis_of c.1.1) (by simpa using c.1.2) (by simpa using c.2)
   ·rw [if_neg c] at h;cases h
 | Tuple xs c p =>
  unfold litE at h;cases z:oE N sc xs with
  | none=>rw [z] at h;cases h
  | some ls=>rw [z] at h;cases h;exact bB (tX eN es xs z)
 | List xs p =>
  unfold litE at h;cases z:oE N sc xs with
  | none=>rw [z] at h;cases h
  | some ls=>rw [z] at h;cases h;exact bO (tX eN es xs z)
 | Dict ks vs p =>
  cases ks with
  | nil =>
   cases vs with
   | nil=>cases h;exact Dv
   | cons _ _=>cases h
  | cons _ _=>cases h
 | _=>cases h
theorem tX {N:List Str} {sc:Scope} (eN:X.N=N) (es:X.env.scope=sc):∀(xs:List Expr) {ls:List Lt},oE N sc xs=some ls->PA X xs (uR ls)
 | [],ls,h=>by cases h;exact ah
 | e::r,ls,h=>by
  unfold oE at h;cases z1:litE N sc e with
  | none=>rw [z1] at h;cases h
  | some x =>
   cases z2:oE N sc r with
   | none=>rw [z1,z2] at h;cases h
   | some ys =>
    rw [z1,z2] at h;dsimp only at h
    by_cases c:plainArg e=true
    ·rw [if_pos c] at h;cases h
     exact paS (pe_litN eN es e z1) (tX eN es r z2) c
    ·rw [if_neg c] at h;cases h
end
structure Hold (X:Cx) (ss:List Stmt) (t:TS):Prop where
 h:PSs X ss t
end
structure HE (X:Cx) (e:Expr) (t:TE):Prop where
 h:PE X e t
structure HA (X:Cx) (es:List Expr) (t:TA):Prop where
 h:PA X es t
structure HS (X:Cx) (s:Stmt) (t:TS):Prop where
 h:PS X s t
section
variable {X:Cx} {e f a b:Expr} {es fs:List Expr} {t:TA} {te ta tb:TE} {k j:Nat} {p pos:Pos} {i:Int} {x:Str}
theorem he_int:HE X (.Constant (.int i) j pos) (tC (.int i)):=⟨ao⟩
theorem uu:HE X (.Constant (.str x) j pos) (tC (.str x)):=⟨aR⟩
theorem hv (i:Nat) {x:Str} {pos:Pos} (hN:X.N[i]?=some x:=by rfl) (hv:Vis X.env.scope x:=by first | exact Or.inl rfl | exact Or.inr (Or.inl rfl) | exact Or.inr (Or.inr rfl)) (hd:(x == ("__debug__":Str))=false:=by decide) (hd2:(x == ("__classdict__":Str))=false:=by decide):HE X (.Name x pos) (tVar i):=⟨pv i hN hv hd hd2⟩
theorem qI (h:HA X es t):HE X (.Tuple es k pos) (tTup t):=⟨bB h.h⟩
theorem he_lst (h:HA X es t):HE X (.List es pos) (tLst t):=⟨bO h.h⟩
theorem lE:HA X [] jE:=⟨ah⟩
theorem mB (ha:HE X e te) (hr:HA X es t) (h:plainArg e=true:=by rfl):HA X (e::es) (dN te t):=⟨aa ha.h hr.h (kW h)⟩
theorem Eo (hr:HA X es t):HA X (.Constant (.int i) j p::es) (dN (tC (.int i)) t):=⟨aa ao hr.h⟩
theorem wC (ha:HE X (.Tuple fs k p) te) (hr:HA X es t):HA X (.Tuple fs k p::es) (dN te t):=⟨aa ha.h hr.h⟩
theorem he_def {n:Nat} {ps:List Str} {sp:Sp} (D:Def X.prog X.w X.K X.mg X.base n x ps sp) (hr:dj n X.A) (hg:Gl X x) (ha:HA X (e::es) t) (hdb:(x == ("__debug__":Str))=false:=by decide) (hp:plainArg e=true:=by rfl) (hpl:(backTo pos (starEach es X.env)).any (·.1)=false:=by rfl):HE X (.Call (.Name x p) (e::es) [] pos) (pM sp [] E0 t):=⟨aI D hr hg ha.h hdb (kW hp) hpl⟩
theorem he_op {op:Operator} {r:R2} (ho:OpR X (binaryOp op) r) (ha:HE X a ta) (hb:HE X b tb):HE X (.BinOp a op b pos) (tOp r ta tb):=⟨aP ho ha.h hb.h⟩
theorem he_ix {r:R2} (hr:IxR X r) (ha:HE X a ta) (hb:HE X b tb) (hs:Ak b):HE X (.Subscript a b pos) (tOp r ta tb):=⟨aK hr ha.h hb.h hs⟩
theorem un {ss:List Stmt} {t:TS} (h:Hold X ss t):PSs X ss t:=h.h
theorem jd {st:Stmt} {rest:List Stmt} {t u:TS} (h1:HS X st t) (h2:Hold X rest u):Hold X (st::rest) (Ax t u):=⟨ae h1.h h2.h⟩
theorem hs_set {i:Nat} {pos':Pos} (hN:X.N.Nodup) (hi:X.N[i]?=some x) (hx:Loc X.env.scope x) (he:HE X e te) (hs:swapsWith e (some (.Name x pos')) pos.line X.env=pure false:=by rfl) (hf:X.fn x=true\/X.env.scope.names.lookup x=some .local:=by first | exact .inl rfl | exact .inr rfl | assumption):HS X (.Assign [.Name x pos'] e pos) (tAsg te (ip i)):=⟨aG hN hi hx he.h hs hf⟩
end
end L2
namespace Mine
open PySem L2
abbrev Eh:List Str:=["_law_script","_law_cells","_law_first","_law_second","_law_one","_law_other","_law_tree","_law_ask","_law_due"]
variable {P:Program} {w:World} {K:W.Frag} {mg:Str->Option Value} {base:Heap} {c:CCs}
theorem vw:aE Eh ["_law_script"] (ak vC):=L2.fsc rfl (by decide+kernel)
theorem yj {H:Hp} {p:Addr} (e:H p=some (.tup [.str "leaf"])):Dat K H (tcD .leaf) (.ref p):=⟨p,_,rfl,SqT.of e,_,_,rfl,rfl,rfl⟩
theorem ok_law {f:Addr} {fd:FuncData} (F:Fun K "law" "law" vC f fd) (eW:mg "range"=none) (xk:Def P w K mg base 1 "_law_mixed" ["_law_script","_law_least"] (zc K)) (iy:Def P w K mg base 1 "_law_next" ["_law_cells"] xG) (mR:Def P w K mg base 2 "_law_chain" ["_law_cells","_law_many","_law_words"] zd) (eB:Def P w K mg base 63 "_law_object" ["_law_tree"] (Cz c 60)) (iK:Def P w K mg base 19 "_law_refused" ["_law_ask","_law_one","_law_other","_law_tree"] (Cw c K)):mP P w K mg base CX0 80 f fd ["_law_script"] (spLaw K):=by
 refine F.ok vw ?_ ?_
 ·walk_at "i1";obtain ⟨a,ns,rfl,_⟩:=h;rfl
 walk_at "i3";obtain ⟨a,ns,rfl,S,q⟩:=h;have nd:=vw.nd;have d1:(1:Nat)<=sizeLine:=by decide
 have d2:(2:Nat)<=sizeLine:=by decide
 have d3:(3:Nat)<=sizeLine:=by decide
 have d4:(4:Nat)<=sizeLine:=by decide
 have d6:(6:Nat)<=sizeLine:=by decide
 have t6:∃ t,Hold (eO CX0 P w K mg base Eh "law" (ak vC) f cdv A outer s H E).nox ((bP vC).drop 6) t/\∀(o1:Option V) (m1 m2:Nat) (x y:Addr) (z:V) (u v:Tr) (T:Hu.Tc) (H1:Hp),Ob c H1 x u->Ob c H1 y v->u.nf=m1->v.nf=m2->u.size+v.size<=50->Dat K H1 (tcD T) z->T.Sm 64->T.deep<=12->T.gZ<=600->
   t {nx:=λ_ H'=>Q .non H',rt:=Q} [some (.ref a),o1,some (.int m1),some (.int m2),some (.ref x),some (.ref y),some z,none,none] H1:=by
  refine ⟨_,⟨(ae (eE PassesOwn.never rfl (nG rfl eW (eM ah)) (aV (i:=7) nd rfl (Or.inl rfl)) (aq (aJ (au sv (aI iK (hr.mono (by omega)) rfl (aa (pv 7) (aa (pv 4) (aa (pv 5) (aa (pv 6) ah))))) (gw qq (pv 2) ao (aC _)) (aC _)) (aq (aD kR)) av)))
  (ae (eE PassesOwn.never rfl (Ds (bB (eM (eM (eM ah))))) (aV (i:=7) nd rfl (Or.inl rfl)) (ae (aG (i:=8) nd rfl (Or.inl rfl) (gw qq (aP dB (pv 2) (pv 3)) (aK bY (bO (eM (eM (eM ah)))) (aP gP (pv 7) ao) (λ_ _=>rfl)) (aC _)))
  (aq (aJ (PW.pt (zE (au sv (aI iK (hr.mono (by omega)) rfl (aa (pv 7) (aa (pv 4) (aa (pv 5) (aa (pv 6) ah))))) (pv 8) (aC _)) (tM (au sv (aI iK (hr.mono (by omega)) rfl (aa (pv 7) (aa (pv 5) (aa (pv 4) (aa (pv 6) ah))))) (pv 8) (aC _))))) (aq (aD kR)) av))))
  (aq (aD kR))))⟩,?_⟩
  intro o1 m1 m2 x y z u v T H1 ox oy n1 n2 sz dz sm dp cu;refine ⟨5,rfl,by decide,by decide,?_⟩;refine kG (λi σ H'=>aH H1 H'/\∃ o7:Option V,σ=[some (.ref a),o1,some (.int m1),some (.int m2),some (.ref x),some (.ref y),some z,o7,none]) ⟨aH.refl _,_,rfl⟩ (λi σ H' hi z=>?_) (λσ H' z=>?_)
  ·obtain ⟨s2,o7,rfl⟩:=z;refine ⟨_,rfl,_,rfl,_,rfl,_,rfl,i,x,y,z,u,v,T,(by rw [Int.zero_add];rfl),by omega,ox.to (Kp.of s2),oy.to (Kp.of s2),sz,dz.ts s2.ts,sm,dp,cu,λdu H3 s3=>?_,λdu H3 s3=>?_⟩
   ·have du:¬8 < u.nf:=by unfold due at du;rw [if_pos (by omega)] at du;exact du
    have e:decide ((8:Int) < (m1:Int))=false:=decide_eq_false (by omega);refine ⟨_,rfl,_,_,rfl,rfl,?_⟩;dsimp only;rw [e];exact ⟨rfl,_,rfl,aT ⟨s2.trans s3,_,rfl⟩⟩
   ·have du:8 < u.nf:=by unfold due at du;rw [if_pos (by omega)] at du;exact du
    have e:decide ((8:Int) < (m1:Int))=true:=decide_eq_true (by omega);refine ⟨_,rfl,_,_,rfl,rfl,?_⟩;dsimp only;rw [e];exact ⟨rfl,_,rfl,aT ⟨s2.trans s3,_,rfl⟩⟩
  ·obtain ⟨s2,o7,rfl⟩:=z;refine ⟨d3,λp hp=>?_⟩;have up:=az hp (.tup [.int 5,.int 6,.int 7]);have ep:upd H' p (.tup [.int 5,.int 6,.int 7]) p=some (.tup [.int 5,.int 6,.int 7]):=af;have s3:=s2.trans up;refine ⟨p,rfl,⟨_,SqT.of ep⟩,?_⟩;generalize upd H' p (.tup [.int 5,.int 6,.int 7])=H3 at ep s3 ⊢;refine for_tup (xs:=[.int 5,.int 6,.int 7]) (λi σ H'=>aH H3 H'/\∃ o7 o8:Option V,σ=[some (.ref a),o1,some (.int m1),some (.int m2),some (.ref x),some (.ref y),some z,o7,o8]) ⟨aH.refl _,_,_,rfl⟩ (λi σ H' _ z=>SqT.of (z.1 _ _ ep)) (λi v' σ H' hv z=>?_) (λσ H' z=>?_)
   ·obtain ⟨s4,o7,o8,rfl⟩:=z;have s14:=s3.trans s4
    obtain ⟨k,L,rfl,k7,ea,dk⟩:∃(k:Nat) (L:Int),v'=.int (k:Int)/\k<=7/\atI [V.int 7,.int 8,.int 8] ((k:Int) - 5)=some (.int L)/\∀ p q:Tr,due k p q↔L < (p.nf:Int)+(q.nf:Int):=by
     match i,hv with
     | 0,hv=>cases hv;exact ⟨5,7,rfl,by decide,rfl,λp q=>by show (7 < p.nf+q.nf)↔_;omega⟩
     | 1,hv=>cases hv;exact ⟨6,8,rfl,by decide,rfl,λp q=>by show (8 < p.nf+q.nf)↔_;omega⟩
     | 2,hv=>cases hv;exact ⟨7,8,rfl,by decide,rfl,λp q=>by show (8 < p.nf+q.nf)↔_;omega⟩
    refine ⟨_,rfl,_,rfl,_,_,rfl,rfl,d3,λp5 hp5=>?_⟩;have u5:=az hp5 (.lst [.int 7,.int 8,.int 8]);have s15:=s14.trans u5;refine ⟨_,rfl,_,_,rfl,rfl,_,_,_,_,rfl,rfl,SqL.of af,ea,_,_,rfl,rfl,?_⟩;dsimp only;generalize hd:decide (L < (m1:Int)+(m2:Int))=d;refine ⟨_,rfl,_,rfl,_,rfl,_,rfl,k,x,y,z,u,v,T,rfl,k7,ox.to (Kp.of s15),oy.to (Kp.of s15),sz,dz.ts s15.ts,sm,dp,cu,λdu H6 s6=>?_,λdu H6 s6=>?_⟩
    ·have e:d=false:=by rw [<- hd];exact decide_eq_false (λz=>du ((dk u v).mpr (by omega)))
     subst e;refine ⟨_,rfl,rfl,_,rfl,aT ?_⟩;have s16:=s15.trans s6;refine ⟨_,rfl,_,rfl,_,rfl,_,rfl,k,y,x,z,v,u,T,rfl,k7,oy.to (Kp.of s16),ox.to (Kp.of s16),by omega,dz.ts s16.ts,sm,dp,cu,λdu2 H7 s7=>?_,λdu2 H7 s7=>?_⟩
     ·exact ⟨_,rfl,rfl,_,rfl,aT ⟨s4.trans ((u5.trans s6).trans s7),_,_,rfl⟩⟩
     ·exact absurd ((dk u v).mpr (by have:=(dk v u).mp du2;omega)) du
    ·have e:d=true:=by rw [<- hd];exact decide_eq_true (by have:=(dk u v).mp du;omega)
     subst e;refine ⟨_,rfl,rfl,_,rfl,aT ?_⟩;have s16:=s15.trans s6;refine ⟨_,rfl,_,rfl,_,rfl,_,rfl,k,y,x,z,v,u,T,rfl,k7,oy.to (Kp.of s16),ox.to (Kp.of s16),by omega,dz.ts s16.ts,sm,dp,cu,λdu2 H7 s7=>?_,λdu2 H7 s7=>?_⟩
     ·exact absurd ((dk v u).mpr (by have:=(dk u v).mp du;omega)) du2
     ·exact ⟨_,rfl,rfl,_,rfl,aT ⟨s4.trans ((u5.trans s6).trans s7),_,_,rfl⟩⟩
   ·obtain ⟨s4,o7,o8,rfl⟩:=z;exact q _
 obtain ⟨t6,ht6,k6⟩:=t6;refine ⟨_,un (jd ⟨(aG (i:=1) nd rfl (Or.inl rfl) (aI xk (hr.mono (by omega)) rfl (aa (pv 0) (eM ah))))⟩ (jd ⟨(aG (i:=2) nd rfl (Or.inl rfl) (aP dB ao (aP jW (aI iy (hr.mono (by omega)) rfl (aa (pv 1) ah)) ao)))⟩ (jd ⟨(aG (i:=3) nd rfl (Or.inl rfl) (aP jW (aI iy (hr.mono (by omega)) rfl (aa (pv 1) ah)) ao))⟩ (jd ⟨(aG (i:=4) nd rfl (Or.inl rfl) (aI eB (hr.mono (by omega)) rfl (aa (aI mR (hr.mono (by decide)) rfl (aa (pv 1) (aa (pv 2) (aa (bO (aa aR (aa aR (aa aR (aa aR (aa aR (aa aR ah))))))) ah)))) ah)))⟩ (jd ⟨(aG (i:=5) nd rfl (Or.inl rfl) (aI eB (hr.mono (by omega)) rfl (aa (aI mR (hr.mono (by decide)) rfl (aa (pv 1) (aa (pv 3) (aa (bO (aa aR (aa aR ah))) ah)))) ah)))⟩ (jd (hs_set (i:=6) nd rfl (Or.inl rfl) (he_ix bY (he_lst (wC (qI (mB uu lE)) (wC (qI (mB uu (wC (qI (Eo (Eo (Eo lE)))) (wC (qI (mB uu lE)) (wC (qI (mB uu lE)) lE))))) lE))) (he_op jW (he_def iy (hr.mono (by omega)) rfl (mB (hv 1) lE)) he_int) (λ_ _=>rfl))) ht6)))))),?_⟩;refine ⟨_,rfl,a,ns,40,rfl,S,by decide,by decide,λC ms H1 s1 fC eC cel=>?_⟩;refine ⟨_,rfl,C,ms,rfl,eC,cel,λi1 ms1 H2 ci1 c1 sb1 e1=>⟨_,_,rfl,rfl,(show (0:Int) < 9 by decide),_,_,rfl,rfl,?_⟩⟩;refine ⟨_,rfl,C,ms1,rfl,e1,c1,λi2 ms2 H3 ci2 c2 sb2 e2=>⟨_,_,rfl,rfl,(show (0:Int) < 9 by decide),?_⟩⟩;obtain ⟨m1,hm1⟩:=Int.eq_ofNat_of_zero_le (show 0<=4+i1 % 9 by omega);obtain ⟨m2,hm2⟩:=Int.eq_ofNat_of_zero_le (show 0<=i2 % 9 by omega);dsimp only;rw [hm1,hm2];refine ⟨_,rfl,_,rfl,d6,λp hp=>?_⟩;have u1:=az hp (.lst [.str "greater",.str "lesser",.str "less",.str "more",.str "leads",.str "lesser"]);refine ⟨C,p,ms2,m1,[.greater,.lesser,.less,.more,.leads,.lesser],rfl,u1 _ _ e2,c2,af,aA e2 hp,by decide,by omega,λa1 t1 ms3 H4 nf1 sz1 c3 sb3 e3 tu1=>?_⟩;refine ⟨a1,t1,rfl,tu1,by omega,λx H5 s5 ox=>?_⟩;have e5:=s5 _ _ e3;refine ⟨_,rfl,_,rfl,d2,λp' hp'=>?_⟩;have u2:=az hp' (.lst [.str "greater",.str "lesser"]);refine ⟨C,p',ms3,m2,[.greater,.lesser],rfl,u2 _ _ e5,c3,af,aA e5 hp',by decide,by omega,λa2 t2 ms4 H6 nf2 sz2 c4 sb4 e4 tu2=>?_⟩;have ox6:=(ox.to (Kp.of u2)).to (sb4.kp (yi (u2 _ _ e5)));refine ⟨a2,t2,rfl,tu2,by omega,λy H7 s7 oy=>?_⟩;have ox7:=ox6.to (Kp.of s7);have e7:=s7 _ _ e4;refine ⟨d1,λq1 hq1=>⟨d3,λq2 hq2=>⟨d1,λq3 hq3=>⟨d1,λq4 hq4=>⟨d4,λq5 hq5=>⟨d2,λq6 hq6=>?_⟩⟩⟩⟩⟩⟩;have v1:=az hq1 (.tup [.str "leaf"]);have v2:=az hq2 (.tup [.int 0,.int 0,.int 1]);have v3:=az hq3 (.tup [.str "leaf"]);have v4:=az hq4 (.tup [.str "leaf"]);have v5:=az hq5 (.tup [.str "cut",.ref q2,.ref q3,.ref q4]);have v6:=az hq6 (.lst [.ref q1,.ref q5]);have v26:=(((v2.trans v3).trans v4).trans v5).trans v6;have v16:=v1.trans v26;have E1:=v26 _ _ af;have E2:=(((v3.trans v4).trans v5).trans v6) _ _ af;have E3:=((v4.trans v5).trans v6) _ _ af;have E4:=(v5.trans v6) _ _ af;have E5:=v6 _ _ af;refine ⟨_,rfl,C,ms4,rfl,v16 _ _ e7,c4,λi3 ms5 H8 ci3 c5 sb5 e8=>⟨_,_,rfl,rfl,(show (0:Int) < 2 by decide),?_⟩⟩;have kp8:=sb5.kp (yi (v16 _ _ e7));have kp78:=(Kp.of v16).trans kp8;have nC:V.ref q6≠V.ref C:=λz=>aA ((((((v1.trans v2).trans v3).trans v4).trans v5)) _ _ e7) hq6 (V.ref.inj z).symm;have E6:=sb5 _ _ af nC;have ox8:=ox7.to kp78;have oy8:=oy.to kp78;have i3b:i3 % 2=0\/i3 % 2=1:=by omega
 rcases i3b with ei | ei
 ·refine ⟨_,_,_,_,rfl,rfl,SqL.of E6,(show atI [V.ref q1,V.ref q5] (i3 % 2)=some (.ref q1) by rw [ei];rfl),?_⟩;exact k6 _ m1 m2 x y (.ref q1) t1 t2 .leaf H8 ox8 oy8 nf1 nf2 (by omega) (yj (kp8 _ _ E1 rfl)) trivial (by decide) (by decide)
 ·refine ⟨_,_,_,_,rfl,rfl,SqL.of E6,(show atI [V.ref q1,V.ref q5] (i3 % 2)=some (.ref q5) by rw [ei];rfl),?_⟩;refine k6 _ m1 m2 x y (.ref q5) t1 t2 (.cut ⟨0,0,1⟩ .leaf .leaf) H8 ox8 oy8 nf1 nf2 (by omega) ?_ ⟨⟨by decide,by decide,by decide⟩,trivial,trivial⟩ (by decide) (by decide);exact ⟨q5,_,rfl,SqT.of (kp8 _ _ E5 rfl),_,_,rfl,rfl,_,_,rfl,gE (p:=⟨0,0,1⟩) (SqT.of (kp8 _ _ E2 rfl)),_,_,rfl,yj (kp8 _ _ E3 rfl),_,_,rfl,yj (kp8 _ _ E4 rfl),rfl⟩
end Mine
namespace L2
open PySem PySem.Spec PyProof.Rows
structure dq (K:W.Frag) (x qual:Str) (st:Stmt) (f:Addr):Prop where
 ex:∃ fd:FuncData,Fun K x qual st f fd
 fn:PySem.W.isFn K (.ref f)=true
theorem bf {K:W.Frag} {x qual:Str} {st:Stmt} {f:Addr} {oc kV doc pm cdv ct:Value} {od an:Option Addr} {osl:Array (Option Value)} (l:K.lookup f=some ⟨oc,od,.func (PySem.W.fnOf x qual (fG st) (bP st) (ak st) .none kV doc pm an cdv ct),osl⟩)
  (c:PySem.W.codeIn K cdv qual=true) (k:PySem.W.keepIn K (.ref f)=true) (fn:PySem.W.isFn K (.ref f)=true):dq K x qual st f:=⟨⟨_,Ex l c k⟩,fn⟩
theorem dq.meth {K:W.Frag} {x qual:Str} {st:Stmt} {f C:Addr} (e:dq K x qual st f) (cl:Cls K C) (g:PySem.W.findIn K (.ref C) x=some (some (.ref f))):aU K C x qual st:=by
 obtain ⟨fd,F⟩:=e.ex;exact ⟨cl,f,fd,⟨g,e.fn,F.kp⟩,F⟩
theorem dq.made {K:W.Frag} {mg:Str->Option Value} {x qual:Str} {st:Stmt} {f C:Addr} (e:dq K "__init__" qual st f) (cl:Cls K C) (g:PySem.W.findIn K (.ref C) "__init__"=some (some (.ref f))) (m:mg x=some (.ref C)) (y:PySem.W.makesIn K C=true) (z:PySem.W.keepIn K (.ref C)=true):MkF K mg x C qual st:=by
 obtain ⟨fd,F⟩:=e.ex;exact ⟨cl,m,f,fd,⟨y,g,e.fn,z⟩,F⟩
end L2
open PySem PySem.W PyProof.Rows
structure Mine.AllF (K:Frag) (mg:Str->Option Value) (c:Mine.CCs):Prop where
 fx:Mine.Fx K c
 madeS_ne:L2.aU K c.ne "made_of" "Saying.made_of" Mine.cf
 madeS_al:L2.aU K c.al "made_of" "Saying.made_of" Mine.cf
 madeS_le:L2.aU K c.le "made_of" "Saying.made_of" Mine.cf
 piecesS_ne:L2.aU K c.ne "pieces" "Saying.pieces" Mine.cB
 piecesS_al:L2.aU K c.al "pieces" "Saying.pieces" Mine.cB
 piecesS_le:L2.aU K c.le "pieces" "Saying.pieces" Mine.cB
 laid:∀ t,L2.aU K (c.of t) "laid_out" "Saying.laid_out" Mine.fm
 told:∀ t,L2.aU K (c.of t) "told" "Saying.told" Mine.kP
 out:∀ t,L2.aU K (c.of t) "out_of" "Saying.out_of" Mine.gN
 parts:∀ t,L2.aU K (c.of t) "parts" "Saying.parts" Mine.jU
 foldsS:∀ t,L2.aU K (c.of t) "folds" "Saying.folds" Mine.cO
 Kne_ne:L2.aU K c.ne "making_word" "Never.making_word" Mine.cM
 Wne_ne:L2.aU K c.ne "weigh" "Never.weigh" Mine.gi
 Kal_al:L2.aU K c.al "making_word" "Always.making_word" Mine.cE
 Wal_al:L2.aU K c.al "weigh" "Always.weigh" Mine.ft
 Kle_le:L2.aU K c.le "making_word" "Letter.making_word" Mine.bL
 Wle_le:L2.aU K c.le "weigh" "Letter.weigh" Mine.cP
 Kno_no:L2.aU K c.no "making_word" "Not.making_word" Mine.dE
 Wno_no:L2.aU K c.no "weigh" "Not.weigh" Mine.iB
 Mno_no:L2.aU K c.no "made_of" "Not.made_of" Mine.gh
 Pno_no:L2.aU K c.no "pieces" "Not.pieces" Mine.gW
 Mfo:∀ u,L2.aU K (c.fold u) "made_of" "Fold.made_of" Mine.fq
 Pfo:∀ u,L2.aU K (c.fold u) "pieces" "Fold.pieces" Mine.gq
 Wfo:∀ u,L2.aU K (c.fold u) "weigh" "Fold.weigh" Mine.gX
 F0mo_mo:L2.aU K c.mo "making_word" "More.making_word" Mine.cV
 F1mo_mo:L2.aU K c.mo "folded" "More.folded" Mine.gj
 F0ls_ls:L2.aU K c.ls "making_word" "Less.making_word" Mine.cW
 F1ls_ls:L2.aU K c.ls "folded" "Less.folded" Mine.gp
 F0gr_gr:L2.aU K c.gr "making_word" "Greater.making_word" Mine.cw
 F1gr_gr:L2.aU K c.gr "folded" "Greater.folded" Mine.dU
 F0lr_lr:L2.aU K c.lr "making_word" "Lesser.making_word" Mine.cD
 F1lr_lr:L2.aU K c.lr "folded" "Lesser.folded" Mine.eV
 F0ld_ld:L2.aU K c.ld "making_word" "Leads.making_word" Mine.cN
 F1ld_ld:L2.aU K c.ld "folded" "Leads.folded" Mine.fo
 ile:L2.MkF K mg "Letter" c.le "Letter.__init__" Mine.gk
 ino:L2.MkF K mg "Not" c.no "Not.__init__" Mine.jo
 ifo:∀ u,L2.MkF K mg (Mine.W5.cls u) (c.fold u) "Fold.__init__" Mine.iC
 o_ne:L2.Mk0 K c.ne
 r_ne:mg "Never"=some (.ref c.ne)
 o_al:L2.Mk0 K c.al
 r_al:mg "Always"=some (.ref c.al)
theorem Mine.all_mk {K:Frag} {h:Heap} {mg:Str->Option Value} {ne al le no mo ls gr lr ld f_madeS f_piecesS f_laid f_told f_out f_parts f_foldsS f_Kne f_Wne f_Kal f_Wal f_Kle f_Wle f_Kno f_Wno f_Mno f_Pno f_Mfo f_Pfo f_Wfo f_F0mo f_F1mo f_F0ls f_F1ls f_F0gr f_F1gr f_F0lr f_F1lr f_F0ld f_F1ld f_ile f_ino f_ifo:Addr} (X:K.In h) (G:h.Ns mainGlobals mg)
  (n_ne:nsIn K mainGlobals "Never"=some (some (.ref ne)))
  (n_al:nsIn K mainGlobals "Always"=some (some (.ref al)))
  (n_le:nsIn K mainGlobals "Letter"=some (some (.ref le)))
  (n_no:nsIn K mainGlobals "Not"=some (some (.ref no)))
  (n_mo:nsIn K mainGlobals "More"=some (some (.ref mo)))
  (n_ls:nsIn K mainGlobals "Less"=some (some (.ref ls)))
  (n_gr:nsIn K mainGlobals "Greater"=some (some (.ref gr)))
  (n_lr:nsIn K mainGlobals "Lesser"=some (some (.ref lr)))
  (n_ld:nsIn K mainGlobals "Leads"=some (some (.ref ld)))
  (c_ne:L2.Cls K ne)
  (c_al:L2.Cls K al)
  (c_le:L2.Cls K le)
  (c_no:L2.Cls K no)
  (c_mo:L2.Cls K mo)
  (c_ls:L2.Cls K ls)
  (c_gr:L2.Cls K gr)
  (c_lr:L2.Cls K lr)
  (c_ld:L2.Cls K ld)
  (h_ne:findIn K (.ref ne) "__class__"=some (some (.builtin "object.__class__")))
  (h_al:findIn K (.ref al) "__class__"=some (some (.builtin "object.__class__")))
  (h_le:findIn K (.ref le) "__class__"=some (some (.builtin "object.__class__")))
  (h_no:findIn K (.ref no) "__class__"=some (some (.builtin "object.__class__")))
  (h_mo:findIn K (.ref mo) "__class__"=some (some (.builtin "object.__class__")))
  (h_ls:findIn K (.ref ls) "__class__"=some (some (.builtin "object.__class__")))
  (h_gr:findIn K (.ref gr) "__class__"=some (some (.builtin "object.__class__")))
  (h_lr:findIn K (.ref lr) "__class__"=some (some (.builtin "object.__class__")))
  (h_ld:findIn K (.ref ld) "__class__"=some (some (.builtin "object.__class__")))
  (m_ne:mroIn K ne (.type "object")=some true)
  (m_al:mroIn K al (.type "object")=some true)
  (m_le:mroIn K le (.type "object")=some true)
  (m_no:mroIn K no (.type "object")=some true)
  (m_mo:mroIn K mo (.type "object")=some true)
  (m_ls:mroIn K ls (.type "object")=some true)
  (m_gr:mroIn K gr (.type "object")=some true)
  (m_lr:mroIn K lr (.type "object")=some true)
  (m_ld:mroIn K ld (.type "object")=some true)
  (s_ne:kitOne K (.ref ne) (.type "str")=some false)
  (s_al:kitOne K (.ref al) (.type "str")=some false)
  (s_le:kitOne K (.ref le) (.type "str")=some false)
  (s_no:kitOne K (.ref no) (.type "str")=some false)
  (s_mo:kitOne K (.ref mo) (.type "str")=some false)
  (s_ls:kitOne K (.ref ls) (.type "str")=some false)
  (s_gr:kitOne K (.ref gr) (.type "str")=some false)
  (s_lr:kitOne K (.ref lr) (.type "str")=some false)
  (s_ld:kitOne K (.ref ld) (.type "str")=some false)
  (hn:specialIn K (.builtin "object.__class__") "__get__"=some (some (.builtin "getset_descriptor.__get__")))
  (tk:takesIn K (.builtin "object.__class__")=some true)
  (a_name:findIn K (.ref le) "name"=some none)
  (a_part:findIn K (.ref no) "part"=some none)
  (a_one_mo:findIn K (.ref mo) "one"=some none)
  (a_one_ls:findIn K (.ref ls) "one"=some none)
  (a_one_gr:findIn K (.ref gr) "one"=some none)
  (a_one_lr:findIn K (.ref lr) "one"=some none)
  (a_one_ld:findIn K (.ref ld) "one"=some none)
  (a_other_mo:findIn K (.ref mo) "other"=some none)
  (a_other_ls:findIn K (.ref ls) "other"=some none)
  (a_other_gr:findIn K (.ref gr) "other"=some none)
  (a_other_lr:findIn K (.ref lr) "other"=some none)
  (a_other_ld:findIn K (.ref ld) "other"=some none)
  (g_madeS_ne:findIn K (.ref ne) "made_of"=some (some (.ref f_madeS)))
  (g_madeS_al:findIn K (.ref al) "made_of"=some (some (.ref f_madeS)))
  (g_madeS_le:findIn K (.ref le) "made_of"=some (some (.ref f_madeS)))
  (e_madeS:L2.dq K "made_of" "Saying.made_of" Mine.cf f_madeS)
  (g_piecesS_ne:findIn K (.ref ne) "pieces"=some (some (.ref f_piecesS)))
  (g_piecesS_al:findIn K (.ref al) "pieces"=some (some (.ref f_piecesS)))
  (g_piecesS_le:findIn K (.ref le) "pieces"=some (some (.ref f_piecesS)))
  (e_piecesS:L2.dq K "pieces" "Saying.pieces" Mine.cB f_piecesS)
  (g_laid_ne:findIn K (.ref ne) "laid_out"=some (some (.ref f_laid)))
  (g_laid_al:findIn K (.ref al) "laid_out"=some (some (.ref f_laid)))
  (g_laid_le:findIn K (.ref le) "laid_out"=some (some (.ref f_laid)))
  (g_laid_no:findIn K (.ref no) "laid_out"=some (some (.ref f_laid)))
  (g_laid_mo:findIn K (.ref mo) "laid_out"=some (some (.ref f_laid)))
  (g_laid_ls:findIn K (.ref ls) "laid_out"=some (some (.ref f_laid)))
  (g_laid_gr:findIn K (.ref gr) "laid_out"=some (some (.ref f_laid)))
  (g_laid_lr:findIn K (.ref lr) "laid_out"=some (some (.ref f_laid)))
  (g_laid_ld:findIn K (.ref ld) "laid_out"=some (some (.ref f_laid)))
  (e_laid:L2.dq K "laid_out" "Saying.laid_out" Mine.fm f_laid)
  (g_told_ne:findIn K (.ref ne) "told"=some (some (.ref f_told)))
  (g_told_al:findIn K (.ref al) "told"=some (some (.ref f_told)))
  (g_told_le:findIn K (.ref le) "told"=some (some (.ref f_told)))
  (g_told_no:findIn K (.ref no) "told"=some (some (.ref f_told)))
  (g_told_mo:findIn K (.ref mo) "told"=some (some (.ref f_told)))
  (g_told_ls:findIn K (.ref ls) "told"=some (some (.ref f_told)))
  (g_told_gr:findIn K (.ref gr) "told"=some (some (.ref f_told)))
  (g_told_lr:findIn K (.ref lr) "told"=some (some (.ref f_told)))
  (g_told_ld:findIn K (.ref ld) "told"=some (some (.ref f_told)))
  (e_told:L2.dq K "told" "Saying.told" Mine.kP f_told)
  (g_out_ne:findIn K (.ref ne) "out_of"=some (some (.ref f_out)))
  (g_out_al:findIn K (.ref al) "out_of"=some (some (.ref f_out)))
  (g_out_le:findIn K (.ref le) "out_of"=some (some (.ref f_out)))
  (g_out_no:findIn K (.ref no) "out_of"=some (some (.ref f_out)))
  (g_out_mo:findIn K (.ref mo) "out_of"=some (some (.ref f_out)))
  (g_out_ls:findIn K (.ref ls) "out_of"=some (some (.ref f_out)))
  (g_out_gr:findIn K (.ref gr) "out_of"=some (some (.ref f_out)))
  (g_out_lr:findIn K (.ref lr) "out_of"=some (some (.ref f_out)))
  (g_out_ld:findIn K (.ref ld) "out_of"=some (some (.ref f_out)))
  (e_out:L2.dq K "out_of" "Saying.out_of" Mine.gN f_out)
  (g_parts_ne:findIn K (.ref ne) "parts"=some (some (.ref f_parts)))
  (g_parts_al:findIn K (.ref al) "parts"=some (some (.ref f_parts)))
  (g_parts_le:findIn K (.ref le) "parts"=some (some (.ref f_parts)))
  (g_parts_no:findIn K (.ref no) "parts"=some (some (.ref f_parts)))
  (g_parts_mo:findIn K (.ref mo) "parts"=some (some (.ref f_parts)))
  (g_parts_ls:findIn K (.ref ls) "parts"=some (some (.ref f_parts)))
  (g_parts_gr:findIn K (.ref gr) "parts"=some (some (.ref f_parts)))
  (g_parts_lr:findIn K (.ref lr) "parts"=some (some (.ref f_parts)))
  (g_parts_ld:findIn K (.ref ld) "parts"=some (some (.ref f_parts)))
  (e_parts:L2.dq K "parts" "Saying.parts" Mine.jU f_parts)
  (g_foldsS_ne:findIn K (.ref ne) "folds"=some (some (.ref f_foldsS)))
  (g_foldsS_al:findIn K (.ref al) "folds"=some (some (.ref f_foldsS)))
  (g_foldsS_le:findIn K (.ref le) "folds"=some (some (.ref f_foldsS)))
  (g_foldsS_no:findIn K (.ref no) "folds"=some (some (.ref f_foldsS)))
  (g_foldsS_mo:findIn K (.ref mo) "folds"=some (some (.ref f_foldsS)))
  (g_foldsS_ls:findIn K (.ref ls) "folds"=some (some (.ref f_foldsS)))
  (g_foldsS_gr:findIn K (.ref gr) "folds"=some (some (.ref f_foldsS)))
  (g_foldsS_lr:findIn K (.ref lr) "folds"=some (some (.ref f_foldsS)))
  (g_foldsS_ld:findIn K (.ref ld) "folds"=some (some (.ref f_foldsS)))
  (e_foldsS:L2.dq K "folds" "Saying.folds" Mine.cO f_foldsS)
  (g_Kne_ne:findIn K (.ref ne) "making_word"=some (some (.ref f_Kne)))
  (e_Kne:L2.dq K "making_word" "Never.making_word" Mine.cM f_Kne)
  (g_Wne_ne:findIn K (.ref ne) "weigh"=some (some (.ref f_Wne)))
  (e_Wne:L2.dq K "weigh" "Never.weigh" Mine.gi f_Wne)
  (g_Kal_al:findIn K (.ref al) "making_word"=some (some (.ref f_Kal)))
  (e_Kal:L2.dq K "making_word" "Always.making_word" Mine.cE f_Kal)
  (g_Wal_al:findIn K (.ref al) "weigh"=some (some (.ref f_Wal)))
  (e_Wal:L2.dq K "weigh" "Always.weigh" Mine.ft f_Wal)
  (g_Kle_le:findIn K (.ref le) "making_word"=some (some (.ref f_Kle)))
  (e_Kle:L2.dq K "making_word" "Letter.making_word" Mine.bL f_Kle)
  (g_Wle_le:findIn K (.ref le) "weigh"=some (some (.ref f_Wle)))
  (e_Wle:L2.dq K "weigh" "Letter.weigh" Mine.cP f_Wle)
  (g_Kno_no:findIn K (.ref no) "making_word"=some (some (.ref f_Kno)))
  (e_Kno:L2.dq K "making_word" "Not.making_word" Mine.dE f_Kno)
  (g_Wno_no:findIn K (.ref no) "weigh"=some (some (.ref f_Wno)))
  (e_Wno:L2.dq K "weigh" "Not.weigh" Mine.iB f_Wno)
  (g_Mno_no:findIn K (.ref no) "made_of"=some (some (.ref f_Mno)))
  (e_Mno:L2.dq K "made_of" "Not.made_of" Mine.gh f_Mno)
  (g_Pno_no:findIn K (.ref no) "pieces"=some (some (.ref f_Pno)))
  (e_Pno:L2.dq K "pieces" "Not.pieces" Mine.gW f_Pno)
  (g_Mfo_mo:findIn K (.ref mo) "made_of"=some (some (.ref f_Mfo)))
  (g_Mfo_ls:findIn K (.ref ls) "made_of"=some (some (.ref f_Mfo)))
  (g_Mfo_gr:findIn K (.ref gr) "made_of"=some (some (.ref f_Mfo)))
  (g_Mfo_lr:findIn K (.ref lr) "made_of"=some (some (.ref f_Mfo)))
  (g_Mfo_ld:findIn K (.ref ld) "made_of"=some (some (.ref f_Mfo)))
  (e_Mfo:L2.dq K "made_of" "Fold.made_of" Mine.fq f_Mfo)
  (g_Pfo_mo:findIn K (.ref mo) "pieces"=some (some (.ref f_Pfo)))
  (g_Pfo_ls:findIn K (.ref ls) "pieces"=some (some (.ref f_Pfo)))
  (g_Pfo_gr:findIn K (.ref gr) "pieces"=some (some (.ref f_Pfo)))
  (g_Pfo_lr:findIn K (.ref lr) "pieces"=some (some (.ref f_Pfo)))
  (g_Pfo_ld:findIn K (.ref ld) "pieces"=some (some (.ref f_Pfo)))
  (e_Pfo:L2.dq K "pieces" "Fold.pieces" Mine.gq f_Pfo)
  (g_Wfo_mo:findIn K (.ref mo) "weigh"=some (some (.ref f_Wfo)))
  (g_Wfo_ls:findIn K (.ref ls) "weigh"=some (some (.ref f_Wfo)))
  (g_Wfo_gr:findIn K (.ref gr) "weigh"=some (some (.ref f_Wfo)))
  (g_Wfo_lr:findIn K (.ref lr) "weigh"=some (some (.ref f_Wfo)))
  (g_Wfo_ld:findIn K (.ref ld) "weigh"=some (some (.ref f_Wfo)))
  (e_Wfo:L2.dq K "weigh" "Fold.weigh" Mine.gX f_Wfo)
  (g_F0mo_mo:findIn K (.ref mo) "making_word"=some (some (.ref f_F0mo)))
  (e_F0mo:L2.dq K "making_word" "More.making_word" Mine.cV f_F0mo)
  (g_F1mo_mo:findIn K (.ref mo) "folded"=some (some (.ref f_F1mo)))
  (e_F1mo:L2.dq K "folded" "More.folded" Mine.gj f_F1mo)
  (g_F0ls_ls:findIn K (.ref ls) "making_word"=some (some (.ref f_F0ls)))
  (e_F0ls:L2.dq K "making_word" "Less.making_word" Mine.cW f_F0ls)
  (g_F1ls_ls:findIn K (.ref ls) "folded"=some (some (.ref f_F1ls)))
  (e_F1ls:L2.dq K "folded" "Less.folded" Mine.gp f_F1ls)
  (g_F0gr_gr:findIn K (.ref gr) "making_word"=some (some (.ref f_F0gr)))
  (e_F0gr:L2.dq K "making_word" "Greater.making_word" Mine.cw f_F0gr)
  (g_F1gr_gr:findIn K (.ref gr) "folded"=some (some (.ref f_F1gr)))
  (e_F1gr:L2.dq K "folded" "Greater.folded" Mine.dU f_F1gr)
  (g_F0lr_lr:findIn K (.ref lr) "making_word"=some (some (.ref f_F0lr)))
  (e_F0lr:L2.dq K "making_word" "Lesser.making_word" Mine.cD f_F0lr)
  (g_F1lr_lr:findIn K (.ref lr) "folded"=some (some (.ref f_F1lr)))
  (e_F1lr:L2.dq K "folded" "Lesser.folded" Mine.eV f_F1lr)
  (g_F0ld_ld:findIn K (.ref ld) "making_word"=some (some (.ref f_F0ld)))
  (e_F0ld:L2.dq K "making_word" "Leads.making_word" Mine.cN f_F0ld)
  (g_F1ld_ld:findIn K (.ref ld) "folded"=some (some (.ref f_F1ld)))
  (e_F1ld:L2.dq K "folded" "Leads.folded" Mine.fo f_F1ld)
  (g_ile_le:findIn K (.ref le) "__init__"=some (some (.ref f_ile)))
  (e_ile:L2.dq K "__init__" "Letter.__init__" Mine.gk f_ile)
  (g_ino_no:findIn K (.ref no) "__init__"=some (some (.ref f_ino)))
  (e_ino:L2.dq K "__init__" "Not.__init__" Mine.jo f_ino)
  (g_ifo_mo:findIn K (.ref mo) "__init__"=some (some (.ref f_ifo)))
  (g_ifo_ls:findIn K (.ref ls) "__init__"=some (some (.ref f_ifo)))
  (g_ifo_gr:findIn K (.ref gr) "__init__"=some (some (.ref f_ifo)))
  (g_ifo_lr:findIn K (.ref lr) "__init__"=some (some (.ref f_ifo)))
  (g_ifo_ld:findIn K (.ref ld) "__init__"=some (some (.ref f_ifo)))
  (e_ifo:L2.dq K "__init__" "Fold.__init__" Mine.iC f_ifo)
  (i_ne:findIn K (.ref ne) "__init__"=some (some (.builtin "object.__init__")))
  (i_al:findIn K (.ref al) "__init__"=some (some (.builtin "object.__init__")))
  (y_ne:makesIn K ne=true)
  (y_al:makesIn K al=true)
  (y_le:makesIn K le=true)
  (y_no:makesIn K no=true)
  (y_mo:makesIn K mo=true)
  (y_ls:makesIn K ls=true)
  (y_gr:makesIn K gr=true)
  (y_lr:makesIn K lr=true)
  (y_ld:makesIn K ld=true)
  (z_ne:keepIn K (.ref ne)=true)
  (z_al:keepIn K (.ref al)=true)
  (z_le:keepIn K (.ref le)=true)
  (z_no:keepIn K (.ref no)=true)
  (z_mo:keepIn K (.ref mo)=true)
  (z_ls:keepIn K (.ref ls)=true)
  (z_gr:keepIn K (.ref gr)=true)
  (z_lr:keepIn K (.ref lr)=true)
  (z_ld:keepIn K (.ref ld)=true) :
  ∃ c,Mine.AllF K mg c:=by
 refine ⟨⟨ne,al,le,no,mo,ls,gr,lr,ld⟩,?_⟩
 refine ⟨?_,?_,?_,?_,?_,?_,?_,?_,?_,?_,?_,?_,?_,?_,?_,?_,?_,?_,?_,?_,?_,?_,?_,?_,?_,?_,?_,?_,?_,?_,?_,?_,?_,?_,?_,?_,?_,?_,?_,?_,?_,?_⟩
 ·exact ⟨by intro t;cases t <;> first | exact c_ne | exact c_al | exact c_le | exact c_no | (rename_i u _ _;cases u <;> assumption),by intro t;cases t <;> first | exact h_ne | exact h_al | exact h_le | exact h_no | (rename_i u _ _;cases u <;> assumption),by intro t;cases t <;> first | exact m_ne | exact m_al | exact m_le | exact m_no | (rename_i u _ _;cases u <;> assumption),by intro t;cases t <;> first | exact s_ne | exact s_al | exact s_le | exact s_no | (rename_i u _ _;cases u <;> assumption),hn,tk,a_name,a_part,by intro u;cases u <;> assumption,by intro u;cases u <;> assumption⟩
 ·exact e_madeS.meth c_ne g_madeS_ne
 ·exact e_madeS.meth c_al g_madeS_al
 ·exact e_madeS.meth c_le g_madeS_le
 ·exact e_piecesS.meth c_ne g_piecesS_ne
 ·exact e_piecesS.meth c_al g_piecesS_al
 ·exact e_piecesS.meth c_le g_piecesS_le
 ·intro t;cases t <;> first | exact e_laid.meth c_ne g_laid_ne | exact e_laid.meth c_al g_laid_al | exact e_laid.meth c_le g_laid_le | exact e_laid.meth c_no g_laid_no | (rename_i u _ _;cases u <;> first | exact e_laid.meth c_mo g_laid_mo | exact e_laid.meth c_ls g_laid_ls | exact e_laid.meth c_gr g_laid_gr | exact e_laid.meth c_lr g_laid_lr | exact e_laid.meth c_ld g_laid_ld)
 ·intro t;cases t <;> first | exact e_told.meth c_ne g_told_ne | exact e_told.meth c_al g_told_al | exact e_told.meth c_le g_told_le | exact e_told.meth c_no g_told_no | (rename_i u _ _;cases u <;> first | exact e_told.meth c_mo g_told_mo | exact e_told.meth c_ls g_told_ls | exact e_told.meth c_gr g_told_gr | exact e_told.meth c_lr g_told_lr | exact e_told.meth c_ld g_told_ld)
 ·intro t;cases t <;> first | exact e_out.meth c_ne g_out_ne | exact e_out.meth c_al g_out_al | exact e_out.meth c_le g_out_le | exact e_out.meth c_no g_out_no | (rename_i u _ _;cases u <;> first | exact e_out.meth c_mo g_out_mo | exact e_out.meth c_ls g_out_ls | exact e_out.meth c_gr g_out_gr | exact e_out.meth c_lr g_out_lr | exact e_out.meth c_ld g_out_ld)
 ·intro t;cases t <;> first | exact e_parts.meth c_ne g_parts_ne | exact e_parts.meth c_al g_parts_al | exact e_parts.meth c_le g_parts_le | exact e_parts.meth c_no g_parts_no | (rename_i u _ _;cases u <;> first | exact e_parts.meth c_mo g_parts_mo | exact e_parts.meth c_ls g_parts_ls | exact e_parts.meth c_gr g_parts_gr | exact e_parts.meth c_lr g_parts_lr | exact e_parts.meth c_ld g_parts_ld)
 ·intro t;cases t <;> first | exact e_foldsS.meth c_ne g_foldsS_ne | exact e_foldsS.meth c_al g_foldsS_al | exact e_foldsS.meth c_le g_foldsS_le | exact e_foldsS.meth c_no g_foldsS_no | (rename_i u _ _;cases u <;> first | exact e_foldsS.meth c_mo g_foldsS_mo | exact e_foldsS.meth c_ls g_foldsS_ls | exact e_foldsS.meth c_gr g_foldsS_gr | exact e_foldsS.meth c_lr g_foldsS_lr | exact e_foldsS.meth c_ld g_foldsS_ld)
 ·exact e_Kne.meth c_ne g_Kne_ne
 ·exact e_Wne.meth c_ne g_Wne_ne
 ·exact e_Kal.meth c_al g_Kal_al
 ·exact e_Wal.meth c_al g_Wal_al
 ·exact e_Kle.meth c_le g_Kle_le
 ·exact e_Wle.meth c_le g_Wle_le
 ·exact e_Kno.meth c_no g_Kno_no
 ·exact e_Wno.meth c_no g_Wno_no
 ·exact e_Mno.meth c_no g_Mno_no
 ·exact e_Pno.meth c_no g_Pno_no
 ·intro u;cases u <;> first | exact e_Mfo.meth c_mo g_Mfo_mo | exact e_Mfo.meth c_ls g_Mfo_ls | exact e_Mfo.meth c_gr g_Mfo_gr | exact e_Mfo.meth c_lr g_Mfo_lr | exact e_Mfo.meth c_ld g_Mfo_ld
 ·intro u;cases u <;> first | exact e_Pfo.meth c_mo g_Pfo_mo | exact e_Pfo.meth c_ls g_Pfo_ls | exact e_Pfo.meth c_gr g_Pfo_gr | exact e_Pfo.meth c_lr g_Pfo_lr | exact e_Pfo.meth c_ld g_Pfo_ld
 ·intro u;cases u <;> first | exact e_Wfo.meth c_mo g_Wfo_mo | exact e_Wfo.meth c_ls g_Wfo_ls | exact e_Wfo.meth c_gr g_Wfo_gr | exact e_Wfo.meth c_lr g_Wfo_lr | exact e_Wfo.meth c_ld g_Wfo_ld
 ·exact e_F0mo.meth c_mo g_F0mo_mo
 ·exact e_F1mo.meth c_mo g_F1mo_mo
 ·exact e_F0ls.meth c_ls g_F0ls_ls
 ·exact e_F1ls.meth c_ls g_F1ls_ls
 ·exact e_F0gr.meth c_gr g_F0gr_gr
 ·exact e_F1gr.meth c_gr g_F1gr_gr
 ·exact e_F0lr.meth c_lr g_F0lr_lr
 ·exact e_F1lr.meth c_lr g_F1lr_lr
 ·exact e_F0ld.meth c_ld g_F0ld_ld
 ·exact e_F1ld.meth c_ld g_F1ld_ld
 ·exact e_ile.made c_le g_ile_le (mg_of X G n_le) y_le z_le
 ·exact e_ino.made c_no g_ino_no (mg_of X G n_no) y_no z_no
 ·intro u;cases u <;> first | exact e_ifo.made c_mo g_ifo_mo (mg_of X G n_mo) y_mo z_mo | exact e_ifo.made c_ls g_ifo_ls (mg_of X G n_ls) y_ls z_ls | exact e_ifo.made c_gr g_ifo_gr (mg_of X G n_gr) y_gr z_gr | exact e_ifo.made c_lr g_ifo_lr (mg_of X G n_lr) y_lr z_lr | exact e_ifo.made c_ld g_ifo_ld (mg_of X G n_ld) y_ld z_ld
 ·exact ⟨y_ne,i_ne,z_ne⟩
 ·exact mg_of X G n_ne
 ·exact ⟨y_al,i_al,z_al⟩
 ·exact mg_of X G n_al
section
variable {P:Program} {w:World} {K:Frag} {mg:Str->Option Value} {base:Heap} {c:Mine.CCs}
open Mine L2
theorem Mine.mks (A:AllF K mg c):mL P w K mg base "Letter" c.le 1 ["self","name"] (ko c.le mC)/\mL P w K mg base "Not" c.no 1 ["self","part"] (ko c.no qO)/\∀ u:W5,mL P w K mg base u.cls (c.fold u) 1 ["self","one","other"] (kj (c.fold u)):=
 ⟨xZ A.ile A.fx.nName,ok_iNot A.ino A.fx.nPart,λu=>DM (A.ifo u) (A.fx.nOne u) (A.fx.nOther u)⟩
theorem Mine.ms (A:AllF K mg c) (cT:mg "min"=none) (dR:mg "max"=none):Ms P w K mg base c:=by
 obtain ⟨kl,kn,kf⟩:=mks (P:=P) (w:=w) (base:=base) A
 have word:∀ t,aQ P w K mg base (c.of t) "making_word" 1 ["self"] (fg c t):=by
  intro t;cases t with
  | never=>exact AO A.Kne_ne
  | always=>exact xV A.Kal_al
  | lp=>exact ok_wLp A.Kle_le A.fx
  | lq=>exact ok_wLq A.Kle_le A.fx
  | no t=>exact ok_wNot A.Kno_no
  | fold u a b =>
   cases u
   ·exact DE A.F0mo_mo
   ·exact DF A.F0ls_ls
   ·exact vV A.F0gr_gr
   ·exact xU A.F0lr_lr
   ·exact AQ A.F0ld_ld
 have folded:∀ u,aQ P w K mg base (c.fold u) "folded" 1 ["self","n","first","second"] (hX u):=by
  intro u;cases u
  ·exact DO A.F1mo_mo cT
  ·exact DP A.F1ls_ls dR
  ·exact vX A.F1gr_gr dR
  ·exact ya A.F1lr_lr cT
  ·exact AX A.F1ld_ld cT
 refine ⟨λt=>?_,λt=>?_,λt=>?_,λt=>?_⟩
 ·cases t with
  | never=>exact zM A.madeS_ne rfl
  | always=>exact zM A.madeS_al rfl
  | lp=>exact zM A.madeS_le rfl
  | lq=>exact zM A.madeS_le rfl
  | no t=>exact ok_mNot A.Mno_no A.fx
  | fold u a b=>exact DK (A.Mfo u) A.fx
 ·exact word t
 ·cases t with
  | never=>exact pF A.piecesS_ne rfl (word .never)
  | always=>exact pF A.piecesS_al rfl (word .always)
  | lp=>exact pF (t:=.lp) A.piecesS_le rfl (word .lp)
  | lq=>exact pF (t:=.lq) A.piecesS_le rfl (word .lq)
  | no t=>exact ok_pNot A.Pno_no A.fx
  | fold u a b=>exact DH (A.Pfo u) A.fx (word (.fold u a b))
 ·cases t with
  | never=>exact xS A.Wne_ne
  | always=>exact vU A.Wal_al
  | lp=>exact ok_wgLp A.Wle_le A.fx
  | lq=>exact ok_wgLq A.Wle_le A.fx
  | no t=>exact DD A.Wno_no
  | fold u a b=>exact AN (A.Wfo u) (folded u)
end
open PySem PySem.W PyProof.Rows
structure Mine.X56 (K:Frag) (mg:Str->Option Value) (CS CT CN CF:Addr):Prop where
 mS:mg "SayError"=some (.ref CS)
 mT:mg "TooMany"=some (.ref CT)
 mN:mg "NoCut"=some (.ref CN)
 mF:mg "Fold"=some (.ref CF)
 xT:excIn K CT L2.bmV "ValueError.__new__"=true
 xN:excIn K CN L2.bmV "ValueError.__new__"=true
 cc:L2.iz K CS
 ec:L2.lL K CT
 su:mroIn K CT (.ref CS)=some true
 cn:L2.iz K CN
 sn:mroIn K CN (.ref CN)=some true
 k2:kitOne K (.ref CT) (.type "ValueError")=some true
 k3:kitOne K (.ref CT) (.ref CN)=some false
 ne:∃ a,mg "Never"=some (.ref a)/\kitOne K (.ref a) (.ref CF)=some false
 al:∃ a,mg "Always"=some (.ref a)/\kitOne K (.ref a) (.ref CF)=some false
 le:∃ a,mg "Letter"=some (.ref a)/\kitOne K (.ref a) (.ref CF)=some false
 no:∃ a,mg "Not"=some (.ref a)/\kitOne K (.ref a) (.ref CF)=some false
 mo:∃ a,mg "More"=some (.ref a)/\kitOne K (.ref a) (.ref CF)=some true
 ls:∃ a,mg "Less"=some (.ref a)/\kitOne K (.ref a) (.ref CF)=some true
 gr:∃ a,mg "Greater"=some (.ref a)/\kitOne K (.ref a) (.ref CF)=some true
 lr:∃ a,mg "Lesser"=some (.ref a)/\kitOne K (.ref a) (.ref CF)=some true
 ld:∃ a,mg "Leads"=some (.ref a)/\kitOne K (.ref a) (.ref CF)=some true
theorem Mine.X56.kf {K:Frag} {mg:Str->Option Value} {CS CT CN CF:Addr} {c:Mine.CCs} (X:Mine.X56 K mg CS CT CN CF) (A:Mine.AllF K mg c):∀ t,kitOne K (.ref (c.of t)) (.ref CF)=some (Mine.isF t):=by
 have g:∀{x:Str} {a:Addr} {b:Bool},mg x=some (.ref a)->(∃ a,mg x=some (.ref a)/\kitOne K (.ref a) (.ref CF)=some b)->kitOne K (.ref a) (.ref CF)=some b:=λe z=>by
  obtain ⟨a',e',k⟩:=z;cases e.symm.trans e'
  exact k
 intro t;cases t with
 | never=>exact g A.r_ne X.ne
 | always=>exact g A.r_al X.al
 | lp=>exact g A.ile.mg_ X.le
 | lq=>exact g A.ile.mg_ X.le
 | no=>exact g A.ino.mg_ X.no
 | fold u=>cases u with
  | more=>exact g (A.ifo .more).mg_ X.mo
  | less=>exact g (A.ifo .less).mg_ X.ls
  | greater=>exact g (A.ifo .greater).mg_ X.gr
  | lesser=>exact g (A.ifo .lesser).mg_ X.lr
  | leads=>exact g (A.ifo .leads).mg_ X.ld
theorem Mine.cls56 {K:Frag} {h:Heap} {mg:Str->Option Value} {CS CT CN CF ne al le no mo ls gr lr ld:Addr} {c1 c2 c3:ClassData} (X:K.In h) (G:h.Ns mainGlobals mg)
  (mCS:nsIn K mainGlobals "SayError"=some (some (.ref CS)))
  (mCT:nsIn K mainGlobals "TooMany"=some (some (.ref CT)))
  (mCN:nsIn K mainGlobals "NoCut"=some (some (.ref CN)))
  (mCF:nsIn K mainGlobals "Fold"=some (some (.ref CF)))
  (xt:excIn K CT L2.bmV "ValueError.__new__"=true)
  (xn:excIn K CN L2.bmV "ValueError.__new__"=true)
  (s6:clsIn K CS=some c1)
  (s7:typeIn K (.ref CS)=some (.type "type"))
  (s8:mroIn K CS (.type "BaseException")=some true)
  (e6:clsIn K CT=some c2)
  (e8:mroIn K CT (.type "BaseException")=some true)
  (e9:findIn K (.ref CT) "__getattribute__"=some (some (.builtin "BaseException.__getattribute__")))
  (e10:findIn K (.ref CT) "__getattr__"=some none)
  (e12:findIn K (.ref CT) "__class__"=some (some (.builtin "object.__class__")))
  (e13:specialIn K (.builtin "object.__class__") "__get__"=some (some (.builtin "getset_descriptor.__get__")))
  (e14:takesIn K (.builtin "object.__class__")=some true)
  (e16:mroIn K CT (.type "object")=some true)
  (su:mroIn K CT (.ref CS)=some true)
  (n6:clsIn K CN=some c3)
  (n7:typeIn K (.ref CN)=some (.type "type"))
  (n8:mroIn K CN (.type "BaseException")=some true)
  (sn:mroIn K CN (.ref CN)=some true)
  (kv:kitOne K (.ref CT) (.type "ValueError")=some true)
  (kw:kitOne K (.ref CT) (.ref CN)=some false)
  (mne:nsIn K mainGlobals "Never"=some (some (.ref ne)))
  (kne:kitOne K (.ref ne) (.ref CF)=some false)
  (mal:nsIn K mainGlobals "Always"=some (some (.ref al)))
  (kal:kitOne K (.ref al) (.ref CF)=some false)
  (mle:nsIn K mainGlobals "Letter"=some (some (.ref le)))
  (kle:kitOne K (.ref le) (.ref CF)=some false)
  (mno:nsIn K mainGlobals "Not"=some (some (.ref no)))
  (kno:kitOne K (.ref no) (.ref CF)=some false)
  (mmo:nsIn K mainGlobals "More"=some (some (.ref mo)))
  (kmo:kitOne K (.ref mo) (.ref CF)=some true)
  (mls:nsIn K mainGlobals "Less"=some (some (.ref ls)))
  (kls:kitOne K (.ref ls) (.ref CF)=some true)
  (mgr:nsIn K mainGlobals "Greater"=some (some (.ref gr)))
  (kgr:kitOne K (.ref gr) (.ref CF)=some true)
  (mlr:nsIn K mainGlobals "Lesser"=some (some (.ref lr)))
  (klr:kitOne K (.ref lr) (.ref CF)=some true)
  (mld:nsIn K mainGlobals "Leads"=some (some (.ref ld)))
  (kld:kitOne K (.ref ld) (.ref CF)=some true) :
  ∃ CS CT CN CF,Mine.X56 K mg CS CT CN CF:=
 ⟨CS,CT,CN,CF,mg_of X G mCS,mg_of X G mCT,mg_of X G mCN,mg_of X G mCF,xt,xn,⟨⟨_,s6⟩,s7,s8⟩,⟨e9,e10,⟨_,e6⟩,e12,e13,e14,e8,e16⟩,su,⟨⟨_,n6⟩,n7,n8⟩,sn,kv,kw,⟨_,mg_of X G mne,kne⟩,⟨_,mg_of X G mal,kal⟩,⟨_,mg_of X G mle,kle⟩,⟨_,mg_of X G mno,kno⟩,⟨_,mg_of X G mmo,kmo⟩,⟨_,mg_of X G mls,kls⟩,⟨_,mg_of X G mgr,kgr⟩,⟨_,mg_of X G mlr,klr⟩,⟨_,mg_of X G mld,kld⟩⟩
abbrev Mine.Pg:=PySem.Challenge.rw_leansay_k56_too_many_folds.prog
namespace PySem.W.Fast
def tw10012118906951114136:=0
def tw10017846301610054618:=0
def tw10045859511804439577:=0
def tw10058577759245729843:=0
def tw10066833534325962066:=0
def tw10081584336875723929:=0
def tw1008967649509281111:=0
def tw10108314906841430759:=0
def tw10133261153116620810:=0
def tw10136264520899763174:=0
def tw10150770456458564509:=0
def tw10152433669127744484:=0
def tw10158072556071649356:=0
def tw1015970275496473754:=0
def tw10189771919282347232:=0
def tw10208241310934119357:=0
def tw10234101322241502127:=0
def tw10236438671040996173:=0
def tw10239616885101300196:=0
def tw10242478655351255248:=0
def tw10283701666873096992:=0
def tw10314788695546357344:=0
def tw10318249224159541542:=0
def tw10319441336589932251:=0
def tw10320678869307965762:=0
def tw10325206244472913588:=0
def tw10341719189308862079:=0
def tw10381294838242417515:=0
def tw10413216955512442860:=0
def tw10463800678671716317:=0
def tw10468109213041081170:=0
def tw10487206756684883672:=0
def tw10533581090073049785:=0
def tw10592354111805349027:=0
def tw10610760079303444901:=0
def tw10626560851734184600:=0
def tw10674319578266437985:=0
def tw1070025068960429687:=0
def tw10761035090104024439:=0
def tw10790509102499391979:=0
def tw10791445183631125325:=0
def tw10795087233004386278:=0
def tw10881887840868758626:=0
def tw10898626061020161388:=0
def tw10899974605970167813:=0
def tw10917386000903798877:=0
def tw10934053082951332331:=0
def tw10976042877864315883:=0
def tw11020062079301406622:=0
def tw11021636645592072763:=0
def tw11063663158093499655:=0
def tw1108905264094347331:=0
def tw11111930528696032033:=0
def tw1111460482392143819:=0
def tw11116872370724347982:=0
def tw1112264348008339432:=0
def tw11148074523978959857:=0
def tw11169634309056284160:=0
def tw11178050612736731262:=0
def tw11181325238907969692:=0
def tw11196291229147806125:=0
def tw1121591258675283567:=0
def tw11238138497767335638:=0
def tw11356663709222597943:=0
def tw11397310750018718356:=0
def tw11462756987536652347:=0
def tw11469802486339510477:=0
def tw11473736506575038358:=0
def tw11483258933965107203:=0
def tw1148994768341727486:=0
def tw11508088957370125543:=0
def tw11666756888336498792:=0
def tw11678896693127998901:=0
def tw11704043725155094997:=0
def tw11756128178235679007:=0
def tw11761241734278640746:=0
def tw11761383154992971258:=0
def tw11763894587848617828:=0
def tw11764390716628543995:=0
def tw11796422991905995388:=0
def tw11835610758149473769:=0
def tw11849897141745110363:=0
def tw11861240816781868581:=0
def tw11925031355472369122:=0
def tw11931756898952033377:=0
def tw11940553376731143640:=0
def tw11955210810878906619:=0
def tw11962726636208886997:=0
def tw11998339919107207902:=0
def tw12003529078610467939:=0
def tw12015058110339957620:=0
def tw12017462373217336814:=0
def tw12021073154325250388:=0
def tw12066228196208099959:=0
def tw12079375799301110343:=0
def tw12095517134109285673:=0
def tw12108832339620606239:=0
def tw12158616762451773368:=0
def tw12182522797850024953:=0
def tw12188475034615000340:=0
def tw12189931550237388285:=0
def tw12234821006027653743:=0
def tw1223855790145222028:=0
def tw12297523630604970678:=0
def tw12298309148611035807:=0
def tw12313507788741804308:=0
def tw12335257700156452660:=0
def tw12408577327309944642:=0
def tw12414378634528543246:=0
def tw12434409898439756109:=0
def tw12439216316722647397:=0
def tw12532931076767401378:=0
def tw12565474398807995803:=0
def tw12576585655662006710:=0
def tw12591421221008036167:=0
def tw12667573833584054904:=0
def tw12679279458356273827:=0
def tw1271201805518971743:=0
def tw12718032955949582887:=0
def tw12724996691901934290:=0
def tw12727686173709819991:=0
def tw12749008909747869502:=0
def tw12766010452476311402:=0
def tw12771873933266811579:=0
def tw12807644100175873634:=0
def tw12809012334375583009:=0
def tw12895836544895810792:=0
def tw12933508311164287994:=0
def tw12943250731893914880:=0
def tw12981744649730877014:=0
def tw12982349979523768519:=0
def tw129831336583966311:=0
def tw13015188915748654703:=0
def tw13018144038698314259:=0
def tw13059478962768320475:=0
def tw13095420732404093960:=0
def tw13189102190370725220:=0
def tw13248426593954496517:=0
def tw13265611581550916642:=0
def tw13269787389332424994:=0
def tw13270604679253009044:=0
def tw13272409763322077554:=0
def tw13287067075253955557:=0
def tw13301110796750699501:=0
def tw13305817141048741369:=0
def tw13308597557464645594:=0
def tw13329374952147168224:=0
def tw13334766506943215165:=0
def tw13334831736178168185:=0
def tw13386304067376836413:=0
def tw13394614039473709348:=0
def tw1339743928343447145:=0
def tw13418647340464693578:=0
def tw13420982184671964588:=0
def tw13422897388362790371:=0
def tw13432770871581285792:=0
def tw13438264699221271121:=0
def tw13474870267329031971:=0
def tw13491617283185573485:=0
def tw13535584890288333770:=0
def tw13539808271970489124:=0
def tw13558835146804208486:=0
def tw13636179461429323495:=0
def tw13686353304550525377:=0
def tw13688831237557019018:=0
def tw13707967696295455417:=0
def tw13742919347778699626:=0
def tw13749266667619318632:=0
def tw13778703273093670313:=0
def tw13793227476930620221:=0
def tw13814486287829602964:=0
def tw13834277303030445623:=0
def tw13841047112187818569:=0
def tw13852309754546555941:=0
def tw13867855591493502497:=0
def tw13872369603110445270:=0
def tw13874169348568669759:=0
def tw13882294873090105865:=0
def tw13953014977526827044:=0
def tw13983823471412372922:=0
def tw13991236751772192135:=0
def tw14027115223037222430:=0
def tw1403682663115265282:=0
def tw14051831843036143588:=0
def tw14055158749627145800:=0
def tw14070298229537072362:=0
def tw14070541677206542838:=0
def tw14103356957923806378:=0
def tw14125377770444836933:=0
def tw14143903427431179356:=0
def tw1415974848370252255:=0
def tw14164289733890160373:=0
def tw14166330411058027597:=0
def tw14187590043026526497:=0
def tw14188416059105941597:=0
def tw14203393376873120949:=0
def tw14216671504735679775:=0
def tw14217066865808826973:=0
def tw14224830969237508643:=0
def tw14262968141149865510:=0
def tw14267729408103011966:=0
def tw14287624247970454096:=0
def tw14294748872334191155:=0
def tw14298508935936905375:=0
def tw14300300950684050455:=0
def tw14313419140066097985:=0
def tw14360167502997234015:=0
def tw14407600858629448946:=0
def tw14455474533831721770:=0
def tw14470943561092306544:=0
def tw14485716691620209015:=0
def tw14495168483173625497:=0
def tw14502777267969478677:=0
def tw14511622159953475971:=0
def tw14541919806118730765:=0
def tw14593514438210753133:=0
def tw14614315330959755675:=0
def tw1465764414708277829:=0
def tw14694012141190718491:=0
def tw14740833356442538155:=0
def tw14755425830488227802:=0
def tw14772427392869302589:=0
def tw14818125354413153661:=0
def tw14873911879616417359:=0
def tw14877819754290346165:=0
def tw14889907297918687679:=0
def tw14917225933698282689:=0
def tw14982168313298510035:=0
def tw1505306987519132185:=0
def tw15053138160538119807:=0
def tw15064357198314032328:=0
def tw15083977776151233030:=0
def tw15093812578859694972:=0
def tw1511277389190477873:=0
def tw15131144998397487238:=0
def tw15145012760060713536:=0
def tw15207294144757722785:=0
def tw15232965013261424357:=0
def tw15243179232786570826:=0
def tw15256250004982364972:=0
def tw15286432044417460570:=0
def tw15290702841252621335:=0
def tw15293597750527964475:=0
def tw15306575412242832074:=0
def tw15333245958989303454:=0
def tw15340534914639341068:=0
def tw1534742375095487649:=0
def tw15386469814488679159:=0
def tw15393358262992609747:=0
def tw15397758341321856971:=0
def tw1540218199811513661:=0
def tw15407944663097123826:=0
def tw15418472666684257996:=0
def tw15421863999395785590:=0
def tw15443944954275343941:=0
def tw15468648541076318161:=0
def tw15472733799172626639:=0
def tw15504950627822843461:=0
def tw1552171483517842299:=0
def tw15575302772516029101:=0
def tw15584229219543987256:=0
def tw15630141860946620756:=0
def tw15631922144358620356:=0
def tw15636490576460387113:=0
def tw15677034623588840073:=0
def tw15686209965440108779:=0
def tw15716094444384997198:=0
def tw15717272751005399406:=0
def tw15736797308191181509:=0
def tw15747771150740207256:=0
def tw1577772469887662194:=0
def tw15780282714212506837:=0
def tw15801786013756402848:=0
def tw15804504375135564804:=0
def tw15821763074974571166:=0
def tw15839344839428836106:=0
def tw1587099881361828953:=0
def tw1588383092433030520:=0
def tw15888652450177218036:=0
def tw15903232539688469867:=0
def tw159229035631584650:=0
def tw15925478260147555752:=0
def tw15926526286820110977:=0
def tw15936241447573285612:=0
def tw1598727694582422548:=0
def tw15998051003256274934:=0
def tw1600795598029366908:=0
def tw16085060322500574851:=0
def tw1608918160077151476:=0
def tw16116009365593759827:=0
def tw16120045309583461834:=0
def tw16130555659988988181:=0
def tw16158631685030662975:=0
def tw16159997304230313577:=0
def tw16297930664792457194:=0
def tw16320222789257352059:=0
def tw16325801509206897673:=0
def tw16361157367798005394:=0
def tw16425392036509489977:=0
def tw16428509999206664831:=0
def tw16449070566114372728:=0
def tw16485358261324746812:=0
def tw16527294166786003982:=0
def tw16539455185164402413:=0
def tw165485731015707091:=0
def tw16583102681915921641:=0
def tw1664724707245023074:=0
def tw16732623737417291967:=0
def tw16748728282179512905:=0
def tw16783486487467286704:=0
def tw16794812024066863570:=0
def tw16827553629475792628:=0
def tw16835312206582080158:=0
def tw16859285343453884522:=0
def tw16884445365888926089:=0
def tw16910387897519326744:=0
def tw1692232318728684198:=0
def tw169242789231256913:=0
def tw1694320338738144167:=0
def tw16947221953146743525:=0
def tw16956109493101167466:=0
def tw1697589543210606125:=0
def tw16979282617827332131:=0
def tw16985491875707726954:=0
def tw16994949815124497037:=0
def tw17039294772097116579:=0
def tw17077743247690671648:=0
def tw17078071903974208139:=0
def tw17095497757516151809:=0
def tw17142243991620896224:=0
def tw17158845579377742501:=0
def tw17211295531172506298:=0
def tw17218336090323074480:=0
def tw17247618639548877418:=0
def tw17305061551179013808:=0
def tw17327115096661282898:=0
def tw17337427540216487229:=0
def tw17357322832805409752:=0
def tw17358362495732136742:=0
def tw17396944777967100325:=0
def tw17429065574326900970:=0
def tw17430801383913019382:=0
def tw17434102887724030706:=0
def tw17435106590817339956:=0
def tw17453046279721483745:=0
def tw17528946128855938453:=0
def tw17538937326125945795:=0
def tw17578788507989212029:=0
def tw17584816064361451059:=0
def tw17613918484110070047:=0
def tw17615975765193457834:=0
def tw17638170786764722631:=0
def tw17644398942411268818:=0
def tw17652781719414348820:=0
def tw17709769138585926621:=0
def tw177145907429636632:=0
def tw17748986265837336800:=0
def tw17752347670557336493:=0
def tw17789535789074072527:=0
def tw17816136389071924568:=0
def tw17820500203730904123:=0
def tw17829071305207821667:=0
def tw17845771563130538048:=0
def tw17870046858459745004:=0
def tw17897071466421505169:=0
def tw17966299848002556904:=0
def tw17968409050325765178:=0
def tw17972139947574656209:=0
def tw17986996549486057751:=0
def tw17994382532306154722:=0
def tw18053295869560530154:=0
def tw1808181323946813220:=0
def tw18083286640895067841:=0
def tw18091022962007850724:=0
def tw18118359679808515071:=0
def tw18130962480120027291:=0
def tw18158266332221258132:=0
def tw18161814914872915220:=0
def tw18172803494870069538:=0
def tw18194893373516186123:=0
def tw1820200012633883533:=0
def tw18210033638625889046:=0
def tw18222989919864588513:=0
def tw18280202682384023111:=0
def tw18281870741285497290:=0
def tw18294457016249389241:=0
def tw18305202570955713658:=0
def tw18332657409052775106:=0
def tw18336055471656839002:=0
def tw18358466027798594108:=0
def tw18360637893758330542:=0
def tw18418493627605518244:=0
def tw1928777188339763603:=0
def tw197296001075856340:=0
def tw1977091587210514008:=0
def tw1989996895993264012:=0
def tw2006092843711134300:=0
def tw201689597419360332:=0
def tw2100029611368458352:=0
def tw2108695037220725649:=0
def tw2111410650492426435:=0
def tw2124895498786410192:=0
def tw2140779752960152041:=0
def tw2154832243774470314:=0
def tw2156804149923207437:=0
def tw2187778496380243597:=0
def tw2210923832213646110:=0
def tw2213173212783410701:=0
def tw2222761687961814489:=0
def tw2228418088035255917:=0
def tw223063936402888741:=0
def tw2258747307725641976:=0
def tw2282579979741725601:=0
def tw2285226973496406431:=0
def tw2322222064372577453:=0
def tw2328055686839326116:=0
def tw2344029276248992332:=0
def tw2345369165178952285:=0
def tw2362066459816520895:=0
def tw2377957601688095965:=0
def tw2388970558102844296:=0
def tw2401004317338029580:=0
def tw2414201786353526730:=0
def tw2427332602040081956:=0
def tw2445845342743694770:=0
def tw2448471517573079915:=0
def tw247092638493908427:=0
def tw2478932925114615251:=0
def tw2516091534451402322:=0
def tw2522168258750653790:=0
def tw25313446762065723:=0
def tw2532656115951604820:=0
def tw2532758480666946410:=0
def tw2546216541802419436:=0
def tw2546461116464192547:=0
def tw2563433337363191343:=0
def tw2595048063785222462:=0
def tw2615989500631839166:=0
def tw2620943358162526914:=0
def tw262911810597484452:=0
def tw263295186529251730:=0
def tw2642480389157560900:=0
def tw2645679148029042918:=0
def tw2648840914954901081:=0
def tw266597646801519881:=0
def tw2691303426217964751:=0
def tw2692777905187779525:=0
def tw2735368963592574231:=0
def tw2737742442624208095:=0
def tw2750746376397480436:=0
def tw2756376523764982156:=0
def tw2758509776128518398:=0
def tw2762433722321637635:=0
def tw2771226993838876976:=0
def tw2826557520187382559:=0
def tw2853305540800323911:=0
def tw2898457029494431231:=0
def tw290504267093349789:=0
def tw293833999295336992:=0
def tw2960354297391947204:=0
def tw2991363863333892015:=0
def tw3015331432972921880:=0
def tw3018762051580437587:=0
def tw3043279763989071153:=0
def tw3065226165682808723:=0
def tw3087368653101806766:=0
def tw3126257673969330634:=0
def tw3145023203806248093:=0
def tw315404805771515193:=0
def tw31576260544440666:=0
def tw3166637519824595722:=0
def tw3172490376421642738:=0
def tw3183822446843448492:=0
def tw3204902152153107804:=0
def tw3209346021111834508:=0
def tw3226488923439375672:=0
def tw3234714709413406843:=0
def tw3305221485996694944:=0
def tw3329071312059062349:=0
def tw3337157129285921810:=0
def tw3344893261921448196:=0
def tw3382397184200387930:=0
def tw342572153444077944:=0
def tw3446404672998305587:=0
def tw3558543816193635852:=0
def tw3592993176912937664:=0
def tw3603761621225573775:=0
def tw3604840194326367736:=0
def tw3609333151035160524:=0
def tw3709177918458707677:=0
def tw3719350992196555195:=0
def tw3720387335312790993:=0
def tw3757809372785262703:=0
def tw3770473399094257670:=0
def tw3809280172653107634:=0
def tw3853411738587900761:=0
def tw3862678771563891867:=0
def tw3869189795729495015:=0
def tw3873104932616459176:=0
def tw3892053191595082689:=0
def tw3929937648383005989:=0
def tw3962576363850633346:=0
def tw3975820554500573729:=0
def tw4020407512567694831:=0
def tw4022078847576458238:=0
def tw403472832693772288:=0
def tw4054087707425725791:=0
def tw4073138723257465507:=0
def tw4080814839519965293:=0
def tw4127671674174419655:=0
def tw4140759241055535491:=0
def tw4143185186669636581:=0
def tw4180866367928088808:=0
def tw4196781696760550518:=0
def tw4203445175497772717:=0
def tw4230470134079039795:=0
def tw4240970327777249760:=0
def tw4255505158305903369:=0
def tw4260842488798293202:=0
def tw42682141511519871:=0
def tw4278537518084411893:=0
def tw4279548386425846943:=0
def tw4280212416271708874:=0
def tw4292180691556400453:=0
def tw4302125495232754643:=0
def tw4326380600743911737:=0
def tw4331547701076748235:=0
def tw4332307293858449216:=0
def tw4357911011537085137:=0
def tw4367831248239260700:=0
def tw4403360310588726130:=0
def tw4405654490558356494:=0
def tw4415615963716612550:=0
def tw4425827029904715368:=0
def tw4441623488554579587:=0
def tw444372782597039876:=0
def tw445677020373772907:=0
def tw4476395289417045733:=0
def tw4485855439340511326:=0
def tw4499931447836268502:=0
def tw451126846644409770:=0
def tw4581561969900768047:=0
def tw4667638354306111022:=0
def tw4667909251798269723:=0
def tw4668979840425159669:=0
def tw4676296449392684216:=0
def tw4682800078100153913:=0
def tw4685467353129451611:=0
def tw4765639617827729678:=0
def tw4766283239532651021:=0
def tw4801755953148170623:=0
def tw4815267980640352937:=0
def tw4826821025872923849:=0
def tw4856757248472806149:=0
def tw4871773303548994406:=0
def tw4873246804337093266:=0
def tw4888640552325280240:=0
def tw4915392840601794037:=0
def tw4917338894970814827:=0
def tw4934742998903287960:=0
def tw4974325733432210600:=0
def tw4979808421212111569:=0
def tw500673000083385547:=0
def tw5012121333083658551:=0
def tw5018827957394470877:=0
def tw5024184172385493252:=0
def tw5044524309217690201:=0
def tw5045599652862338915:=0
def tw505264722790741361:=0
def tw5068227085799592536:=0
def tw5131685007024912534:=0
def tw5156795460587078555:=0
def tw5166635255754970717:=0
def tw5191635229289078933:=0
def tw5202818859491343436:=0
def tw5238453471118020937:=0
def tw5257787341039479561:=0
def tw5271389766822153012:=0
def tw5318607168600173542:=0
def tw5336453108783609418:=0
def tw5342047322282292747:=0
def tw5367120149847484018:=0
def tw5381397531794380157:=0
def tw5389308516610220802:=0
def tw5401712878299010531:=0
def tw5412054725494809992:=0
def tw5413105370642197043:=0
def tw5425554308928259979:=0
def tw5427285726289093346:=0
def tw5427427091952909592:=0
def tw5439272789749867054:=0
def tw5445250520513911529:=0
def tw5481994189668110128:=0
def tw5487209288618696794:=0
def tw5492301695906502698:=0
def tw5501161542220099687:=0
def tw5561137380045794934:=0
def tw5569826483455716364:=0
def tw5576400275395308914:=0
def tw5577585535551387993:=0
def tw5584039764957244523:=0
def tw5666542021713374796:=0
def tw5672709279326334727:=0
def tw5728334373056067166:=0
def tw5748438658240462908:=0
def tw578536173687301688:=0
def tw5878674897259374889:=0
def tw5902954346182882328:=0
def tw5921578173486794643:=0
def tw5926231879812339037:=0
def tw5929805017691138620:=0
def tw5937151000183997092:=0
def tw59384891983365088:=0
def tw5954780176628504435:=0
def tw599947843638584142:=0
def tw6027445895268936726:=0
def tw6048865508818492510:=0
def tw6057505191202980296:=0
def tw6063153481070128883:=0
def tw6130374617217372479:=0
def tw618195435827248491:=0
def tw6226151837235749863:=0
def tw6236953311606374096:=0
def tw6274391490962823092:=0
def tw6289275607513777402:=0
def tw6294205859547107855:=0
def tw6299507664405797993:=0
def tw6304040172371726561:=0
def tw6324346133776827014:=0
def tw632692566796628732:=0
def tw6346551421578089581:=0
def tw6349109607245480611:=0
def tw635607288423304090:=0
def tw635834575831444445:=0
def tw642898121152943306:=0
def tw6429385694802989073:=0
def tw6445104411099126383:=0
def tw6448999070945139033:=0
def tw6457875977367840860:=0
def tw6459996074355319438:=0
def tw6463388972409247069:=0
def tw6476025237629249827:=0
def tw6482077690909355860:=0
def tw6573123872759615867:=0
def tw6582913274641226735:=0
def tw6583469838849789227:=0
def tw6603325476199002442:=0
def tw6614307546246808080:=0
def tw6616401467556453652:=0
def tw6632946082287109501:=0
def tw6633122018621263043:=0
def tw6678377465502031942:=0
def tw6692213978186215027:=0
def tw6728231028792048158:=0
def tw6745760699499223496:=0
def tw6780219402055109798:=0
def tw6800922708463112063:=0
def tw6872287407938225514:=0
def tw6916118734532185087:=0
def tw6924530921723742771:=0
def tw6958114338478044608:=0
def tw6966473714515466128:=0
def tw6993943101733533156:=0
def tw6999139096208781146:=0
def tw7058329416377338668:=0
def tw7122159907040920948:=0
def tw7122480816964875887:=0
def tw7156478363884346046:=0
def tw7163452592816295149:=0
def tw7188626614076028692:=0
def tw7192577484505730354:=0
def tw7194249576385678543:=0
def tw7204949774928559053:=0
def tw7225831494673789986:=0
def tw7242166105509458247:=0
def tw7246148448248688867:=0
def tw7259913433707527449:=0
def tw7264564595991549538:=0
def tw731411165276197470:=0
def tw7315743085666837091:=0
def tw7318716891173730538:=0
def tw7325171758777980046:=0
def tw7348322696060781975:=0
def tw7362084481937909967:=0
def tw7389946047615331560:=0
def tw7390432672585175917:=0
def tw7390766340186732646:=0
def tw746420914993954392:=0
def tw7467472191620291447:=0
def tw7535161630697461593:=0
def tw757802906395888254:=0
def tw7587616438788530634:=0
def tw7612134156948272975:=0
def tw7626088394152327341:=0
def tw7678667567530864559:=0
def tw7686265681012356326:=0
def tw7698971135256513968:=0
def tw7730766690822105107:=0
def tw7747945750265146955:=0
def tw7785308923381734830:=0
def tw7845474473392317930:=0
def tw7855262744922060130:=0
def tw7868661963257848453:=0
def tw7894830663352804593:=0
def tw7907578693322360781:=0
def tw7909083430287375024:=0
def tw7952648827185571568:=0
def tw7963625205033626496:=0
def tw7969512275778386614:=0
def tw8043854734200159754:=0
def tw8046072559775383347:=0
def tw8071635181046927900:=0
def tw8085550534984946938:=0
def tw8089716455099504881:=0
def tw8102915106816801085:=0
def tw8106490129601034692:=0
def tw8148832164431689014:=0
def tw8155302547070848252:=0
def tw8155859047157963831:=0
def tw8160264261837533768:=0
def tw8230841328376894204:=0
def tw8249848302384874920:=0
def tw8252074712600315786:=0
def tw8277502893557779255:=0
def tw8295733291567150334:=0
def tw8315017372642314815:=0
def tw8339757597138743904:=0
def tw8404966548807595689:=0
def tw8421788109460701756:=0
def tw8454704792095295173:=0
def tw8466283251205085409:=0
def tw8472410655417981881:=0
def tw8489122051825764916:=0
def tw851963401073261646:=0
def tw8522661107116300491:=0
def tw8525825981604765471:=0
def tw8529313105237592575:=0
def tw8543853360046967724:=0
def tw8585596061359374400:=0
def tw8589829940240069562:=0
def tw8596162589163708313:=0
def tw8606189509052119809:=0
def tw8618115048617333971:=0
def tw8626601518175424931:=0
def tw8644908676887364101:=0
def tw8645258380111717660:=0
def tw8673531929334844920:=0
def tw8674021799047221221:=0
def tw868137435422184221:=0
def tw8693013463129992649:=0
def tw8716910481421555407:=0
def tw8775736827624570095:=0
def tw8794217636067533694:=0
def tw8795830763981900659:=0
def tw8852707974670494650:=0
def tw8854416942099630603:=0
def tw8866126208350185889:=0
def tw8883549174088975148:=0
def tw8916727569674019693:=0
def tw8918687906495165640:=0
def tw8931671161937359711:=0
def tw9036758252393474433:=0
def tw9045887895026719042:=0
def tw9093870595720425888:=0
def tw9119125067580716627:=0
def tw9123865585942003254:=0
def tw9167163304377120824:=0
def tw9173885559211602610:=0
def tw9178770430807117639:=0
def tw9206450561129147052:=0
def tw9216852533569721234:=0
def tw9270411040542978148:=0
def tw9277681811877782340:=0
def tw9304227181197212884:=0
def tw9341221828931763916:=0
def tw9348633368251476237:=0
def tw9369160741554782530:=0
def tw9374345357940952058:=0
def tw9387573529034062561:=0
def tw9417851972091516416:=0
def tw943261336413858471:=0
def tw9433404916380977920:=0
def tw9462135767341997209:=0
def tw9491682073447498342:=0
def tw9536255757065577537:=0
def tw9559351017324579454:=0
def tw9586709394518220777:=0
def tw9587239280261154197:=0
def tw9588820663473743082:=0
def tw9630915187461138740:=0
def tw9630965442185592938:=0
def tw9641130867441004211:=0
def tw965228928834973121:=0
def tw9706450170536560165:=0
def tw9742784937404129155:=0
def tw9793760025371052542:=0
def tw9794277984072930575:=0
def tw9819524558023224490:=0
def tw9830604193695170493:=0
def tw9838491780893333815:=0
def tw987524776675328640:=0
def tw9880229273165384776:=0
def tw9916104420510182315:=0
def tw9978032016198238420:=0
def tw9996330918278990679:=0
end PySem.W.Fast
open PySem PySem.W PyProof.Rows
set_option hygiene false
local macro_rules | `(tactic| walk_at "td") => `(tactic| (dsimp only [L2.KOf];refine' L2.aS KX G ?a ?l ?c ?k;(case a=>k_is);(case l=>k_is);(case c=>k_is);(case k=>k_is)))
local macro_rules | `(tactic| walk_at "fe") => `(tactic| (refine' L2.bf ?l ?c ?k ?fn;(case l=>k_is);(case c=>k_is);(case k=>k_is);(case fn=>k_is)))
set_option hygiene true
set_option maxRecDepth 100000 in
set_option maxHeartbeats 0 in
theorem PySem.Challenge.cw_leansay_k56_too_many_folds_holds : PySem.Challenge.rw_leansay_k56_too_many_folds.Holds := by
 w_on;o_law;k_head;(case hw=>w_witness2)
 k_fill
 refine L2.Am (l:=PySem.Challenge.rw_leansay_k56_too_many_folds) (n:=63) (k:=80) (x:="_law_script") (CX:=L2.CX0) (sp:=Mine.spLaw) rfl (by decide) rfl ⟨rfl,by decide,by decide⟩ (λw h Y=>PySem.W.kIn_of Y) ?F ?S ?C
 case F =>
  intro w mg fa h KX G hmg
  have oV:L2.aF (L2.KOf KX) mg "common_factor" Mine.gM:=by walk_at "td"
  have yK:L2.aF (L2.KOf KX) mg "fraction" Mine.lx:=by walk_at "td"
  have T_minus:L2.aF (L2.KOf KX) mg "minus" Mine.tF:=by walk_at "td"
  have T_less:L2.aF (L2.KOf KX) mg "less" Mine.xI:=by walk_at "td"
  have wZ:L2.aF (L2.KOf KX) mg "square" Mine.mh:=by walk_at "td"
  have BN:L2.aF (L2.KOf KX) mg "told_by" Mine.nq:=by walk_at "td"
  have mJ:L2.aF (L2.KOf KX) mg "told_in_corners" Mine.cC:=by walk_at "td"
  have nV:L2.aF (L2.KOf KX) mg "corner_between" Mine.bU:=by walk_at "td"
  have T_cut:L2.aF (L2.KOf KX) mg "cut" Mine.jR:=by walk_at "td"
  have yH:L2.aF (L2.KOf KX) mg "is_whole" Mine.lg:=by walk_at "td"
  have yI:L2.aF (L2.KOf KX) mg "is_point" Mine.eY:=by walk_at "td"
  have oS:L2.aF (L2.KOf KX) mg "must_be_point" Mine.gJ:=by walk_at "td"
  have T_worth:L2.aF (L2.KOf KX) mg "worth" Mine.tE:=by walk_at "td"
  have BO:L2.aF (L2.KOf KX) mg "rows_of" Mine.fU:=by walk_at "td"
  have T_both:L2.aF (L2.KOf KX) mg "both" Mine.qi:=by walk_at "td"
  have BL:L2.aF (L2.KOf KX) mg "without" Mine.iU:=by walk_at "td"
  have xa:L2.aF (L2.KOf KX) mg "leaf_rule" Mine.jP:=by walk_at "td"
  have rD:L2.aF (L2.KOf KX) mg "fold_choice" Mine.iG:=by walk_at "td"
  have xf:L2.aF (L2.KOf KX) mg "choice_of" Mine.jT:=by walk_at "td"
  have xc:L2.aF (L2.KOf KX) mg "chosen_on" Mine.jS:=by walk_at "td"
  have oR:L2.aF (L2.KOf KX) mg "rules_of_rows" Mine.gH:=by walk_at "td"
  have yJ:L2.aF (L2.KOf KX) mg "hulls_of" Mine.lj:=by walk_at "td"
  have kS:L2.aF (L2.KOf KX) mg "must_be_few" Mine.fZ:=by walk_at "td"
  have BM:L2.aF (L2.KOf KX) mg "tree_on" Mine.nj:=by walk_at "td"
  have sW:L2.aF (L2.KOf KX) mg "cutting" Mine.ky:=by walk_at "td"
  have qX:L2.aF (L2.KOf KX) mg "rows_of_both" Mine.ig:=by walk_at "td"
  have iu:L2.aF (L2.KOf KX) mg "cutting_for_both" Mine.cU:=by walk_at "td"
  have mK:L2.aF (L2.KOf KX) mg "rules_in_leaves" Mine.bD:=by walk_at "td"
  have oU:L2.aF (L2.KOf KX) mg "is_no_less_at" Mine.gK:=by walk_at "td"
  have oT:L2.aF (L2.KOf KX) mg "is_no_less_on" Mine.de:=by walk_at "td"
  have T_holds : L2.aF (L2.KOf KX) mg "holds" Mine.s_holds :=by walk_at "td"
  have T_holds_for_both : L2.aF (L2.KOf KX) mg "holds_for_both" Mine.s_holds_for_both :=by walk_at "td"
  have kT:L2.aF (L2.KOf KX) mg "least_worth" Mine.gf:=by walk_at "td"
  have xh:L2.aF (L2.KOf KX) mg "always" Mine.mj:=by walk_at "td"
  have uI:L2.aF (L2.KOf KX) mg "side_bound" Mine.jn:=by walk_at "td"
  have xg:L2.aF (L2.KOf KX) mg "bounds_of" Mine.gF:=by walk_at "td"
  have jC:L2.aF (L2.KOf KX) mg "regions_below" Mine.cA:=by walk_at "td"
  have yF:L2.aF (L2.KOf KX) mg "round_up" Mine.kZ:=by walk_at "td"
  have yE:L2.aF (L2.KOf KX) mg "y_within" Mine.kY:=by walk_at "td"
  have rC:L2.aF (L2.KOf KX) mg "step_within" Mine.cH:=by walk_at "td"
  have uH:L2.aF (L2.KOf KX) mg "step_below" Mine.jm:=by walk_at "td"
  have kh:L2.aF (L2.KOf KX) mg "fewest_steps" Mine.fj:=by walk_at "td"
  have Fd:L2.aF (L2.KOf KX) mg "lack" Mine.tG:=by walk_at "td"
  have Aj:L2.aF (L2.KOf KX) mg "alike" Mine.pC:=by walk_at "td"
  have BP:L2.aF (L2.KOf KX) mg "_law_mixed" Mine.AH:=by walk_at "td"
  have Fe:L2.aF (L2.KOf KX) mg "_law_next" Mine.CO:=by walk_at "td"
  have yG:L2.aF (L2.KOf KX) mg "_law_object" Mine.xJ:=by walk_at "td"
  have BQ:L2.aF (L2.KOf KX) mg "_law_chain" Mine.nu:=by walk_at "td"
  have BR:L2.aF (L2.KOf KX) mg "_law_asked" Mine.nv:=by walk_at "td"
  have xb:L2.aF (L2.KOf KX) mg "_law_refused" Mine.jQ:=by walk_at "td"
  have T_law:L2.aF (L2.KOf KX) mg "law" Mine.vC:=by walk_at "td"
  have cK:mg "len"=none:=by
   refine' PySem.W.mg_none_of KX G ?z;(case z=>k_is)
  have ke:mg "abs"=none:=by
   refine' PySem.W.mg_none_of KX G ?z;(case z=>k_is)
  have bw:mg "isinstance"=none:=by
   refine' PySem.W.mg_none_of KX G ?z;(case z=>k_is)
  have yC:mg "bool"=none:=by
   refine' PySem.W.mg_none_of KX G ?z;(case z=>k_is)
  have sU:mg "int"=none:=by
   refine' PySem.W.mg_none_of KX G ?z;(case z=>k_is)
  have cY:mg "tuple"=none:=by
   refine' PySem.W.mg_none_of KX G ?z;(case z=>k_is)
  have eW:mg "range"=none:=by
   refine' PySem.W.mg_none_of KX G ?z;(case z=>k_is)
  have Z_list:mg "list"=none:=by
   refine' PySem.W.mg_none_of KX G ?z;(case z=>k_is)
  have cT:mg "min"=none:=by
   refine' PySem.W.mg_none_of KX G ?z;(case z=>k_is)
  have dR:mg "max"=none:=by
   refine' PySem.W.mg_none_of KX G ?z;(case z=>k_is)
  have jB:mg "all"=none:=by
   refine' PySem.W.mg_none_of KX G ?z;(case z=>k_is)
  have sV:mg "any"=none:=by
   refine' PySem.W.mg_none_of KX G ?z;(case z=>k_is)
  have Z_sum:mg "sum"=none:=by
   refine' PySem.W.mg_none_of KX G ?z;(case z=>k_is)
  have fe:mg "enumerate"=none:=by
   refine' PySem.W.mg_none_of KX G ?z;(case z=>k_is)
  have ir:mg "zip"=none:=by
   refine' PySem.W.mg_none_of KX G ?z;(case z=>k_is)
  have jw:mg "ValueError"=none:=by
   refine' PySem.W.mg_none_of KX G ?z;(case z=>k_is)
  have kb:kitOne (L2.KOf KX) (.type "int") (.type "bool")=some false:=by
   dsimp only [L2.KOf]
   first | k_is | kit_is
  have AA:∃ c,Mine.AllF (L2.KOf KX) mg c:=by
   dsimp only [L2.KOf];refine' Mine.all_mk KX G ?zaa ?zab ?zac ?zad ?zae ?zaf ?zag ?zah ?zai ?zaj ?zak ?zal ?zam ?zan ?zao ?zap ?zaq ?zar ?zas ?zat ?zau ?zav ?zaw ?zax ?zay ?zaz ?zba ?zbb ?zbc ?zbd ?zbe ?zbf ?zbg ?zbh ?zbi ?zbj ?zbk ?zbl ?zbm ?zbn ?zbo ?zbp ?zbq ?zbr ?zbs ?hn ?tk ?zbt ?zbu ?zbv ?zbw ?zbx ?zby ?zbz ?zca ?zcb ?zcc ?zcd ?zce ?zcf ?zcg ?zch ?zci ?zcj ?zck ?zcl ?zcm ?zcn ?zco ?zcp ?zcq ?zcr ?zcs ?zct ?zcu ?zcv ?zcw ?zcx ?zcy ?zcz ?zda ?zdb ?zdc ?zdd ?zde ?zdf ?zdg ?zdh ?zdi ?zdj ?zdk ?zdl ?zdm ?zdn ?zdo ?zdp ?zdq ?zdr ?zds ?zdt ?zdu ?zdv ?zdw ?zdx ?zdy ?zdz ?zea ?zeb ?zec ?zed ?zee ?zef ?zeg ?zeh ?zei ?zej ?zek ?zel ?zem ?zen ?zeo ?zep ?zeq ?zer ?zes ?zet ?zeu ?zev ?zew ?zex ?zey ?zez ?zfa ?zfb ?zfc ?zfd ?zfe ?zff ?zfg ?zfh ?zfi ?zfj ?zfk ?zfl ?zfm ?zfn ?zfo ?zfp ?zfq ?zfr ?zfs ?zft ?zfu ?zfv ?zfw ?zfx ?zfy ?zfz ?zga ?zgb ?zgc ?zgd ?zge ?zgf ?zgg ?zgh ?zgi ?zgj ?zgk ?zgl ?zgm ?zgn ?zgo ?zgp ?zgq ?zgr ?zgs ?zgt ?zgu ?zgv ?zgw ?zgx ?zgy ?zgz ?zha ?zhb ?zhc ?zhd ?zhe ?zhf ?zhg ?zhh ?zhi ?zhj ?zhk ?zhl ?zhm ?zhn ?zho ?zhp ?zhq ?zhr ?zhs ?zht ?zhu
   (case zaa|zab|zac|zad|zae|zaf|zag|zah|zai=>k_is)
   (case zaj|zak|zal|zam|zan|zao|zap|zaq|zar=>refine' ⟨?q1,?q2,?q3,?q4⟩;(case q1|q2|q3|q4=>k_is))
   (case zas|zat|zau|zav|zaw|zax|zay|zaz|zba|zbb|zbc|zbd|zbe|zbf|zbg|zbh|zbi|zbj=>k_is)
   (case zbk|zbl|zbm|zbn|zbo|zbp|zbq|zbr|zbs=>first | k_is | kit_is)
   (case hn|tk|zbt|zbu|zbv|zbw|zbx|zby|zbz|zca|zcb|zcc|zcd|zce|zcf|zcg|zch=>k_is)
   (case zci=>walk_at "fe")
   (case zcj|zck|zcl=>k_is)
   (case zcm=>walk_at "fe")
   (case zcn|zco|zcp|zcq|zcr|zcs|zct|zcu|zcv=>k_is)
   (case zcw=>walk_at "fe")
   (case zcx|zcy|zcz|zda|zdb|zdc|zdd|zde|zdf=>k_is)
   (case zdg=>walk_at "fe")
   (case zdh|zdi|zdj|zdk|zdl|zdm|zdn|zdo|zdp=>k_is)
   (case zdq=>walk_at "fe")
   (case zdr|zds|zdt|zdu|zdv|zdw|zdx|zdy|zdz=>k_is)
   (case zea=>walk_at "fe")
   (case zeb|zec|zed|zee|zef|zeg|zeh|zei|zej=>k_is)
   (case zek=>walk_at "fe")
   (case zel=>k_is)
   (case zem=>walk_at "fe")
   (case zen=>k_is)
   (case zeo=>walk_at "fe")
   (case zep=>k_is)
   (case zeq=>walk_at "fe")
   (case zer=>k_is)
   (case zes=>walk_at "fe")
   (case zet=>k_is)
   (case zeu=>walk_at "fe")
   (case zev=>k_is)
   (case zew=>walk_at "fe")
   (case zex=>k_is)
   (case zey=>walk_at "fe")
   (case zez=>k_is)
   (case zfa=>walk_at "fe")
   (case zfb=>k_is)
   (case zfc=>walk_at "fe")
   (case zfd=>k_is)
   (case zfe=>walk_at "fe")
   (case zff|zfg|zfh|zfi|zfj=>k_is)
   (case zfk=>walk_at "fe")
   (case zfl|zfm|zfn|zfo|zfp=>k_is)
   (case zfq=>walk_at "fe")
   (case zfr|zfs|zft|zfu|zfv=>k_is)
   (case zfw=>walk_at "fe")
   (case zfx=>k_is)
   (case zfy=>walk_at "fe")
   (case zfz=>k_is)
   (case zga=>walk_at "fe")
   (case zgb=>k_is)
   (case zgc=>walk_at "fe")
   (case zgd=>k_is)
   (case zge=>walk_at "fe")
   (case zgf=>k_is)
   (case zgg=>walk_at "fe")
   (case zgh=>k_is)
   (case zgi=>walk_at "fe")
   (case zgj=>k_is)
   (case zgk=>walk_at "fe")
   (case zgl=>k_is)
   (case zgm=>walk_at "fe")
   (case zgn=>k_is)
   (case zgo=>walk_at "fe")
   (case zgp=>k_is)
   (case zgq=>walk_at "fe")
   (case zgr=>k_is)
   (case zgs=>walk_at "fe")
   (case zgt=>k_is)
   (case zgu=>walk_at "fe")
   (case zgv|zgw|zgx|zgy|zgz=>k_is)
   (case zha=>walk_at "fe")
   (case zhb|zhc|zhd|zhe|zhf|zhg|zhh|zhi|zhj|zhk|zhl|zhm|zhn|zho|zhp|zhq|zhr|zhs|zht|zhu=>k_is)
  obtain ⟨c,AF⟩:=AA
  have CC:∃ CS CT CN CF,Mine.X56 (L2.KOf KX) mg CS CT CN CF:=by
   dsimp only [L2.KOf];refine' Mine.cls56 KX G ?zhv ?zhw ?zhx ?zhy ?xt ?xn ?s6 ?s7 ?s8 ?e6 ?e8 ?e9 ?zhz ?zia ?zib ?zic ?zid ?su ?n6 ?n7 ?n8 ?sn ?kv ?kw ?zie ?zif ?zig ?zih ?zii ?zij ?zik ?zil ?zim ?zin ?zio ?zip ?ziq ?zir ?zis ?zit ?ziu ?ziv
   (case zhv|zhw|zhx|zhy=>k_is)
   (case xt|xn=>k_exc)
   (case s6|s7|s8|e6|e8|e9|zhz|zia|zib|zic|zid|su|n6|n7|n8|sn=>k_is)
   (case kv|kw=>first | k_is | kit_is)
   (case zie=>k_is)
   (case zif=>first | k_is | kit_is)
   (case zig=>k_is)
   (case zih=>first | k_is | kit_is)
   (case zii=>k_is)
   (case zij=>first | k_is | kit_is)
   (case zik=>k_is)
   (case zil=>first | k_is | kit_is)
   (case zim=>k_is)
   (case zin=>first | k_is | kit_is)
   (case zio=>k_is)
   (case zip=>first | k_is | kit_is)
   (case ziq=>k_is)
   (case zir=>first | k_is | kit_is)
   (case zis=>k_is)
   (case zit=>first | k_is | kit_is)
   (case ziu=>k_is)
   (case ziv=>first | k_is | kit_is)
  obtain ⟨CS,CT,CN,CF,XF⟩:=CC
  have hG:L2.eG (L2.KOf KX) mg "NEVER" [0,0,0]:=by
   dsimp only [L2.KOf];refine' L2.iM (ns:=[0,0,0]) KX G ?e ?l ?z ?v;(case e=>k_is);(case l=>k_is);(case z=>decide);(case v=>exact (.cons ⟨_,rfl⟩ (.cons ⟨_,rfl⟩ (.cons ⟨_,rfl⟩ .nil))))
  have fJ:L2.eG (L2.KOf KX) mg "ALWAYS" [0,0,1]:=by
   dsimp only [L2.KOf];refine' L2.iM (ns:=[0,0,1]) KX G ?e ?l ?z ?v;(case e=>k_is);(case l=>k_is);(case z=>decide);(case v=>exact (.cons ⟨_,rfl⟩ (.cons ⟨_,rfl⟩ (.cons ⟨_,rfl⟩ .nil))))
  have lK:L2.eG (L2.KOf KX) mg "LETTER_P" [1,0,0]:=by
   dsimp only [L2.KOf];refine' L2.iM (ns:=[1,0,0]) KX G ?e ?l ?z ?v;(case e=>k_is);(case l=>k_is);(case z=>decide);(case v=>exact (.cons ⟨_,rfl⟩ (.cons ⟨_,rfl⟩ (.cons ⟨_,rfl⟩ .nil))))
  have lJ:L2.eG (L2.KOf KX) mg "LETTER_Q" [0,1,0]:=by
   dsimp only [L2.KOf];refine' L2.iM (ns:=[0,1,0]) KX G ?e ?l ?z ?v;(case e=>k_is);(case l=>k_is);(case z=>decide);(case v=>exact (.cons ⟨_,rfl⟩ (.cons ⟨_,rfl⟩ (.cons ⟨_,rfl⟩ .nil))))
  have P_LEAF:Mine.yD (L2.KOf KX) mg "LEAF" "leaf":=by
   dsimp only [L2.KOf];refine' Mine.Ar KX G ?e ?l ?z ?v;(case e=>k_is);(case l=>k_is);(case z=>decide);(case v=>exact (.cons ⟨_,rfl⟩ .nil))
  have I_MOST:∃ t,mg "MOST_FOLDS"=some (.int 8 t):=by
   refine' L2.As KX G ?ie ?iq;(case ie=>k_is);(case iq=>exact ⟨_,rfl⟩)
  obtain ⟨tm,Fg⟩:=I_MOST
  have kK:L2.eG (L2.KOf KX) mg "WHOLE" [1,1]:=by
   dsimp only [L2.KOf];refine' L2.iM (ns:=[1,1]) KX G ?e ?l ?z ?v;(case e=>k_is);(case l=>k_is);(case z=>decide);(case v=>exact (.cons ⟨_,rfl⟩ (.cons ⟨_,rfl⟩ .nil)))
  obtain ⟨f,fd,F,m⟩:=T_law.ex;have e:=hmg.symm.trans m;cases e
  obtain ⟨oc,od,kV,doc,pm,an,cdv,ct,osl,hfd,lk,hcd⟩:=id F.ex;subst hfd;refine ⟨PySem.W.fnOf "law" "law" (L2.fG Mine.sLaw) (L2.bP Mine.sLaw) (L2.ak Mine.sLaw) .none kV doc pm an cdv ct,λs u=>.of_eq rfl,λbase kb' nb=>?_⟩;have M:=Mine.ms (P:=Mine.Pg) (w:=w) (base:=base) AF cT dR;obtain ⟨kl,kn,kf⟩:=Mine.mks (P:=Mine.Pg) (w:=w) (base:=base) AF;have GL:∀ t,L2.aQ Mine.Pg w (L2.KOf KX) mg base (c.of t) "laid_out" 2 ["self"] (Mine.pQ c t):=λt=>Mine.ok_laid (AF.laid t) M;have GF:∀ t,L2.aQ Mine.Pg w (L2.KOf KX) mg base (c.of t) "folds" 3 ["self"] (Mine.eJ c t):=λt=>Mine.AV (AF.foldsS t) cK bw XF.mF AF.fx (XF.kf AF) GL;have GO:∀ t,L2.aQ Mine.Pg w (L2.KOf KX) mg base (c.of t) "out_of" 3 ["self","n","x","y"] (Mine.Cy c t):=λt=>Mine.ok_out (AF.out t) M GL;have dRowsOf:=Mine.AS BO cK cY M GL;have dFactor:=Mine.AW (P:=Mine.Pg) (w:=w) (base:=base) oV ke;have dTold:=Mine.ok_told (P:=Mine.Pg) (w:=w) (base:=base) BN;have dTic:=Mine.ok_tic mJ dTold;have dCut:=Mine.ok_cut T_cut XF.mN XF.xN cT dR fe cK dTic (Mine.ok_cb nV ir ke cY dFactor);have dWithout:=Mine.xR (P:=Mine.Pg) (w:=w) (base:=base) BL ir cY;have dChoice:=Mine.AZ xf cK hG fJ dWithout (Mine.ok_leaf xa hG fJ lK lJ) (Mine.ok_fold rD hG fJ (Mine.ok_both (P:=Mine.Pg) (w:=w) (base:=base) T_both ir cY) dWithout);have dRules:=Mine.DG oR fe dChoice (Mine.AY xc dR cT dTic);have dHulls:=Mine.DN yJ (Mine.ok_sq (P:=Mine.Pg) (w:=w) (base:=base) wZ) dCut;have dFewM:=Mine.ok_few (P:=Mine.Pg) (w:=w) (base:=base) kS Fg;have dFewX:=Mine.ok_fewX (P:=Mine.Pg) (w:=w) (base:=base) kS Fg XF.mT XF.xT;have dSqr:=Mine.ok_sq (P:=Mine.Pg) (w:=w) (base:=base) wZ;have dTree:=Mine.AR BM P_LEAF dRules dCut 9;have dCutting:=Mine.DQ sW GF dFewM dSqr dRowsOf dTree;have dWorth:=Mine.xQ T_worth (Mine.vW oS (Mine.tZ yI bw cY cK jB (Mine.xY (P:=Mine.Pg) (w:=w) (base:=base) yH bw sU yC kb))) GO;have dFrac:=Mine.ri yK dFactor;have dLw:=Mine.ok_lw kT dCutting dHulls dWorth dFrac (Mine.AU (P:=Mine.Pg) (w:=w) (base:=base) T_less);have dAlw:=Mine.ok_alw xh kK dLw;have dRup:=Mine.ok_rup (P:=Mine.Pg) (w:=w) (base:=base) yF;have dSw:=Mine.ok_sw rC cT dR eW dRup (Mine.ok_yw yE dR cT dRup);have dRbl:=Mine.ok_rbl jC sV dRowsOf dCutting dHulls dRules dTold (Mine.ok_bnds xg ir (Mine.ok_sb (P:=Mine.Pg) (w:=w) (base:=base) uI));have dFst:=Mine.ok_fst kh dRbl (Mine.ok_sbl uH dSw);have dRil:=Mine.ok_ril mK sV ir XF.mN XF.cn XF.sn dHulls dRules;have dHo := Mine.ok_holds T_holds jB GF dFewM dRowsOf dRil (Mine.ok_on47 oT jB (Mine.ok_at oU dTold))
  have dRb:=Mine.ok_rb qX kf dRowsOf;have dHB := Mine.ok_hb T_holds_for_both jB GF dFewM dRb dRil
  have dLack:=Mine.ok_lack Fd kK kf dLw (Mine.xX T_minus dFrac);have dCfb:=Mine.ok_cfb iu GF dFewM dSqr dRb dTree;have dAlike:=Mine.DT Aj dCfb dHulls dWorth;have xCut:=Mine.vY sW GF dFewX;have xLw:=Mine.ok_lwX kT xCut;have xFst:=Mine.ok_fstX kh (Mine.ok_rblX jC dRowsOf dHulls xCut);have dAsk := Mine.DS BR dLw xLw dAlw (Mine.ok_alwX xh xLw) dFst xFst dCutting xCut dHo (Mine.ok_hoX T_holds GF dFewX) dLack (Mine.DL Fd kf xLw) dAlike (Mine.Ba Aj (Mine.ok_cfbX iu GF dFewX)) dHB (Mine.ok_hbX T_holds_for_both GF dFewX)
  have dRef:=Mine.xW xb bw jw XF.mT XF.mN ⟨XF.mS,XF.cc,XF.ec,XF.su,XF.k2,XF.k3⟩ dAsk;have dNext:=Mine.ok_next (P:=Mine.Pg) (w:=w) (base:=base) Fe cK;exact Mine.ok_law F eW (Mine.DJ BP cK dR cT eW ke sU) dNext (Mine.DR BQ eW cK dNext) (Mine.DI yG AF.o_ne AF.r_ne AF.o_al AF.r_al kl kn kf 60) dRef
 case S=>exact λK H a ns hl hb hO hS=>⟨a,ns,rfl,Mine.scr_of hO hS hl hb,λ_=>rfl⟩
 case C=>exact λ_ _ _ _ z=>z
