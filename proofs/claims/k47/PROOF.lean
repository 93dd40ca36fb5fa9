import PyProof.Rows.All
import Wide.All
import OpenK.AllK
import Wide.FinOn
import Lean
import PyProof.EqAt
import PyProof.EqKinds
import PyProof.TupleCall
import KE.KRevIter
import PyProof.ListNew
import PyProof.NeKinds
import PyProof.StrBlockL
import KE.LcSums
import PyProof.Rows.EqDataRows
import PyProof.Draws
import PyProof.EnumMake
import PyProof.ZipIter
import PyProof.WalksMore
import PyProof.P3In
import PyProof.IsRules
import KE.KLcPair
import PyProof.Rows.Range3
import PyProof.Rows.MinMaxN
import KE.KTab
import PyProof.Rows.SumAny
import PyProof.ExcClass2
import PyProof.ExcInit
import PyProof.StationsW
import PyProof.InstStoreFacts
import PySem.Challenge.RW_leansay_k47_whole_looker
set_option Elab.async false
set_option linter.all false
set_option maxRecDepth 100000
namespace L2
open PySem PySem.Spec PyProof.Rows
noncomputable abbrev Key:=Sum Int Str
noncomputable def qJ:Key->Value->Bool
 | .inl k,v=>Value.isInt k v
 | .inr x,v=>Value.isStrOf x v
noncomputable def keyH (w:World):Key->Int
 | .inl k=>hashInt k
 | .inr x=>hashStr w x
theorem cH:∀{k:Key} {v:Value},qJ k v=true->(∃ i t,k=Sum.inl i/\v=Value.int i t)\/(∃ x t,k=Sum.inr x/\v=Value.str x t)
 | .inl i,v,h=>by
  obtain ⟨t,e⟩:=Value.isInt_shape (k:=i) (v:=v) h
  exact .inl ⟨i,t,rfl,e⟩
 | .inr x,v,h=>by
  obtain ⟨t,e⟩:=Value.isStrOf_shape (x:=x) (v:=v) h
  exact .inr ⟨x,t,rfl,e⟩
theorem zu (i:Int) (t:Tok):qJ (.inl i) (.int i t)=true:=by simp [qJ,Value.isInt]
theorem zt (x:Str) (t:Tok):qJ (.inr x) (.str x t)=true:=by simp [qJ,Value.isStrOf]
theorem key_ll (a b:Int):decide ((Sum.inl a:Key)=Sum.inl b)=(a == b):=by
 by_cases e:a=b
 ·subst e;simp
 ·have h:¬ (Sum.inl a:Key)=Sum.inl b:=λq=>e (Sum.inl.inj q)
  rw [decide_eq_false h]
  exact (beq_eq_false_iff_ne.mpr e).symm
theorem key_rr (a b:Str):decide ((Sum.inr a:Key)=Sum.inr b)=decide (a=b):=by
 by_cases e:a=b
 ·subst e;simp
 ·have h:¬ (Sum.inr a:Key)=Sum.inr b:=λq=>e (Sum.inr.inj q)
  rw [decide_eq_false h,decide_eq_false e]
theorem key_lr (a:Int) (b:Str):decide ((Sum.inl a:Key)=Sum.inr b)=false:=decide_eq_false (λq=>nomatch q)
theorem key_rl (a:Str) (b:Int):decide ((Sum.inr a:Key)=Sum.inl b)=false:=decide_eq_false (λq=>nomatch q)
noncomputable def cW (prog:Program) (w:World):PySem.KeyKind prog w Key where
 is:=qJ
 hash:=keyH w
 inj:=λv a b ha hb=>by
  rcases cH ha with ⟨i,t,rfl,rfl⟩ | ⟨x,t,rfl,rfl⟩
  ·rcases cH hb with ⟨j,u,rfl,e⟩ | ⟨y,u,rfl,e⟩
   ·injection e with e1 _;rw [e1]
   ·exact nomatch e
  ·rcases cH hb with ⟨j,u,rfl,e⟩ | ⟨y,u,rfl,e⟩
   ·exact nomatch e
   ·injection e with e1 _;rw [e1]
 byValue:=λk v h=>by
  rcases cH h with ⟨i,t,rfl,rfl⟩ | ⟨x,t,rfl,rfl⟩ <;> rfl
 pyHash:=λhv h=>by
  rcases cH hv with ⟨i,t,rfl,rfl⟩ | ⟨x,t,rfl,rfl⟩
  ·exact wpAny_pyHash_int h
  ·exact wpAny_pyHash_str h
 eqBool:=λhu hv h=>by
  rcases cH hu with ⟨i,t,rfl,rfl⟩ | ⟨x,t,rfl,rfl⟩
  ·rcases cH hv with ⟨j,u,rfl,rfl⟩ | ⟨y,u,rfl,rfl⟩
   ·rw [key_ll] at h;exact wpAny_eqBool_int h
   ·rw [key_lr] at h;exact SeqAt.EqAt.int_str i t y u _ _ _ _ h
  ·rcases cH hv with ⟨j,u,rfl,rfl⟩ | ⟨y,u,rfl,rfl⟩
   ·rw [key_rl] at h;exact SeqAt.EqAt.str_int x t j u _ _ _ _ h
   ·rw [key_rr] at h;exact wpAny_eqBool_str h
 «strs»:=λk x t v h=>by
  rcases cH h with ⟨i,u,rfl,e⟩ | ⟨y,u,rfl,e⟩
  ·exact nomatch e
  ·injection e with e1 _
   subst e1
   cases v <;> rfl
theorem uA (prog:Program) (w:World) (i:Int) (t:Tok):(cW prog w).is (.inl i) (.int i t)=true:=zu i t
theorem uw (prog:Program) (w:World) (x:Str) (t:Tok):(cW prog w).is (.inr x) (.str x t)=true:=zt x t
inductive V where
 | non | bl (b:Bool) | int (i:Int) | str (x:Str) | byt (b:Array UInt8) | flt (b:UInt64) | ref (a:Addr) | ty (n:String)
 deriving DecidableEq
noncomputable def RelV:V->Value->Prop
 | .non,u=>u=Value.none
 | .bl b,u=>u=Value.bool b
 | .int i,u=>∃ t,u=Value.int i t
 | .str x,u=>∃ t,u=Value.str x t
 | .byt b,u=>∃ t,u=Value.bytes b t
 | .flt b,u=>∃ t,u=Value.float b t
 | .ref a,u=>u=Value.ref a
 | .ty n,u=>u=Value.type n
noncomputable abbrev Vals:List V->List Value->Prop:=Paired RelV
theorem Vals.length {xs:List V} {us:List Value} (r:Vals xs us):xs.length=us.length:=Paired.length r
theorem Vals.get:∀{xs:List V} {us:List Value} {i:Nat} {x:V},Vals xs us->xs[i]?=some x->∃ u,us[i]?=some u/\RelV x u
 | _,_,_,_,.nil,e=>by simp at e
 | _,_,0,_,.cons r _,e=>by simp at e;subst e;exact ⟨_,rfl,r⟩
 | _,_,i+1,x,.cons _ t,e=>by
  obtain ⟨u,h1,h2⟩:=Vals.get (i:=i) (x:=x) t (by simpa using e)
  exact ⟨u,by simpa using h1,h2⟩
theorem Vals.append:∀{xs ys:List V} {us ws:List Value},Vals xs us->Vals ys ws->Vals (xs++ys) (us++ws)
 | _,_,_,_,.nil,s=>s
 | _,_,_,_,.cons r t,s=>.cons r (Vals.append t s)
theorem Vals.take:∀{xs:List V} {us:List Value} (n:Nat),Vals xs us->Vals (xs.take n) (us.take n)
 | _,_,0,_=>.nil
 | _,_,_+1,.nil=>.nil
 | _,_,n+1,.cons r t=>.cons r (Vals.take n t)
theorem Vals.drop:∀{xs:List V} {us:List Value} (n:Nat),Vals xs us->Vals (xs.drop n) (us.drop n)
 | _,_,0,r=>r
 | _,_,_+1,.nil=>.nil
 | _,_,n+1,.cons _ t=>Vals.drop n t
noncomputable def jB:Option V->Option Value->Prop
 | some v,some u=>RelV v u
 | none,none=>True
 | _,_=>False
noncomputable def KV {κ:Type}:List (κ×V)->List (κ×Value)->Prop:=Paired λ(p:κ×V) (q:κ×Value)=>p.1=q.1/\RelV p.2 q.2
noncomputable def kV:Key->V
 | .inl i=>.int i
 | .inr x=>.str x
inductive HO where
 | lst (xs:List V)
 | tup (xs:List V)
 | dK (kvs:List (Key×V)) | dT (kvs:List (List Key×V))
 | set (S:Int->Bool) (n:Nat)
 | ins (C dx:Addr) (fs:List (Str×V))
 | own (x:Addr)
 | xd (fs:List (Str×V))
 | met (f x:Addr)
 | rng (lo hi:Int)
 | frz (o:Obj) (u:HO)
 | tbl (ps:Array Value)
 | ext (φ:Heap->Prop)
noncomputable abbrev Hp:=Addr->Option HO
noncomputable def upd (H:Hp) (a:Addr) (o:HO):Hp:=λb=>if b=a then some o else H b
theorem ae {H:Hp} {a:Addr} {o:HO}:upd H a o a=some o:=by unfold upd;rw [if_pos rfl]
theorem au {H:Hp} {a b:Addr} {o:HO} (h:b≠a):upd H a o b=H b:=by unfold upd;rw [if_neg h]
theorem upd_upd {H:Hp} {a:Addr} {o u:HO}:upd (upd H a o) a u=upd H a u:=by
 funext b;unfold upd;split <;> rfl
theorem xW {H:Hp} {a b:Addr} {o u:HO} (h:H a=some o) (h':H b=some u) (d:o≠u):a≠b:=by
 intro e;subst e;rw [h] at h';exact d (Option.some.inj h')
theorem aB {H:Hp} {a b:Addr} {o:HO} (h:H a=some o) (h':H b=none):a≠b:=by
 intro e;subst e;rw [h] at h';cases h'
section
variable (P:Program) (w:World)
noncomputable def cy (H:Hp) (h:Heap) (a:Addr):HO->Prop
 | .lst xs=>xs.length<=sizeLine/\∃(its:List Value) (n:Nat),Vals xs its/\h.get? a=some {cls:=.type "list",data:=.seq its.toArray n}
 | .tup xs=>xs.length<=sizeLine/\∃ its:List Value,Vals xs its/\IsTup h a its.toArray
 | .dK kvs=>kvs.length<=sizeLine/\(a == sysModules)=false/\∃ vs,KV kvs vs/\h.DictOf (cW P w) a vs
 | .dT kvs=>kvs.length<=sizeLine/\(a == sysModules)=false/\∃ xs:List (List Key×Addr×Value),
   Paired (λ(p:List Key×V) (q:List Key×Addr×Value)=>p.1=q.1/\H q.2.1=some (.tup (p.1.map kV))/\RelV p.2 q.2.2) kvs xs/\
   ∃ o es ep,h.get? a=some o/\o.ExactDict/\o.data=.dict es ep/\es.toList=xs.map (entryOfKey (tupleKind (cW P w)))/\(xs.map (·.1)).Nodup
 | .set S n=>h.SetOf (intKind P w) a S n
 | .ins C dx fs=>H dx=some (.own a)/\fs.length<=1000/\dx≠a/\h.get? a=some (PySem.W.instObj C dx)/\
   ∃ mA,h.Ns1 dx mA/\(∀ f,jB (fs.lookup f) (mA f))/\PySem.Within mA (fs.map (·.1))
 | .own _=>∃ o,h.get? a=some o
 | .xd fs=>∃ mA,h.Ns1 a mA/\∀ f,jB (fs.lookup f) (mA f)
 | .rng lo hi=>∃ t u v,h.get? a=some {cls:=.type "range",data:=.fields #[.int lo t,.int hi u,.int 1 v] }
 | .frz o u=>h.get? a=some o/\cy H h a u
 | .tbl ps=>h.get? a=some {cls:=.none,data:=.fields ps}
 | .met f x=>h.get? a=some (PySem.W.methodObj (.ref f) (.ref x))
 | .ext φ=>φ h/\(∃ o,h.get? a=some o)/\∀ h1 h2:Heap,φ h1->(∀ o,h1.get? a=some o->h2.get? a=some o)->φ h2
noncomputable def HOk (H:Hp) (h:Heap):Prop:=∀ a o,H a=some o->cy P w H h a o
end
section
variable {P:Program} {w:World} {H H':Hp} {h h':Heap} {a:Addr} {o:HO}
theorem cy.lt (x:cy P w H h a o):a < h.objs.size:=by
 cases o with
 | lst xs=>obtain ⟨_,_,_,_,e⟩:=x;exact Heap.lt_size e
 | tup xs=>obtain ⟨_,_,_,p⟩:=x;exact p.lt
 | dK kvs=>obtain ⟨_,_,_,_,o,_,_,e,_⟩:=x;exact Heap.lt_size e
 | dT kvs=>obtain ⟨_,_,_,_,o,_,_,e,_⟩:=x;exact Heap.lt_size e
 | set S n=>obtain ⟨o,_,_,_,e,_⟩:=x;exact Heap.lt_size e
 | ins C dx fs=>obtain ⟨_,_,_,e,_⟩:=x;exact Heap.lt_size e
 | own y=>obtain ⟨_,e⟩:=x;exact Heap.lt_size e
 | xd fs=>obtain ⟨_,⟨_,_,_,e,_⟩,_⟩:=x;exact Heap.lt_size e
 | rng lo hi=>obtain ⟨_,_,_,e⟩:=x;exact Heap.lt_size e
 | frz ob u=>obtain ⟨e,_⟩:=x;exact Heap.lt_size e
 | tbl ps=>exact Heap.lt_size (show h.get? a=some _ from x)
 | met f y=>exact Heap.lt_size (show h.get? a=some _ from x)
 | ext φ=>obtain ⟨_,⟨_,e⟩,_⟩:=x;exact Heap.lt_size e
theorem Paired.mapP {α β:Type} {F G:α->β->Prop}:∀{l₁:List α} {l₂:List β},Paired F l₁ l₂->(∀ a b,F a b->G a b)->Paired G l₁ l₂
 | _,_,.nil,_=>.nil
 | _,_,.cons r t,f=>.cons (f _ _ r) (Paired.mapP t f)
theorem cy.stay (x:cy P w H h a o) (k:∀ b u,(b=a\/H b=some (.own a))->h.get? b=some u->h'.get? b=some u)
  (ho:∀ b,H b=some (.own a)->H' b=some (.own a)) (ht:∀ b xs,H b=some (.tup xs)->H' b=some (.tup xs)):cy P w H' h' a o:=by
 induction o with
 | lst xs=>obtain ⟨z,its,n,r,e⟩:=x;exact ⟨z,its,n,r,k _ _ (.inl rfl) e⟩
 | tup xs=>obtain ⟨z,its,r,ob,e,c⟩:=x;exact ⟨z,its,r,ob,k _ _ (.inl rfl) e,c⟩
 | dK kvs=>obtain ⟨z,y,vs,r,ob,es,ep,e,c⟩:=x;exact ⟨z,y,vs,r,ob,es,ep,k _ _ (.inl rfl) e,c⟩
 | dT kvs =>
  obtain ⟨z,y,xs,r,ob,es,ep,e,c⟩:=x
  exact ⟨z,y,xs,Paired.mapP r λp q z=>⟨z.1,ht _ _ z.2.1,z.2.2⟩,ob,es,ep,k _ _ (.inl rfl) e,c⟩
 | set S n=>obtain ⟨ob,es,ep,t,e,c⟩:=x;exact ⟨ob,es,ep,t,k _ _ (.inl rfl) e,c⟩
 | ins C dx fs =>
  obtain ⟨d,z,ne,e,mA,⟨od,es,ep,e2,c⟩,r⟩:=x
  exact ⟨ho _ d,z,ne,k _ _ (.inl rfl) e,mA,⟨od,es,ep,k _ _ (.inr d) e2,c⟩,r⟩
 | own y=>obtain ⟨ob,e⟩:=x;exact ⟨ob,k _ _ (.inl rfl) e⟩
 | xd fs=>obtain ⟨mA,⟨od,es,ep,e,c⟩,r⟩:=x;exact ⟨mA,⟨od,es,ep,k _ _ (.inl rfl) e,c⟩,r⟩
 | rng lo hi=>obtain ⟨t,u,v,e⟩:=x;exact ⟨t,u,v,k _ _ (.inl rfl) e⟩
 | frz ob u ih=>obtain ⟨e,q⟩:=x;exact ⟨k _ _ (.inl rfl) e,ih q⟩
 | tbl ps =>
  have e:h.get? a=some {cls:=.none,data:=.fields ps}:=x
  show h'.get? a=some {cls:=.none,data:=.fields ps}
  exact k a _ (.inl rfl) e
 | met f y =>
  have e:h.get? a=some (PySem.W.methodObj (.ref f) (.ref y)):=x
  show h'.get? a=some (PySem.W.methodObj (.ref f) (.ref y))
  exact k a _ (.inl rfl) e
 | ext φ=>obtain ⟨p,⟨o,e⟩,st⟩:=x;exact ⟨st _ _ p λo q=>k _ _ (.inl rfl) q,⟨o,k _ _ (.inl rfl) e⟩,st⟩
theorem HOk.lt (x:HOk P w H h) (e:H a=some o):a < h.objs.size:=(x a o e).lt
theorem HOk.fresh (x:HOk P w H h) (e:h.objs.size<=a):H a=none:=by
 cases q:H a with
 | none=>rfl
 | some u=>exact absurd (Nat.lt_of_lt_of_le (x.lt q) e) (Nat.lt_irrefl _)
theorem HOk.kept (x:HOk P w H h) (k:∀ b u,h.get? b=some u->h'.get? b=some u):HOk P w H h':=λa o e =>
 (x a o e).stay (λb u _ q=>k b u q) (λ_ q=>q) λ_ _ q=>q
theorem HOk.laid (x:HOk P w H h) (k:∀ b u,h.get? b=some u->h'.get? b=some u) (hp:h.objs.size<=a) (new:cy P w (upd H a o) h' a o):HOk P w (upd H a o) h':=λb u e=>by
 have hn:=x.fresh hp
 by_cases hb:b=a
 ·subst hb;rw [ae] at e;cases e;exact new
 ·rw [au hb] at e
  exact (x b u e).stay (λc v _ q=>k c v q) (λc q=>by rw [au (aB q hn)];exact q) λc xs q=>by rw [au (aB q hn)];exact q
end
noncomputable def Rd (H:Hp) (a:Addr) (u:HO):Prop:=H a=some u\/∃ o,H a=some (.frz o u)
theorem Rd.ok {P:Program} {w:World} {H:Hp} {h:Heap} {a:Addr} {u:HO} (r:Rd H a u) (x:HOk P w H h):cy P w H h a u:=by
 rcases r with r | ⟨o,r⟩
 ·exact x a u r
 ·obtain ⟨_,q⟩:=x a _ r
  exact q
noncomputable def Mut:Option HO->Prop
 | some (.lst _)=>True
 | some (.dK _)=>True
 | some (.dT _)=>True
 | some (.set _ _)=>True
 | some (.ins _ _ _)=>True
 | some (.ext _)=>True
 | _=>False
section
variable {P:Program} {w:World} {H:Hp} {h h':Heap} {x e:Addr} {o':HO}
theorem HOk.write (ok:HOk P w H h) (mu:Mut (H x)) (he:e=x\/H e=some (.own x)) (k:∀ b u,b≠e->h.get? b=some u->h'.get? b=some u) (heo:∃ u,h'.get? e=some u)
  (new:cy P w (upd H x o') h' x o'):HOk P w (upd H x o') h':=λb u q=>by
 have nown:∀ c y,H c=some (.own y)->c≠x:=λc y r z=>by subst z;rw [r] at mu;exact mu
 have ntup:∀ c xs,H c=some (.tup xs)->c≠x:=λc xs r z=>by subst z;rw [r] at mu;exact mu
 by_cases hb:b=x
 ·subst hb;rw [ae] at q;cases q;exact new
 ·rw [au hb] at q
  by_cases hbe:b=e
  ·have q':H b=some (.own x):=by
    rcases he with z | z
    ·exact absurd (hbe.trans z) hb
    ·rw [hbe];exact z
   rw [q] at q';cases q'
   obtain ⟨v,hv⟩:=heo
   exact ⟨v,by rw [hbe];exact hv⟩
  ·refine (ok b u q).stay (λc v hc r=>k c v ?_ r) (λc r=>by rw [au (nown c b r)];exact r) λc xs r=>by rw [au (ntup c xs r)];exact r
   rcases hc with rfl | hc
   ·exact hbe
   ·rintro rfl
    rcases he with z | z
    ·exact nown c b hc z
    ·rw [hc] at z;cases z;exact hb rfl
end
structure Un (fs ex:List Addr) (H H':Hp) (h h':Heap):Prop where
 keep:∀ b o,h.get? b=some o->H b=none->b ∉ fs->b ∉ ex->h'.get? b=some o
 slot:∀ b o,h.get? b=some o->H b=none->b∈fs->b ∉ ex->∃ sl,h'.get? b=some {o with slots:=sl}
 free:∀ b o,h.get? b=some o->H b=none->b ∉ ex->H' b=none
 there:∀ b o,h.get? b=some o->b ∉ ex->∃ o',h'.get? b=some o'
 tups:∀ b xs,H b=some (.tup xs)->H' b=some (.tup xs)
 frzs:∀ b o u,H b=some (.frz o u)->H' b=some (.frz o u)
 tbls:∀ b ps,H b=some (.tbl ps)->∃ more,H' b=some (.tbl (ps++more))
section
variable {fs fs' ex ex':List Addr} {H H1 H2:Hp} {h h1 h2 h':Heap} {a x e:Addr} {o:HO}
theorem Un.any (u:Un fs ex H H1 h h1) {b:Addr} {ob:Obj} (q:h.get? b=some ob) (n:H b=none) (hx:b ∉ ex):∃ sl,h1.get? b=some {ob with slots:=sl}:=by
 by_cases hb:b∈fs
 ·exact u.slot b ob q n hb hx
 ·exact ⟨ob.slots,u.keep b ob q n hb hx⟩
theorem Un.kept (k:∀ b u,h.get? b=some u->h'.get? b=some u):Un fs ex H H h h' :=
 ⟨λb ob q _ _ _=>k b ob q,λb ob q _ _ _=>⟨ob.slots,k b ob q⟩,λ_ _ _ n _=>n,λb ob q _=>⟨ob,k b ob q⟩,λ_ _ q=>q,λ_ _ _ q=>q,λ_ ps q=>⟨#[],by rw [q];simp⟩⟩
theorem Un.refl:Un fs ex H H h h:=Un.kept λ_ _ q=>q
theorem Un.laid (k:∀ b u,h.get? b=some u->h'.get? b=some u) (hp:h.objs.size<=a) (hn:H a=none):Un fs ex H (upd H a o) h h' where
 keep:=λb u q _ _ _=>k b u q
 slot:=λb u q _ _ _=>⟨u.slots,k b u q⟩
 free:=λb u q n _=>by rw [au (Nat.ne_of_lt (Nat.lt_of_lt_of_le (Heap.lt_size q) hp))];exact n
 there:=λb u q _=>⟨u,k b u q⟩
 tups:=λb xs q=>by rw [au (aB q hn)];exact q
 frzs:=λb u xs q=>by rw [au (aB q hn)];exact q
 tbls:=λb ps q=>⟨#[],by rw [au (aB q hn),q];simp⟩
theorem Un.write (mu:Mut (H x)) (he:e=x\/H e=some (.own x)) (k:∀ b u,b≠e->h.get? b=some u->h'.get? b=some u) (heo:∃ u,h'.get? e=some u):Un fs ex H (upd H x o) h h':=by
 have hx:∀ b,H b=none->b≠x:=λb n z=>by subst z;rw [n] at mu;exact mu
 have hb:∀ b,H b=none->b≠e:=λb n z=>by
  subst z
  rcases he with r | r
  ·exact hx b n r
  ·rw [n] at r;cases r
 have hm:∀ b u,H b=some u->¬Mut (some u)->b≠x:=λb u q nm z=>by subst z;rw [q] at mu;exact nm mu
 refine ⟨λb u q n _ _=>k b u (hb b n) q,λb u q n _ _=>⟨u.slots,k b u (hb b n) q⟩,λb u q n _=>by rw [au (hx b n)];exact n,λb u q _=>?_,
  λb xs q=>by rw [au (hm b _ q λz=>z)];exact q,λb u xs q=>by rw [au (hm b _ q λz=>z)];exact q,λb ps q=>⟨#[],by rw [au (hm b _ q λz=>z),q];simp⟩⟩
 by_cases hbe:b=e
 ·subst hbe;exact heo
 ·exact ⟨u,k b u hbe q⟩
end
noncomputable def trk (h:Heap) (H:Hp):List Addr:=(List.range h.objs.size).filter λa=>(H a).isSome
noncomputable def se (h:Heap) (H:Hp):Heap:=PySem.W.hideAll h (trk h H)
theorem zA (h:Heap) (H:Hp):(se h H).objs.size=h.objs.size:=PySem.W.hideAll_size _ _
theorem Cz {h:Heap} {H:Hp} {b:Addr} {o:Obj} (e:h.get? b=some o) (n:H b=none):(se h H).get? b=some o :=
 PySem.W.hideAll_get _ e λhm=>by
  have q:(H b).isSome=true:=(List.mem_filter.mp hm).2
  rw [n] at q;simp at q
theorem of_hidT {h:Heap} {H:Hp} {b:Addr} {o:Obj} (e:(se h H).get? b=some o):h.get? b=some o/\H b=none:=by
 have e':h.get? b=some o:=PySem.W.of_hideAll (trk h H) e
 refine ⟨e',?_⟩
 cases q:H b with
 | none=>rfl
 | some x =>
  have hm:b∈trk h H:=List.mem_filter.mpr ⟨List.mem_range.mpr (Heap.lt_size e'),by simp [q]⟩
  have z:(se h H).get? b=none:=PySem.W.hideAll_none (trk h H) hm
  rw [z] at e;cases e
structure Mod (K:PySem.W.Frag) (mg:Str->Option Value) (base:Heap):Prop where
 kin:K.In base
 glob:base.Ns mainGlobals mg
 blt:∃ mb,base.Ns builtinsNs mb/\∀ x:Str,x≠"__name__"->mb x=bootBuiltins x
 nolimit:base.NoLimit
structure Cx where
 prog:Program
 w:World
 K:PySem.W.Frag
 mg:Str->Option Value
 base:Heap
 A:Around
 N:List Str
 s₀:Shared
 H₀:Hp
 env:Env
 outer:List Env
 stack:List Env
 ex:List Addr
 fn:Str->Bool
 calm:Bool
 pn:List (Addr×Obj)
 xe:Value->Shared->Prop
noncomputable def frs (l:List Env):List Addr:=l.filterMap (·.frame)
noncomputable abbrev Cx.fs (X:Cx):List Addr:=frs X.outer
noncomputable def Vis (sc:Scope) (x:Str):Prop:=sc.names.lookup x=some .local\/sc.names.lookup x=some .cell\/sc.names.lookup x=some .free
noncomputable def Loc (sc:Scope) (x:Str):Prop:=sc.names.lookup x=some .local\/sc.names.lookup x=some .cell
noncomputable def Look (env:Env) (h:Heap) (m:Str->Option Value) (x:Str) (u:Value):Prop :=
 (env.kindOf x=some .local/\m x=some u)\/((env.kindOf x=some .cell\/env.kindOf x=some .free)/\∃ c,env.cells.lookup x=some c/\h.IsCell c (some u))
structure Cx.Ok (X:Cx):Prop where
 mod:Mod X.K X.mg X.base
 kind:X.env.scope.kind=.function
 glob:X.env.globals=mainGlobals
 blt:X.env.builtins=builtinsNs
 above:X.s₀.heap.objs.size<=X.env.locals
 inj:∀ x y c,X.env.cells.lookup x=some c->X.env.cells.lookup y=some c->x=y
 has:∀ x,(X.env.kindOf x=some .cell\/X.env.kindOf x=some .free)->∃ c,X.env.cells.lookup x=some c
 cab:∀ x c,X.fn x=true->X.env.cells.lookup x=some c->X.s₀.heap.objs.size<=c
 hd:X.calm=true->X.A.handled=none
 frames:X.A.frames=some X.stack
 stk:X.stack=X.outer\/(X.stack=X.env::X.outer/\X.env.frame=some X.env.locals)
 exf:∀ b∈X.ex,b≠X.env.locals/\∀ x c,X.env.cells.lookup x=some c->c≠b
 bs:∀ b o,X.base.get? b=some o->X.s₀.heap.get? b=some o/\X.H₀ b=none
 bsz:X.base.objs.size<=X.s₀.heap.objs.size
 noex:∀ b o,X.base.get? b=some o->b ∉ X.ex
 exfs:∀ b∈X.ex,b ∉ X.fs
 funs:X.s₀.heap.FunFrames X.base X.outer
 frf:∀ b∈X.fs,X.H₀ b=none
structure Inv (X:Cx) (pins:List (Addr×Obj)) (σ:List (Option V)) (H:Hp) (s:Shared):Prop where
 ok:X.Ok
 os:s.os=X.s₀.os
 bare:AllBare s.gens
 base:Un X.fs X.ex X.H₀ H X.s₀.heap s.heap
 loc:∃ m,s.heap.Ns X.env.locals m/\∀(i:Nat) (x:Str) (v:V),X.N[i]?=some x->σ[i]?=some (some v)->Vis X.env.scope x->∃ u,RelV v u/\Look X.env s.heap m x u
 cell:∀ x c,X.env.cells.lookup x=some c->∃ v,s.heap.IsCell c v
 free:H X.env.locals=none
 freeC:∀ x c,X.env.cells.lookup x=some c->H c=none
 pin:∀ p∈X.pn++pins,s.heap.get? p.1=some p.2/\H p.1=none/\p.1≠X.env.locals/\p.1 ∉ X.fs/\∀ v,p.2.data≠.cell v
 hok:HOk X.prog X.w H s.heap
 len:σ.length=X.N.length
section
variable {X:Cx} {pins:List (Addr×Obj)} {σ:List (Option V)} {H H':Hp} {s:Shared} {h':Heap}
theorem Cx.Ok.nofr (ok:X.Ok) {b:Addr} {o:Obj} (e:X.base.get? b=some o):b ∉ X.fs:=λhb=>by
 have:=(ok.funs.mem hb).1
 rw [e] at this;cases this
theorem Inv.bs (I:Inv X pins σ H s):∀ b o,X.base.get? b=some o->s.heap.get? b=some o/\H b=none:=λb o e =>
 ⟨I.base.keep b o (I.ok.bs b o e).1 (I.ok.bs b o e).2 (I.ok.nofr e) (I.ok.noex b o e),I.base.free b o (I.ok.bs b o e).1 (I.ok.bs b o e).2 (I.ok.noex b o e)⟩
theorem Inv.bk (I:Inv X pins σ H s):∀ b o,X.base.get? b=some o->s.heap.get? b=some o:=λb o e=>(I.bs b o e).1
theorem Inv.mod (I:Inv X pins σ H s):Mod X.K X.mg X.base:=I.ok.mod
theorem Inv.kIn (I:Inv X pins σ H s):X.K.In s.heap:=I.ok.mod.kin.keeps I.bk
theorem Inv.lt (I:Inv X pins σ H s):X.env.locals < s.heap.objs.size:=let ⟨_,hn,_⟩:=I.loc;hn.lt
theorem Inv.sz (I:Inv X pins σ H s):X.s₀.heap.objs.size<=s.heap.objs.size:=Nat.le_trans I.ok.above (Nat.le_of_lt I.lt)
theorem Inv.nofs (I:Inv X pins σ H s) {a:Addr} (h:s.heap.objs.size<=a):a ∉ X.fs:=λhb=>by
 obtain ⟨_,o,ho,_⟩:=I.ok.funs.mem hb
 exact absurd (Nat.lt_of_lt_of_le (Heap.lt_size ho) (Nat.le_trans I.sz h)) (Nat.lt_irrefl _)
theorem Inv.cne (I:Inv X pins σ H s):∀ x c,X.env.cells.lookup x=some c->c≠X.env.locals:=λx c e z=>by
 obtain ⟨v,o,ho,hd⟩:=I.cell x c e
 obtain ⟨m,⟨o',es,ep,ho',hd',_⟩,_⟩:=I.loc
 rw [z,ho'] at ho;cases ho;rw [hd'] at hd;cases hd
theorem Inv.funs (I:Inv X pins σ H s):s.heap.FunFrames X.base X.outer:=by
 have all:∀(l:List Env),(∀ b∈frs l,b∈X.fs)->X.s₀.heap.FunFrames X.base l->s.heap.FunFrames X.base l:=by
  intro l
  induction l with
  | nil=>intro _ _;trivial
  | cons env r ih =>
   intro hs hl
   obtain ⟨hk,⟨L,o,hf,hn,ho,hd⟩,hr⟩:=hl
   have hL:L∈X.fs:=hs L (by unfold frs;rw [List.filterMap_cons,hf];exact List.mem_cons_self)
   obtain ⟨sl,e⟩:=I.base.slot L o ho (I.ok.frf L hL) hL λz=>I.ok.exfs L z hL
   exact ⟨hk,⟨L,_,hf,hn,e,hd⟩,ih (λb hb=>hs b (by unfold frs;rw [List.filterMap_cons,hf];exact List.mem_cons_of_mem _ hb)) hr⟩
 exact all X.outer (λ_ hb=>hb) I.ok.funs
theorem Inv.stack (I:Inv X pins σ H s):s.heap.FunFrames X.base X.stack:=by
 rcases I.ok.stk with e | ⟨e,hf⟩
 ·rw [e];exact I.funs
 ·rw [e]
  obtain ⟨m,hn,_⟩:=I.loc
  refine .cons (by rw [I.ok.kind];decide) hf hn ?_ I.funs
  exact Heap.get?_none_of_le (Nat.le_trans I.ok.bsz I.ok.above)
theorem Inv.stkSub (I:Inv X pins σ H s):∀ b∈frs X.stack,b∈X.env.locals::X.fs:=λb hb=>by
 rcases I.ok.stk with e | ⟨e,hf⟩
 ·rw [e] at hb;exact List.mem_cons_of_mem _ hb
 ·rw [e] at hb
  unfold frs at hb
  rw [List.filterMap_cons,hf] at hb
  exact hb
theorem Inv.stkFree (I:Inv X pins σ H s):∀ b∈frs X.stack,H b=none:=λb hb=>by
 rcases List.mem_cons.mp (I.stkSub b hb) with e | hb
 ·rw [e];exact I.free
 ·obtain ⟨_,o,ho,_⟩:=I.ok.funs.mem hb
  exact I.base.free b o ho (I.ok.frf b hb) λz=>I.ok.exfs b z hb
theorem Inv.step {g':Array GenState} {t':Nat} {d':Drawn} {ch:List Addr} (I:Inv X pins σ H s)
  (hch:∀ b∈ch,(b∈X.ex\/X.s₀.heap.objs.size<=b)/\b≠X.env.locals/\(∀ x c,X.env.cells.lookup x=some c->c≠b)/\∀ p∈X.pn++pins,p.1≠b)
  (keep:∀ b o,b≠X.env.locals->b ∉ X.fs->b ∉ ch->s.heap.get? b=some o->H b=none->h'.get? b=some o)
  (slot:∀ b o,b≠X.env.locals->b∈X.fs->b ∉ ch->s.heap.get? b=some o->H b=none->∃ sl,h'.get? b=some {o with slots:=sl}) (free:∀ b o,b ∉ ch->s.heap.get? b=some o->H b=none->H' b=none)
  (there:∀ b o,b ∉ ch->s.heap.get? b=some o->∃ o',h'.get? b=some o')
  (tups:∀ b xs,H b=some (.tup xs)->H' b=some (.tup xs)) (frzs:∀ b o u,H b=some (.frz o u)->H' b=some (.frz o u)) (tbls:∀ b ps,H b=some (.tbl ps)->∃ more,H' b=some (.tbl (ps++more)))
  (ns:∀ m,s.heap.Ns X.env.locals m->h'.Ns X.env.locals m) (hok:HOk X.prog X.w H' h') (hg:AllBare g') :
  Inv X pins σ H' {s with heap:=h',gens:=g',drawn:=d',toks:=t' }:=by
 have neL:∀ b o,X.s₀.heap.get? b=some o->b≠X.env.locals:=λb o e=>Nat.ne_of_lt (Nat.lt_of_lt_of_le (Heap.lt_size e) I.ok.above)
 have neC:∀ b o,X.s₀.heap.get? b=some o->b ∉ X.ex->b ∉ ch:=λb o e hx hb=>by
  rcases (hch b hb).1 with z | z
  ·exact hx z
  ·exact absurd (Nat.lt_of_lt_of_le (Heap.lt_size e) z) (Nat.lt_irrefl _)
 have cellK:∀ x c,X.env.cells.lookup x=some c->∀ v,s.heap.IsCell c v->h'.IsCell c v:=λx c e v ⟨o,ho,hd⟩=>by
  have nch:c ∉ ch:=λz=>(hch c z).2.2.1 x c e rfl
  by_cases hc:c∈X.fs
  ·obtain ⟨sl,q⟩:=slot c o (I.cne x c e) hc nch ho (I.freeC x c e)
   exact ⟨_,q,hd⟩
  ·exact ⟨o,keep c o (I.cne x c e) hc nch ho (I.freeC x c e),hd⟩
 refine ⟨I.ok,I.os,hg,⟨λb o e n hb hx=>?_,λb o e n hb hx=>?_,λb o e n hx=>?_,λb o e hx=>?_,λb xs e=>tups b xs (I.base.tups b xs e),λb o xs e=>frzs b o xs (I.base.frzs b o xs e),λb ps e=>?_⟩,?_,λx c e=>?_,?_,λx c e=>?_,λp hp=>?_,hok,I.len⟩
 ·exact keep b o (neL b o e) hb (neC b o e hx) (I.base.keep b o e n hb hx) (I.base.free b o e n hx)
 ·obtain ⟨sl,e1⟩:=I.base.slot b o e n hb hx
  obtain ⟨sl',e2⟩:=slot b _ (neL b o e) hb (neC b o e hx) e1 (I.base.free b o e n hx)
  exact ⟨sl',e2⟩
 ·obtain ⟨o',e1⟩:=I.base.there b o e hx
  exact free b o' (neC b o e hx) e1 (I.base.free b o e n hx)
 ·obtain ⟨o',e1⟩:=I.base.there b o e hx
  exact there b o' (neC b o e hx) e1
 ·obtain ⟨m1,e1⟩:=I.base.tbls b ps e
  obtain ⟨m2,e2⟩:=tbls b _ e1
  exact ⟨m1++m2,by rw [e2,Array.append_assoc]⟩
 ·obtain ⟨m,hn,hl⟩:=I.loc
  refine ⟨m,ns m hn,λi x v e1 e2 e3=>?_⟩
  obtain ⟨u,r,l⟩:=hl i x v e1 e2 e3
  refine ⟨u,r,?_⟩
  rcases l with l | ⟨k,c,e,z⟩
  ·exact .inl l
  ·exact .inr ⟨k,c,e,cellK x c e _ z⟩
 ·obtain ⟨v,z⟩:=I.cell x c e
  exact ⟨v,cellK x c e v z⟩
 ·obtain ⟨m,⟨o,_,_,ho,_⟩,_⟩:=I.loc
  exact free _ o (λz=>(hch _ z).2.1 rfl) ho I.free
 ·obtain ⟨v,o,ho,hd⟩:=I.cell x c e
  exact free c o (λz=>(hch c z).2.2.1 x c e rfl) ho (I.freeC x c e)
 ·obtain ⟨e,n,ne,nf,d⟩:=I.pin p hp
  have nch:p.1 ∉ ch:=λz=>(hch p.1 z).2.2.2 p hp rfl
  exact ⟨keep p.1 p.2 ne nf nch e n,free p.1 p.2 nch e n,ne,nf,d⟩
theorem Inv.un {t':Nat} (I:Inv X pins σ H s) (u:Un X.fs [] H H' s.heap h') (hok:HOk X.prog X.w H' h'):Inv X pins σ H' {s with heap:=h',toks:=t' }:=by
 obtain ⟨m,⟨o,es,ep,ho,r⟩,_⟩:=id I.loc
 obtain ⟨sl,hL⟩:=u.any ho I.free (by simp)
 exact I.step (g':=s.gens) (d':=s.drawn) (ch:=[]) (λ_ z=>nomatch z) (λb o _ hb _ e n=>u.keep b o e n hb (by simp)) (λb o _ hb _ e n=>u.slot b o e n hb (by simp)) (λb o _ e n=>u.free b o e n (by simp)) (λb o _ e=>u.there b o e (by simp)) u.tups u.frzs u.tbls (λm' hm=>by
  obtain ⟨o',es',ep',ho',r'⟩:=hm
  rw [ho] at ho';cases ho'
  exact ⟨_,es',ep',hL,r'⟩) hok I.bare
theorem Inv.call {g':Array GenState} {t':Nat} {d':Drawn} {ch:List Addr} (I:Inv X pins σ H s) (u:Un (frs X.stack) ch H H' s.heap h') (hok:HOk X.prog X.w H' h') (hg:AllBare g')
  (hch:∀ b∈ch,(b∈X.ex\/X.s₀.heap.objs.size<=b)/\b≠X.env.locals/\(∀ x c,X.env.cells.lookup x=some c->c≠b)/\∀ p∈X.pn++pins,p.1≠b) :
  Inv X pins σ H' {s with heap:=h',gens:=g',drawn:=d',toks:=t' }:=by
 obtain ⟨m,⟨o,es,ep,ho,r⟩,_⟩:=id I.loc
 obtain ⟨sl,hL⟩:=u.any ho I.free λz=>(hch _ z).2.1 rfl
 exact I.step (ch:=ch) hch (λb o hL hb hc e n=>u.keep b o e n (λz=>(List.mem_cons.mp (I.stkSub b z)).elim hL hb) hc) (λb o _ _ hc e n=>u.any e n hc) (λb o hc e n=>u.free b o e n hc) (λb o hc e=>u.there b o e hc) u.tups u.frzs u.tbls (λm' hm=>by
  obtain ⟨o',es',ep',ho',r'⟩:=hm
  rw [ho] at ho';cases ho'
  exact ⟨_,es',ep',hL,r'⟩) hok hg
theorem Inv.turned {t':Nat} {it:Addr} (I:Inv X pins σ H s) (k:∀ b o,b≠it->s.heap.get? b=some o->h'.get? b=some o) (hn:H it=none) (hL:it≠X.env.locals)
  (h1:it∈X.ex\/X.s₀.heap.objs.size<=it) (h2:∀ x c,X.env.cells.lookup x=some c->c≠it) (h3:∀ p∈X.pn++pins,p.1≠it):Inv X pins σ H {s with heap:=h',toks:=t' }:=by
 have nit:∀ b u,H b=some u->b≠it:=λb u e z=>by rw [z,hn] at e;cases e
 refine I.step (g':=s.gens) (d':=s.drawn) (ch:=[it]) (λb hb=>?_) (λb o _ _ hc e _=>k b o (λz=>hc (by simp [z])) e) (λb o _ _ hc e _=>⟨o.slots,k b o (λz=>hc (by simp [z])) e⟩) (λ_ _ _ _ n=>n)
  (λb o hc e=>⟨o,k b o (λz=>hc (by simp [z])) e⟩) (λ_ _ e=>e) (λ_ _ _ e=>e) (λb ps e=>⟨#[],by rw [e];simp⟩) (λm hm=>?_) (λb u e=>?_) I.bare
 ·have e:b=it:=by simpa using hb
  subst e
  exact ⟨h1,hL,h2,h3⟩
 ·obtain ⟨o,es,ep,ho,r⟩:=hm
  exact ⟨o,es,ep,k _ o (Ne.symm hL) ho,r⟩
 ·refine (I.hok b u e).stay (λc v hc q=>k c v ?_ q) (λ_ q=>q) λ_ _ q=>q
  rcases hc with z | z
  ·rw [z];exact nit b u e
  ·exact nit c _ z
theorem Inv.tok (I:Inv X pins σ H s) (t:Nat):Inv X pins σ H {s with toks:=t}:=I.un (h':=s.heap) (t':=t) Un.refl I.hok
theorem Inv.kept {t':Nat} (I:Inv X pins σ H s) (k:∀ b u,s.heap.get? b=some u->h'.get? b=some u):Inv X pins σ H {s with heap:=h',toks:=t' }:=I.un (Un.kept k) (I.hok.kept k)
theorem Inv.laid {a:Addr} {o:HO} {t':Nat} (I:Inv X pins σ H s) (k:∀ b u,s.heap.get? b=some u->h'.get? b=some u) (hp:s.heap.objs.size<=a) (new:cy X.prog X.w (upd H a o) h' a o) :
  Inv X pins σ (upd H a o) {s with heap:=h',toks:=t' }:=I.un (Un.laid k hp (I.hok.fresh hp)) (I.hok.laid k hp new)
theorem Inv.write {x e:Addr} {o:HO} {t':Nat} (I:Inv X pins σ H s) (mu:Mut (H x)) (he:e=x\/H e=some (.own x)) (k:∀ b u,b≠e->s.heap.get? b=some u->h'.get? b=some u) (heo:∃ u,h'.get? e=some u)
  (new:cy X.prog X.w (upd H x o) h' x o):Inv X pins σ (upd H x o) {s with heap:=h',toks:=t' }:=I.un (Un.write mu he k heo) (I.hok.write mu he k heo new)
theorem Inv.pins_of {pins':List (Addr×Obj)} (I:Inv X pins σ H s) (h:∀ p∈pins',s.heap.get? p.1=some p.2/\H p.1=none/\p.1≠X.env.locals/\p.1 ∉ X.fs/\∀ v,p.2.data≠.cell v):Inv X pins' σ H s :=
 ⟨I.ok,I.os,I.bare,I.base,I.loc,I.cell,I.free,I.freeC,λp hp=>(List.mem_append.mp hp).elim (λz=>I.pin p (List.mem_append_left _ z)) (h p),I.hok,I.len⟩
theorem tZ {N:List Str} (hN:N.Nodup) {i j:Nat} {x:Str} (a:N[i]?=some x) (b:N[j]?=some x):i=j:=by
 obtain ⟨h1,e1⟩:=List.getElem?_eq_some_iff.mp a
 obtain ⟨h2,e2⟩:=List.getElem?_eq_some_iff.mp b
 exact (List.getElem_inj hN).mp (e1.trans e2.symm)
theorem yE {M:Model} {A:Around} {E:Value->Shared->Prop} {i:Nat} {x:Str} {v:V} {u:Value} {Q:Unit->Shared->Prop} (I:Inv X pins σ H s) (hN:X.N.Nodup) (hi:X.N[i]?=some x) (hx:Loc X.env.scope x) (r:RelV v u)
  (h:∀ s',Inv X pins (σ.set i (some v)) H s'->(∃ a,Heap.SameBut a s.heap s'.heap/\(a=X.env.locals\/X.env.cells.lookup x=some a))->Q () s') (hf:X.fn x=true\/X.env.scope.names.lookup x=some .local:=by first | exact .inl rfl | exact .inr rfl | assumption):wpAny M A (storeName X.env x u) Q E s:=by
 obtain ⟨m,hn,hl⟩:=id I.loc
 have hcls:(X.env.scope.kind == .class || (X.env.scope.kind == .module && X.env.locals != X.env.globals))=false:=by rw [I.ok.kind];rfl
 have hiσ:i < σ.length:=by rw [I.len];exact (List.getElem?_eq_some_iff.mp hi).1
 have cne:=I.cne
 have tracked:∀{a:Addr} {h':Heap},(∃ o,s.heap.get? a=some o/\H a=none)->Heap.SameBut a s.heap h'->HOk X.prog X.w H h':=λ{a h'} ha hs b ob e=>by
  obtain ⟨_,_,hfree⟩:=ha
  refine (I.hok b ob e).stay (λc w' hc q=>(hs.2 c ?_).trans q) (λ_ q=>q) λ_ _ q=>q
  rintro rfl
  rcases hc with rfl | hc
  ·rw [hfree] at e;cases e
  ·rw [hfree] at hc;cases hc
 rcases hx with hk | hk
 ·refine wpAny_storeName_local hk hn (λh' hn' hs=>?_) hcls
  obtain ⟨oL,_,_,hoL,_⟩:=id hn
  refine h _ ⟨I.ok,I.os,I.bare,⟨λb o e n hb hx=>?_,λb o e n hb hx=>?_,I.base.free,λb o e hx=>?_,I.base.tups,I.base.frzs,I.base.tbls⟩,⟨_,hn',λj y v' e1 e2 e3=>?_⟩,λy c e=>?_,I.free,I.freeC,λp hp=>?_,tracked ⟨oL,hoL,I.free⟩ hs,by simpa using I.len⟩ ⟨_,hs,.inl rfl⟩
  ·exact (hs.2 b (Nat.ne_of_lt (Nat.lt_of_lt_of_le (Heap.lt_size e) I.ok.above))).trans (I.base.keep b o e n hb hx)
  ·obtain ⟨sl,e1⟩:=I.base.slot b o e n hb hx
   exact ⟨sl,(hs.2 b (Nat.ne_of_lt (Nat.lt_of_lt_of_le (Heap.lt_size e) I.ok.above))).trans e1⟩
  ·obtain ⟨o',e1⟩:=I.base.there b o e hx
   exact ⟨o',(hs.2 b (Nat.ne_of_lt (Nat.lt_of_lt_of_le (Heap.lt_size e) I.ok.above))).trans e1⟩
  ·by_cases hj:j=i
   ·subst hj
    rw [hi] at e1;cases e1
    rw [List.getElem?_set_self hiσ] at e2
    cases e2
    exact ⟨u,r,.inl ⟨hk,by simp⟩⟩
   ·rw [List.getElem?_set_ne (Ne.symm hj)] at e2
    obtain ⟨u',r',q⟩:=hl j y v' e1 e2 e3
    refine ⟨u',r',?_⟩
    rcases q with ⟨k,e⟩ | ⟨k,c,e,z⟩
    ·refine .inl ⟨k,?_⟩
     have:y≠x:=λe=>hj (tZ hN e1 (e ▸ hi))
     simp [this,e]
    ·exact .inr ⟨k,c,e,z.sameBut hs (cne y c e)⟩
  ·obtain ⟨w',z⟩:=I.cell y c e
   exact ⟨w',z.sameBut hs (cne y c e)⟩
  ·obtain ⟨e,n,ne,nf,d⟩:=I.pin p hp
   exact ⟨(hs.2 p.1 ne).trans e,n,ne,nf,d⟩
 ·have hfn:X.fn x=true:=by
   rcases hf with z | z
   ·exact z
   ·rw [z] at hk;cases hk
  obtain ⟨c,hc⟩:=I.ok.has x (.inl hk)
  obtain ⟨w',z⟩:=I.cell x c hc
  refine wpAny_storeName_cell I.ok.kind hk hc z (λh' hc' hs=>?_)
  obtain ⟨oc,hoc,hocd⟩:=id z
  refine h {s with heap:=h' } ⟨I.ok,I.os,I.bare,⟨λb o e n hb hx=>?_,λb o e n hb hx=>?_,I.base.free,λb o e hx=>?_,I.base.tups,I.base.frzs,I.base.tbls⟩,⟨m,hn.sameBut hs (Ne.symm (cne x c hc)),λj y v' e1 e2 e3=>?_⟩,λy c' e=>?_,I.free,I.freeC,λp hp=>?_,tracked ⟨oc,hoc,I.freeC x c hc⟩ hs,by simpa using I.len⟩ ⟨c,hs,.inr hc⟩
  ·exact (hs.2 b (Nat.ne_of_lt (Nat.lt_of_lt_of_le (Heap.lt_size e) (I.ok.cab x c hfn hc)))).trans (I.base.keep b o e n hb hx)
  ·obtain ⟨sl,e1⟩:=I.base.slot b o e n hb hx
   exact ⟨sl,(hs.2 b (Nat.ne_of_lt (Nat.lt_of_lt_of_le (Heap.lt_size e) (I.ok.cab x c hfn hc)))).trans e1⟩
  ·obtain ⟨o',e1⟩:=I.base.there b o e hx
   exact ⟨o',(hs.2 b (Nat.ne_of_lt (Nat.lt_of_lt_of_le (Heap.lt_size e) (I.ok.cab x c hfn hc)))).trans e1⟩
  ·by_cases hj:j=i
   ·subst hj
    rw [hi] at e1;cases e1
    rw [List.getElem?_set_self hiσ] at e2
    cases e2
    exact ⟨u,r,.inr ⟨.inl hk,c,hc,hc'⟩⟩
   ·rw [List.getElem?_set_ne (Ne.symm hj)] at e2
    obtain ⟨u',r',q⟩:=hl j y v' e1 e2 e3
    refine ⟨u',r',?_⟩
    rcases q with q | ⟨k,c',e,z'⟩
    ·exact .inl q
    ·refine .inr ⟨k,c',e,z'.sameBut hs ?_⟩
     rintro rfl
     exact hj (tZ hN e1 (I.ok.inj _ _ _ e hc ▸ hi))
  ·by_cases hcc:c'=c
   ·subst hcc;exact ⟨_,hc'⟩
   ·obtain ⟨w2,z2⟩:=I.cell y c' e
    exact ⟨w2,z2.sameBut hs hcc⟩
  ·obtain ⟨e,n,ne,nf,d⟩:=I.pin p hp
   refine ⟨(hs.2 p.1 ?_).trans e,n,ne,nf,d⟩
   intro q
   rw [q,hoc] at e
   have q':oc=p.2:=Option.some.inj e
   exact d w' (by rw [<- q'];exact hocd)
theorem nW {M:Model} {A:Around} {E:Value->Shared->Prop} {i:Nat} {x:Str} {v:V} {u:Value} {Q:Unit->Shared->Prop} (I:Inv X pins σ H s) (hN:X.N.Nodup) (hi:X.N[i]?=some x) (hx:Loc X.env.scope x) (r:RelV v u)
  (h:∀ s',Inv X pins (σ.set i (some v)) H s'->Q () s') (hf:X.fn x=true\/X.env.scope.names.lookup x=some .local:=by first | exact .inl rfl | exact .inr rfl | assumption):wpAny M A (storeName X.env x u) Q E s :=
 yE I hN hi hx r (λs' I' _=>h s' I') hf
theorem Inv.call' {s':Shared} {ch:List Addr} (I:Inv X pins σ H s) (ho:s'.os=s.os) (u:Un (frs X.stack) ch H H' s.heap s'.heap) (hok:HOk X.prog X.w H' s'.heap) (hg:AllBare s'.gens)
  (hch:∀ b∈ch,(b∈X.ex\/X.s₀.heap.objs.size<=b)/\b≠X.env.locals/\(∀ x c,X.env.cells.lookup x=some c->c≠b)/\∀ p∈X.pn++pins,p.1≠b):Inv X pins σ H' s':=by
 obtain ⟨h',g',d',t',o'⟩:=s'
 have e:o'=s.os:=ho
 subst e
 exact I.call (g':=g') (t':=t') (d':=d') u hok hg hch
end
noncomputable abbrev XK:=Value->Option Addr->Hp->Prop
noncomputable abbrev St:=List (Option V)
noncomputable abbrev VK:=V->Hp->Prop
noncomputable abbrev TE:=St->Hp->VK->Prop
noncomputable abbrev TT:=St->Hp->(Bool->Hp->Prop)->Prop
noncomputable abbrev TA:=St->Hp->(List V->Hp->Prop)->Prop
structure Ends where
 nx:St->Hp->Prop
 rt:VK
 bk:St->Hp->Prop:=λ_ _=>False
 ct:St->Hp->Prop:=λ_ _=>False
noncomputable abbrev TS:=Ends->St->Hp->Prop
noncomputable def EP (X:Cx) (pins:List (Addr×Obj)) (σ:St) (Q:VK) (u:Value) (s':Shared):Prop:=∃ v H',Inv X pins σ H' s'/\RelV v u/\Q v H'
noncomputable def TP (X:Cx) (pins:List (Addr×Obj)) (σ:St) (Q:Bool->Hp->Prop) (b:Bool) (s':Shared):Prop:=∃ H',Inv X pins σ H' s'/\Q b H'
noncomputable def AP (X:Cx) (pins:List (Addr×Obj)) (σ:St) (Q:List V->Hp->Prop) (us:List Value) (s':Shared):Prop:=∃ vs H',Inv X pins σ H' s'/\Vals vs us/\Q vs H'
noncomputable def SP (X:Cx) (pins:List (Addr×Obj)) (D:Ends) (f:Flow) (s':Shared):Prop :=
 match f with
 | .next=>∃ σ' H',Inv X pins σ' H' s'/\D.nx σ' H'
 | .brk=>∃ σ' H',Inv X pins σ' H' s'/\D.bk σ' H'
 | .cont=>∃ σ' H',Inv X pins σ' H' s'/\D.ct σ' H'
 | .ret u=>∃ v σ' H',Inv X pins σ' H' s'/\RelV v u/\D.rt v H'
noncomputable def PE (X:Cx) (e:Expr) (t:TE):Prop :=
 ∀(pins:List (Addr×Obj)) (s:Shared) (σ:St) (H:Hp) (Q:VK),Inv X pins σ H s->t σ H Q->wpAny (model X.prog X.w) X.A (eval e X.env) (EP X pins σ Q) X.xe s
noncomputable def PT (X:Cx) (e:Expr) (t:TT):Prop :=
 ∀(pins:List (Addr×Obj)) (s:Shared) (σ:St) (H:Hp) (Q:Bool->Hp->Prop),Inv X pins σ H s->t σ H Q->wpAny (model X.prog X.w) X.A (isTrue e X.env (eval e X.env)) (TP X pins σ Q) X.xe s
noncomputable def PW (X:Cx) (e:Expr) (t:TT):Prop :=
 ∀(whole:Sem Value) (pins:List (Addr×Obj)) (s:Shared) (σ:St) (H:Hp) (Q:Bool->Hp->Prop),Inv X pins σ H s->t σ H Q->wpAny (model X.prog X.w) X.A (isTrue e X.env whole) (TP X pins σ Q) X.xe s
theorem PW.pt {X:Cx} {e:Expr} {t:TT} (h:PW X e t):PT X e t:=h _
noncomputable def PA (X:Cx) (es:List Expr) (t:TA):Prop :=
 ∀(pos:Pos) (pins:List (Addr×Obj)) (s:Shared) (σ:St) (H:Hp) (Q:List V->Hp->Prop),Inv X pins σ H s->t σ H Q->wpAny (model X.prog X.w) X.A (spliced (backTo pos (starEach es X.env))) (AP X pins σ Q) X.xe s
noncomputable def PS (X:Cx) (st:Stmt) (t:TS):Prop :=
 ∀(pins:List (Addr×Obj)) (s:Shared) (σ:St) (H:Hp) (D:Ends),Inv X pins σ H s->t D σ H->wpAny (model X.prog X.w) X.A (exec st X.env) (SP X pins D) X.xe s
noncomputable def PSs (X:Cx) (st:List Stmt) (t:TS):Prop :=
 ∀(pins:List (Addr×Obj)) (s:Shared) (σ:St) (H:Hp) (D:Ends),Inv X pins σ H s->t D σ H->wpAny (model X.prog X.w) X.A (execs st X.env) (SP X pins D) X.xe s
theorem thn {α:Type} {t:Sem α} {Q Q':α->Shared->Prop} {M:Model} {A:Around} {E:Value->Shared->Prop} {s:Shared} (h:wpAny M A t Q E s) (hQ:∀ a s,Q a s->Q' a s):wpAny M A t Q' E s:=wpAny_mono h hQ λ_ _ x=>x
section
variable {X:Cx}
theorem bin {a b:Expr} {ta tb:TE} (ha:PE X a ta) (hb:PE X b tb) {pins:List (Addr×Obj)} {s:Shared} {σ:St} {H:Hp} {R:V->V->Hp->Prop} (I:Inv X pins σ H s) (h:ta σ H λx H1=>tb σ H1 λy H2=>R x y H2)
  {α:Type} {Q:α->Shared->Prop} {f:Value->Value->Sem α}
  (hf:∀ v u s2 x y H2,Inv X pins σ H2 s2->RelV x v->RelV y u->R x y H2->wpAny (model X.prog X.w) X.A (f v u) Q X.xe s2) :
  wpAny (model X.prog X.w) X.A (eval a X.env) (λv s₁=>wpAny (model X.prog X.w) X.A (eval b X.env) (λu s₂=>wpAny (model X.prog X.w) X.A (f v u) Q X.xe s₂) X.xe s₁) X.xe s:=by
 refine thn (ha pins s σ H _ I h) λv s1 zz=>?_
 obtain ⟨x,H1,I1,r1,q1⟩:=zz
 refine thn (hb pins s1 σ H1 _ I1 q1) λu s2 zz=>?_
 obtain ⟨y,H2,I2,r2,q2⟩:=zz
 exact hf v u s2 x y H2 I2 r1 r2 q2
inductive XtVar (i:Nat) (σ:St) (H:Hp) (Q:VK):Prop where
 | mk (v:V) (z_0:σ[i]?=some (some v)) (z_1:Q v H):XtVar i σ H Q
noncomputable def Ar (i:Nat):TE:=fun σ H Q=>XtVar i σ H Q
inductive XBl (x:V) (P:Bool->Prop):Prop where
 | mk (c:Bool) (e:x=.bl c) (q:P c):XBl x P
noncomputable def tC (v:V):TE:=λ_ H Q=>Q v H
theorem Bu {i:Nat} {x:Str} {pos:Pos} (hN:X.N[i]?=some x) (hv:Vis X.env.scope x) (hd:(x == ("__debug__":Str))=false:=by decide) (hcd:(x == ("__classdict__":Str))=false:=by decide):PE X (.Name x pos) (Ar i):=by
 intro pins s σ H Q I h
 obtain ⟨v,e,h⟩:=h
 obtain ⟨m,hn,hl⟩:=I.loc
 obtain ⟨u,r,l⟩:=hl i x v hN e hv
 have fin:EP X pins σ Q u s:=⟨v,H,I,r,h⟩
 rcases l with ⟨hk,hm⟩ | ⟨hk,c,hc,hcell⟩
 ·exact wpAny_Name (wpAny_loadName_local I.ok.kind hk hn hm fin) hd
 ·rcases hk with hk | hk
  ·exact wpAny_Name (wpAny_loadName_cell I.ok.kind hk hc hcell fin) hd
  ·exact wpAny_Name (wpAny_loadName_free I.ok.kind hk hc hcell fin hcd) hd
theorem af {i j pos}:PE X (.Constant (.int i) j pos) (tC (.int i)):=λ_ _ _ H _ I h=>wpAny_Constant_int ⟨.int i,H,I.tok _,⟨_,rfl⟩,h⟩
theorem jF {b j pos}:PE X (.Constant (.bool b) j pos) (tC (.bl b)):=λ_ _ _ H _ I h=>Constant_bool ⟨.bl b,H,I,rfl,h⟩
theorem eI {j pos}:PE X (.Constant .none j pos) (tC .non):=λ_ _ _ H _ I h=>Constant_none ⟨.non,H,I,rfl,h⟩
theorem aK {x j pos}:PE X (.Constant (.str x) j pos) (tC (.str x)):=λ_ _ _ H _ I h=>Calls.Constant_str ⟨.str x,H,I.tok _,⟨_,rfl⟩,h⟩
noncomputable def Gl (X:Cx) (x:Str):Prop:=X.env.kindOf x=some .globalImplicit
theorem fu {E:Value->Shared->Prop} {pins:List (Addr×Obj)} {s:Shared} {σ:St} {H:Hp} {x:Str} {u:Value} {pos:Pos} {Q:Value->Shared->Prop} (I:Inv X pins σ H s) (hg:Gl X x) (hm:X.mg x=some u) (h:Q u s)
  (hd:(x == ("__debug__":Str))=false:=by decide):wpAny (model X.prog X.w) X.A (eval (.Name x pos) X.env) Q E s :=
 Calls.Name_function_global I.ok.kind hg (Calls.loadGlobal_global (by rw [I.ok.glob];exact I.mod.glob.keeps I.bk) hm h) hd
theorem jU {E:Value->Shared->Prop} {pins:List (Addr×Obj)} {s:Shared} {σ:St} {H:Hp} {x:Str} {u:Value} {pos:Pos} {Q:Value->Shared->Prop} (I:Inv X pins σ H s) (hg:Gl X x) (hm:X.mg x=none) (hv:bootBuiltins x=some u) (h:Q u s)
  (hn:x≠"__name__":=by decide) (hd:(x == ("__debug__":Str))=false:=by decide):wpAny (model X.prog X.w) X.A (eval (.Name x pos) X.env) Q E s:=by
 obtain ⟨mb,h1,h2⟩:=I.mod.blt
 exact Calls.Name_function_global I.ok.kind hg (Calls.loadGlobal_builtin (by rw [I.ok.glob];exact I.mod.glob.keeps I.bk) hm (by rw [I.ok.blt];exact h1.keeps I.bk) ((h2 x hn).trans hv) h) hd
theorem cG {x:Str} {v:V} {u:Value} {pos:Pos} (hg:Gl X x) (hm:X.mg x=some u) (r:RelV v u) (hd:(x == ("__debug__":Str))=false:=by decide):PE X (.Name x pos) (tC v) :=
 λ_ _ _ H _ I h=>fu I hg hm ⟨v,H,I,r,h⟩ hd
theorem pe_bltn {x:Str} {v:V} {u:Value} {pos:Pos} (hg:Gl X x) (hm:X.mg x=none) (hv:bootBuiltins x=some u) (r:RelV v u) (hn:x≠"__name__":=by decide) (hd:(x == ("__debug__":Str))=false:=by decide):PE X (.Name x pos) (tC v) :=
 λ_ _ _ H _ I h=>jU I hg hm hv ⟨v,H,I,r,h⟩ hn hd
variable {a b:Expr} {ta tb:TE} {pos:Pos}
noncomputable def PC (X:Cx) (op:CmpOp) (a b:Expr) (t:TE):Prop :=
 ∀(
  pins:List (Addr×Obj)) (s:Shared) (σ:St) (H:Hp) (Q:VK),Inv X pins σ H s->t σ H Q->
  wpAny (model X.prog X.w) X.A (eval a X.env) (λv s₁=>wpAny (model X.prog X.w) X.A (eval b X.env) (λu s₂=>wpAny (model X.prog X.w) X.A (compareOp op v u) (EP X pins σ Q) X.xe s₂) X.xe s₁) X.xe s
noncomputable def tB (t:TE):TT:=fun σ H Q=>t σ H λx H1=>XBl x λc=>Q c H1
theorem pt_cmp {op:CmpOp} {t:TE} (h:PC X op a b t) (h1:behindInMarks op b=false:=by first | exact nobehind _ (by decide) (by decide) | rfl):PT X (.Compare a [op] [b] pos) (tB t):=by
 intro pins s σ H Q I hw
 refine wpAny_isTrue_Compare1 (thn (h pins s σ H _ I hw) λv s1 h1=>thn h1 λu s2 h2=>thn h2 λc s3 zz=>?_) h1
 obtain ⟨x,H1,I1,r1,q1⟩:=zz
 obtain ⟨d,rfl,q⟩:=q1
 cases r1
 exact wpAny_truthy_bool ⟨H1,I1,q⟩
theorem vN {e:Expr} {t:TE} (h:PE X e t) (he:∀ whole,isTrue e X.env whole=(do let v <- whole;standAt e.pos;holding [v] (truthy v)):=by intro _;rfl):PT X e (tB t):=by
 intro pins s σ H Q I hw
 refine isTrue_plain (thn (h pins s σ H _ I hw) λv s1 zz=>?_) (he _)
 obtain ⟨x,H1,I1,r1,q1⟩:=zz
 obtain ⟨d,rfl,q⟩:=q1
 cases r1
 exact wpAny_truthy_bool ⟨H1,I1,q⟩
variable {tA tB':TT} {rest:List Expr}
noncomputable def tAnd (t u:TT):TT:=fun σ H Q=>t σ H λc H1=>if c=true then u σ H1 Q else Q false H1
noncomputable def tOr (t u:TT):TT:=fun σ H Q=>t σ H λc H1=>if c=true then Q true H1 else u σ H1 Q
noncomputable def tNot (t:TT):TT:=fun σ H Q=>t σ H λc H1=>Q (!c) H1
theorem xK (ha:PT X a tA):PW X (.BoolOp .And [a] pos) tA:=by
 intro wh pins s σ H Q I h
 refine isTrue_and (thn (ha pins s σ H Q I h) λc s1 e=>?_)
 cases c with
 | true=>exact isTrue_and_nil e
 | false=>exact e
theorem oN (ha:PT X a tA):PW X (.BoolOp .Or [a] pos) tA:=by
 intro wh pins s σ H Q I h
 refine isTrue_or (thn (ha pins s σ H Q I h) λc s1 e=>?_)
 cases c with
 | false=>exact isTrue_or_nil e
 | true=>exact e
theorem Bm (ha:PT X a tA) (hb:PW X (.BoolOp .And (b::rest) pos) tB'):PW X (.BoolOp .And (a::b::rest) pos) (tAnd tA tB'):=by
 intro wh pins s σ H Q I h
 refine isTrue_and (thn (ha pins s σ H _ I h) λc s1 zz=>?_)
 obtain ⟨H1,I1,q1⟩:=zz
 cases c with
 | true=>exact hb wh pins s1 σ H1 Q I1 q1
 | false=>exact ⟨H1,I1,q1⟩
theorem qw (ha:PT X a tA) (hb:PW X (.BoolOp .Or (b::rest) pos) tB'):PW X (.BoolOp .Or (a::b::rest) pos) (tOr tA tB'):=by
 intro wh pins s σ H Q I h
 refine isTrue_or (thn (ha pins s σ H _ I h) λc s1 zz=>?_)
 obtain ⟨H1,I1,q1⟩:=zz
 cases c with
 | true=>exact ⟨H1,I1,q1⟩
 | false=>exact hb wh pins s1 σ H1 Q I1 q1
theorem pt_not (ha:PT X a tA):PT X (.UnaryOp .Not a pos) (tNot tA):=by
 intro pins s σ H Q I h
 exact isTrue_not (ha pins s σ H (λc H1=>Q (!c) H1) I h)
noncomputable def tIf (t:TT) (ta tb:TE):TE:=fun σ H Q=>t σ H λc H1=>if c=true then ta σ H1 Q else tb σ H1 Q
theorem tU {c:Expr} (hc:PT X c tA) (ha:PE X a ta) (hb:PE X b tb):PE X (.IfExp c a b pos) (tIf tA ta tb):=by
 intro pins s σ H Q I h
 refine wpAny_IfExp (thn (hc pins s σ H _ I h) λd s1 zz=>?_)
 obtain ⟨H1,I1,q1⟩:=zz
 cases d with
 | true=>exact ha pins s1 σ H1 Q I1 q1
 | false=>exact hb pins s1 σ H1 Q I1 q1
end
noncomputable def SqL (K:PySem.W.Frag) (H:Hp) (a:Addr) (xs:List V):Prop :=
 Rd H a (.lst xs)\/
  ∃(o:Obj) (its:Array Value) (n:Nat),K.lookup a=some o/\o.cls=.type "list"/\o.dict=none/\o.data=.seq its n/\its.size<=sizeLine/\Vals xs its.toList
noncomputable def SqT (K:PySem.W.Frag) (H:Hp) (a:Addr) (xs:List V):Prop :=
 Rd H a (.tup xs)\/
  ∃(o:Obj) (its:Array Value) (n:Nat),K.lookup a=some o/\o.cls=.type "tuple"/\o.data=.seq its n/\its.size<=sizeLine/\Vals xs its.toList
noncomputable def absV:Value->Option V
 | .none=>some .non
 | .bool b=>some (.bl b)
 | .int i _=>some (.int i)
 | .str x _=>some (.str x)
 | .bytes b _=>some (.byt b)
 | .float b _=>some (.flt b)
 | .ref a=>some (.ref a)
 | .type n=>some (.ty n)
 | _=>none
theorem RelV.abs {x:V} {u:Value} (r:RelV x u):absV u=some x:=by
 cases x with
 | non=>cases r;rfl
 | bl _=>cases r;rfl
 | int _=>obtain ⟨t,rfl⟩:=r;rfl
 | str _=>obtain ⟨t,rfl⟩:=r;rfl
 | byt _=>obtain ⟨t,rfl⟩:=r;rfl
 | flt _=>obtain ⟨t,rfl⟩:=r;rfl
 | ref _=>cases r;rfl
 | ty _=>cases r;rfl
theorem RelV.inj {x y:V} {u:Value} (r:RelV x u) (q:RelV y u):x=y:=Option.some.inj (r.abs.symm.trans q.abs)
theorem Vals.inj:∀{xs ys:List V} {us:List Value},Vals xs us->Vals ys us->xs=ys
 | _,_,_,.nil,.nil=>rfl
 | _,_,_,.cons r t,.cons r' t'=>by rw [r.inj r',Vals.inj t t']
section
variable {X:Cx} {pins:List (Addr×Obj)} {σ:St} {H:Hp} {s:Shared} {a:Addr} {xs ys:List V}
theorem SqL.of {K:PySem.W.Frag} (h:H a=some (.lst xs)):SqL K H a xs:=.inl (.inl h)
theorem SqT.of {K:PySem.W.Frag} (h:H a=some (.tup xs)):SqT K H a xs:=.inl (.inl h)
theorem Inv.list (I:Inv X pins σ H s) (h:SqL X.K H a xs):∃ its:List Value,Vals xs its/\PlainL s.heap a its.toArray/\xs.length<=sizeLine:=by
 rcases h with h | ⟨o,its,n,hk,hc,hd,hs,hz,r⟩
 ·obtain ⟨z,its,n,r,e⟩:=h.ok I.hok
  exact ⟨its,r,⟨_,n,e,rfl,rfl,rfl⟩,z⟩
 ·refine ⟨its.toList,r,⟨o,n,I.kIn a o hk,hc,hd,by simpa using hs⟩,?_⟩
  have e:=r.length
  simp only [Array.length_toList] at e
  omega
theorem Inv.tuple (I:Inv X pins σ H s) (h:SqT X.K H a xs):∃ its:List Value,Vals xs its/\IsTup s.heap a its.toArray/\xs.length<=sizeLine:=by
 rcases h with h | ⟨o,its,n,hk,hc,hs,hz,r⟩
 ·obtain ⟨z,its,r,p⟩:=h.ok I.hok
  exact ⟨its,r,p,z⟩
 ·refine ⟨its.toList,r,⟨o,I.kIn a o hk,hc,n,by simpa using hs⟩,?_⟩
  have e:=r.length
  simp only [Array.length_toList] at e
  omega
theorem Inv.list_inj (I:Inv X pins σ H s) (h:SqL X.K H a xs) (h':SqL X.K H a ys):xs=ys:=by
 obtain ⟨its,r,⟨o,n,e,_,_,d⟩,_⟩:=I.list h
 obtain ⟨its',r',⟨o',n',e',_,_,d'⟩,_⟩:=I.list h'
 rw [e] at e';cases e'
 rw [d] at d'
 injection d' with d1 _
 have:its=its':=by simpa using congrArg Array.toList d1
 subst this
 exact r.inj r'
theorem Inv.tuple_inj (I:Inv X pins σ H s) (h:SqT X.K H a xs) (h':SqT X.K H a ys):xs=ys:=by
 obtain ⟨its,r,⟨o,e,_,n,d⟩,_⟩:=I.tuple h
 obtain ⟨its',r',⟨o',e',_,n',d'⟩,_⟩:=I.tuple h'
 rw [e] at e';cases e'
 rw [d] at d'
 injection d' with d1 _
 have:its=its':=by simpa using congrArg Array.toList d1
 subst this
 exact r.inj r'
end
noncomputable abbrev Cx.wish (X:Cx) (E:Value->Shared->Prop):Cx:={X with xe:=E}
noncomputable abbrev Cx.nox (X:Cx):Cx:=X.wish λ_ _=>False
theorem Cx.Ok.wish {X:Cx} (ok:X.Ok) (E:Value->Shared->Prop):(X.wish E).Ok :=
 ⟨ok.mod,ok.kind,ok.glob,ok.blt,ok.above,ok.inj,ok.has,ok.cab,ok.hd,ok.frames,ok.stk,ok.exf,ok.bs,ok.bsz,ok.noex,ok.exfs,ok.funs,ok.frf⟩
theorem Cx.Ok.unwish {X:Cx} {E:Value->Shared->Prop} (ok:(X.wish E).Ok):X.Ok :=
 ⟨ok.mod,ok.kind,ok.glob,ok.blt,ok.above,ok.inj,ok.has,ok.cab,ok.hd,ok.frames,ok.stk,ok.exf,ok.bs,ok.bsz,ok.noex,ok.exfs,ok.funs,ok.frf⟩
section
variable {X:Cx} {pins:List (Addr×Obj)} {σ:St} {H:Hp} {s:Shared} {E:Value->Shared->Prop}
theorem Inv.wish (I:Inv X pins σ H s) (E:Value->Shared->Prop):Inv (X.wish E) pins σ H s:=⟨I.ok.wish E,I.os,I.bare,I.base,I.loc,I.cell,I.free,I.freeC,I.pin,I.hok,I.len⟩
theorem Inv.unwish (I:Inv (X.wish E) pins σ H s):Inv X pins σ H s:=⟨I.ok.unwish,I.os,I.bare,I.base,I.loc,I.cell,I.free,I.freeC,I.pin,I.hok,I.len⟩
theorem SP.unwish {D:Ends} {f:Flow} {s':Shared} (h:SP (X.wish E) pins D f s'):SP X pins D f s':=by
 cases f with
 | next=>obtain ⟨σ',H',I,q⟩:=h;exact ⟨σ',H',I.unwish,q⟩
 | brk=>obtain ⟨σ',H',I,q⟩:=h;exact ⟨σ',H',I.unwish,q⟩
 | cont=>obtain ⟨σ',H',I,q⟩:=h;exact ⟨σ',H',I.unwish,q⟩
 | ret u=>obtain ⟨v,σ',H',I,r,q⟩:=h;exact ⟨v,σ',H',I.unwish,r,q⟩
theorem PSs.nox {st:List Stmt} {t:TS} (h:PSs X.nox st t):PSs X st t:=λpins s σ H D I hw =>
 wpAny_mono (h pins s σ H D (I.wish _) hw) (λ_ _ q=>q.unwish) λ_ _ z=>False.elim z
end
section
variable {X:Cx} {st:Stmt} {rest:List Stmt} {t u:TS} {e:Expr} {te:TE} {pos:Pos}
noncomputable def Au:TS:=λD σ H=>D.nx σ H
noncomputable def tSeq (t u:TS):TS:=λD σ H=>t {D with nx:=u D} σ H
theorem aH:PSs X [] Au:=λ_ _ σ H _ I h=>wpAny_execs_nil ⟨σ,H,I,h⟩
theorem ah (h1:PS X st t) (h2:PSs X rest u):PSs X (st::rest) (tSeq t u):=by
 intro pins s σ H D I h
 refine wpAny_execs_cons (thn (h1 pins s σ H {D with nx:=u D} I h) λf s1 q=>?_)
 cases f with
 | next =>
  obtain ⟨σ',H',I',q⟩:=q
  exact h2 pins s1 σ' H' D I' q
 | ret v=>exact q
 | brk=>exact q
 | cont=>exact q
theorem ao (h1:PS X st t):PSs X [st] t:=by
 intro pins s σ H D I h
 refine wpAny_execs_cons (thn (h1 pins s σ H D I h) λf s1 q=>?_)
 cases f with
 | next=>exact wpAny_execs_nil q
 | ret v=>exact q
 | brk=>exact q
 | cont=>exact q
theorem Inv.quiet {pins:List (Addr×Obj)} {σ:St} {H:Hp} {s:Shared} (I:Inv X pins σ H s):interactive X.env=false:=by simp [interactive,I.ok.kind]
noncomputable def tDrop (te:TE):TS:=λD σ H=>te σ H λ_ H1=>D.nx σ H1
theorem bj (he:PE X e te) (hs:swapsWith e none pos.line X.env=pure false:=by rfl):PS X (.Expr e pos) (tDrop te):=by
 intro pins s σ H D I h
 refine wpAny_Expr_any (thn (he pins s σ H _ I h) λv s1 zz=>?_) I.quiet hs
 obtain ⟨x,H1,I1,r1,q1⟩:=zz
 exact ⟨σ,H1,I1,q1⟩
noncomputable def vC (te:TE):TS:=λD σ H=>te σ H D.rt
theorem av (he:PE X e te):PS X (.Return (some e) pos) (vC te):=by
 intro pins s σ H D I h
 refine wpAny_Return_some (thn (he pins s σ H _ I h) λv s1 zz=>?_)
 obtain ⟨x,H1,I1,r1,q1⟩:=zz
 exact ⟨x,σ,H1,I1,r1,q1⟩
noncomputable def tIfS (c:TT) (t u:TS):TS:=λD σ H=>c σ H λb H1=>if b=true then t D σ H1 else u D σ H1
theorem aM {c:Expr} {a b:List Stmt} {tc:TT} (hc:PT X c tc) (ha:PSs X a t) (hb:PSs X b u):PS X (.If c a b pos) (tIfS tc t u):=by
 intro pins s σ H D I h
 refine wpAny_If (thn (hc pins s σ H _ I h) λd s1 zz=>?_)
 obtain ⟨H1,I1,q1⟩:=zz
 cases d with
 | true=>exact ha pins s1 σ H1 D I1 q1
 | false=>exact hb pins s1 σ H1 D I1 q1
noncomputable def tNever:TS:=λ_ _ _=>False
theorem Br:PS X st tNever:=λ_ _ _ _ _ _ h=>h.elim
end
noncomputable abbrev TG:=V->St->Hp->(St->Hp->Prop)->Prop
noncomputable abbrev TGs:=List V->St->Hp->(St->Hp->Prop)->Prop
noncomputable def PG (X:Cx) (target:Expr) (t:TG):Prop :=
 ∀(
  pins:List (Addr×Obj)) (s:Shared) (σ:St) (H:Hp) (v:V) (u:Value) (Q:St->Hp->Prop),Inv X pins σ H s->RelV v u->t v σ H Q->
  wpAny (model X.prog X.w) X.A (assign target X.env u) (λ_ s'=>∃ σ' H',Inv X pins σ' H' s'/\Q σ' H') X.xe s
noncomputable def PGs (X:Cx) (ts:List Expr) (t:TGs):Prop :=
 ∀(
  pins:List (Addr×Obj)) (s:Shared) (σ:St) (H:Hp) (vs:List V) (us:List Value) (Q:St->Hp->Prop),Inv X pins σ H s->Vals vs us->t vs σ H Q->
  wpAny (model X.prog X.w) X.A (assignInOrder ((assignEach ts X.env).map (·.2)) us) (λ_ s'=>∃ σ' H',Inv X pins σ' H' s'/\Q σ' H') X.xe s
section
variable {X:Cx} {pos:Pos}
noncomputable def jG (i:Nat):TG:=λv σ H Q=>Q (σ.set i (some v)) H
theorem aW {i:Nat} {x:Str} (hN:X.N.Nodup) (hi:X.N[i]?=some x) (hx:Loc X.env.scope x) (hf:X.fn x=true\/X.env.scope.names.lookup x=some .local:=by first | exact .inl rfl | exact .inr rfl | assumption):PG X (.Name x pos) (jG i):=by
 intro pins s σ H v u Q I r h
 exact wpAny_assign_Name (nW I hN hi hx r (λs' I'=>⟨_,H,I',h⟩) hf)
noncomputable def gNil:TGs:=λvs σ H Q=>vs=[]/\Q σ H
noncomputable def uF (t:TG) (u:TGs):TGs:=λvs σ H Q=>∃ v r,vs=v::r/\t v σ H fun σ' H'=>u r σ' H' Q
theorem ft:PGs X [] gNil:=by
 intro pins s σ H vs us Q I r h
 obtain ⟨e,h⟩:=h
 subst e
 cases r
 exact assignInOrder_nil ⟨σ,H,I,h⟩
theorem bx {e:Expr} {es:List Expr} {t:TG} {u:TGs} (h1:PG X e t) (h2:PGs X es u)
  (hs:(assignEach (e::es) X.env).map (·.2)=assign e X.env::(assignEach es X.env).map (·.2):=by rfl):PGs X (e::es) (uF t u):=by
 intro pins s σ H vs us Q I r h
 obtain ⟨v,vr,e1,h⟩:=h
 subst e1
 cases r with
 | cons r rr =>
  rw [hs]
  refine assignInOrder_cons (thn (h1 pins s σ H _ _ _ I r h) λ_ s1 zz=>?_)
  obtain ⟨σ1,H1,I1,q1⟩:=zz
  exact h2 pins s1 σ1 H1 _ _ Q I1 rr q1
noncomputable def gTup (K:PySem.W.Frag) (n:Nat) (t:TGs):TG:=λv σ H Q=>∃ a xs,v=.ref a/\SqT K H a xs/\xs.length=n/\t xs σ H Q
theorem lV {es:List Expr} {k:Nat} {t:TGs} {n:Nat} (hc:X.calm=true) (h:PGs X es t)
  (hn:(assignEach es X.env).length=n:=by rfl) (hst:(assignEach es X.env).findIdx? (·.1)=none:=by rfl):PG X (.Tuple es k pos) (gTup X.K n t):=by
 intro pins s σ H v u Q I r hw
 obtain ⟨a,xs,e1,hq,hl,hw⟩:=hw
 subst e1
 cases r
 obtain ⟨its,rv,ht,hz⟩:=I.tuple hq
 refine assign_Tuple_tuple (I.ok.hd hc) ht (by simp [hn,<- hl,rv.length]) hst λh' hx=>?_
 have I1:Inv X pins σ H {s with heap:=h' }:=I.kept (t':=s.toks) λb o e=>hx b o (Nat.ne_of_lt (Heap.lt_size e)) e
 exact h pins _ σ H xs _ Q I1 (by simpa using rv) hw
noncomputable def tAsg (te:TE) (g:TG):TS:=λD σ H=>te σ H λx H1=>g x σ H1 D.nx
theorem ps_asg {tg e:Expr} {te:TE} {g:TG} (he:PE X e te) (hg:PG X tg g) (hs:swapsWithSole [tg] e pos.line X.env=pure false:=by rfl) (hw:swappedStores [tg] e X.env=pure none:=by rfl)
  (h1:(assignEach [tg] X.env).map (·.2)=[assign tg X.env]:=by rfl):PS X (.Assign [tg] e pos) (tAsg te g):=by
 intro pins s σ H D I h
 refine wpAny_Assign_stores (thn (he pins s σ H _ I h) λv s1 zz=>?_) hs hw
 obtain ⟨x,H1,I1,r1,q1⟩:=zz
 rw [h1]
 exact thn (hg pins s1 σ H1 x v _ I1 r1 q1) λ_ s2 q=>q
theorem aF {i:Nat} {x:Str} {e:Expr} {te:TE} {pos':Pos} (hN:X.N.Nodup) (hi:X.N[i]?=some x) (hx:Loc X.env.scope x) (he:PE X e te) (hs:swapsWith e (some (.Name x pos')) pos.line X.env=pure false:=by rfl) (hf:X.fn x=true\/X.env.scope.names.lookup x=some .local:=by first | exact .inl rfl | exact .inr rfl | assumption) :
  PS X (.Assign [.Name x pos'] e pos) (tAsg te (jG i)):=by
 intro pins s σ H D I h
 refine wpAny_Assign_Name (thn (he pins s σ H _ I h) λv s1 zz=>?_) hs
 obtain ⟨y,H1,I1,r1,q1⟩:=zz
 exact nW I1 hN hi hx r1 (λs2 I2=>⟨_,H1,I2,q1⟩) hf
end
section
variable {X:Cx} {pos:Pos}
noncomputable def tWhile (c:TT) (tb:TS):TS:=λD σ H=>∃ W:Nat->St->Hp->Prop,(∃ m,W m σ H)/\∀ m σ H,W m σ H->
 c σ H λb H1=>if b=true then ∃ N:St->Hp->Prop,(∀ σ' H',N σ' H'->∃ m',m' < m/\W m' σ' H')/\tb {D with nx:=N,ct:=N,bk:=D.nx} σ H1 else D.nx σ H1
theorem kI {c:Expr} {body:List Stmt} {tc:TT} {tb:TS} (hp:PassesOwn (model X.prog X.w) X.A X.env X.xe) (hc:PT X c tc) (hb:PSs X body tb):PS X (.While c body [] pos) (tWhile tc tb):=by
 intro pins s σ H D I h
 obtain ⟨W,⟨m0,w0⟩,turn⟩:=h
 refine wpAny_While (codeAny_whileLoop (λn s'=>∃ σ' H',Inv X pins σ' H' s'/\W n σ' H') ?_ m0 ⟨σ,H,I,w0⟩)
 rintro n s1 ⟨σ1,H1,I1,w1⟩
 refine wpAny_passesOwn hp (thn (hc pins s1 σ1 H1 _ I1 (turn n σ1 H1 w1)) λb s2 zz=>?_)
 obtain ⟨H2,I2,q2⟩:=zz
 cases b with
 | true =>
  obtain ⟨N,hN,q2⟩:=q2
  rw [if_pos rfl]
  refine wpAny_passesOwn hp (thn (hb pins s2 σ1 H2 _ I2 q2) λf s3 q3=>?_)
  cases f with
  | next =>
   obtain ⟨σ3,H3,I3,n3⟩:=q3
   obtain ⟨m',hm,w3⟩:=hN σ3 H3 n3
   exact ⟨m',hm,σ3,H3,I3,w3⟩
  | cont =>
   obtain ⟨σ3,H3,I3,n3⟩:=q3
   obtain ⟨m',hm,w3⟩:=hN σ3 H3 n3
   exact ⟨m',hm,σ3,H3,I3,w3⟩
  | brk=>exact q3
  | ret v=>exact q3
 | false =>
  rw [if_neg Bool.false_ne_true]
  exact wpAny_execs_nil ⟨σ1,H2,I2,q2⟩
end
structure It where
 go:Nat->Hp->Prop
 yld:Nat->Hp->V->Hp->Prop
 stop:Nat->Hp->Prop
noncomputable def ic (X:Cx) (pins:List (Addr×Obj)) (H:Hp) (b:Addr):Prop :=
 H b=none/\b≠X.env.locals/\b ∉ X.fs/\(b∈X.ex\/X.s₀.heap.objs.size<=b)/\(∀ x c,X.env.cells.lookup x=some c->c≠b)/\∀ p∈X.pn++pins,p.1≠b
theorem Inv.fpOk {X:Cx} {pins:List (Addr×Obj)} {σ:St} {H H':Hp} {s:Shared} {b:Addr} (I:Inv X pins σ H s) (hb:s.heap.objs.size<=b) (hn:H' b=none):ic X pins H' b:=by
 refine ⟨hn,Nat.ne_of_gt (Nat.lt_of_lt_of_le I.lt hb),I.nofs hb,.inr (Nat.le_trans I.sz hb),λx c e z=>?_,λp hp z=>?_⟩
 ·obtain ⟨v,q⟩:=I.cell x c e
  exact absurd (Nat.lt_of_lt_of_le q.lt (by rw [z];exact hb)) (Nat.lt_irrefl _)
 ·exact absurd (Nat.lt_of_lt_of_le (Heap.lt_size (I.pin p hp).1) (by rw [z];exact hb)) (Nat.lt_irrefl _)
structure Turn (P:Program) (w:World) (K:PySem.W.Frag) (tg:Expr) (J:It) (fp:List Addr) (it:Addr) (tn:Nat->Heap->Prop):Prop where
 mem:it∈fp
 obj:∀ i h,tn i h->∀ b∈fp,∃ o,h.get? b=some o/\∀ v,o.data≠.cell v
 keep:∀ i h h',tn i h->(∀ b∈fp,∀ o,h.get? b=some o->h'.get? b=some o)->tn i h'
 item:∀(X:Cx),X.prog=P->X.w=w->X.K=K->X.calm=true->∀(i:Nat) (pins:List (Addr×Obj)) (s:Shared) (σ:St) (H:Hp) (E:Value->Shared->Prop),Inv X pins σ H s->(∀ b∈fp,ic X pins H b)->tn i s.heap->J.go i H->
  wpAny (model P w) X.A (pyNext (.ref it)) (λr s1=>∃ u,r=some u/\
   wpAny (model P w) X.A (letOwnedTupleGo tg (.ref it) u) (λ_ s2=>∃ x H',Inv X pins σ H' s2/\RelV x u/\J.yld i H x H'/\tn (i+1) s2.heap/\∀ b∈fp,H' b=none) E s1) E s
 done:∀(X:Cx),X.prog=P->X.w=w->X.K=K->X.calm=true->∀(i:Nat) (pins:List (Addr×Obj)) (s:Shared) (σ:St) (H:Hp) (E:Value->Shared->Prop),Inv X pins σ H s->(∀ b∈fp,ic X pins H b)->tn i s.heap->J.stop i H->
  wpAny (model P w) X.A (pyNext (.ref it)) (λr s1=>r=none/\Inv X pins σ H s1) E s
 self:∀(A:Around) (i:Nat) (s:Shared) (Q:Value->Shared->Prop) (E:Value->Shared->Prop),tn i s.heap->Q (.ref it) s->wpAny (model P w) A (pyIter (.ref it)) Q E s
noncomputable abbrev TI:=St->Hp->(It->Hp->Prop)->Prop
noncomputable def PIE (X:Cx) (pins:List (Addr×Obj)) (σ:St) (tg:Expr) (R:It->Hp->Prop) (itv:Value) (s2:Shared):Prop :=
 ∃(it:Addr) (fp:List Addr) (tn:Nat->Heap->Prop) (J:It) (H':Hp),itv=.ref it/\Inv X pins σ H' s2/\Turn X.prog X.w X.K tg J fp it tn/\tn 0 s2.heap/\(∀ b∈fp,ic X pins H' b)/\R J H'
noncomputable def PI (X:Cx) (tg iter:Expr) (wi:TI):Prop :=
 ∀(
  pins:List (Addr×Obj)) (s:Shared) (σ:St) (H:Hp) (R:It->Hp->Prop),Inv X pins σ H s->wi σ H R->
  wpAny (model X.prog X.w) X.A (eval iter X.env) (λv s1=>wpAny (model X.prog X.w) X.A (pyIter v) (PIE X pins σ tg R) X.xe s1) X.xe s
theorem CB {M:Model} {A:Around} {E:Value->Shared->Prop} {s:Shared} {tg:Expr} {it:Addr} {u:Value} {o:Obj} {n:String} {vs:Array Value} {Q:Unit->Shared->Prop} (ho:s.heap.get? it=some o) (hc:o.cls=.type n) (hd:o.data=.fields vs)
  (hn:["enumerate","zip","dict_itemiterator","dict_reverseitemiterator","odict_iterator","itertools.zip_longest","itertools.pairwise"].contains n=false) (hQ:Q () s):wpAny M A (letOwnedTupleGo tg (.ref it) u) Q E s:=by
 unfold letOwnedTupleGo
 cases tg <;> first
  | exact wpAny_pure hQ
  | (cases u <;> first
    | exact wpAny_pure hQ
    | (
     refine wpAny_bind (wpAny_load ho ?_)
     rw [hc,hd]
     show wpAny M A (if (["enumerate","zip","dict_itemiterator","dict_reverseitemiterator","odict_iterator","itertools.zip_longest","itertools.pairwise"].contains n && vs[0]? == some (rawInt _))=true then _ else _) Q E s
     rw [if_neg (by intro h;rw [hn,Bool.false_and] at h;cases h)]
     exact wpAny_pure hQ))
noncomputable def Itl (K:PySem.W.Frag) (a:Addr):It :=
 ⟨λi H=>∃ xs x,SqL K H a xs/\xs[i]?=some x,λi H x H'=>H'=H/\∀ xs,SqL K H a xs->xs[i]?=some x,λi H=>∃ xs,SqL K H a xs/\xs.length<=i⟩
noncomputable def Itt (K:PySem.W.Frag) (a:Addr):It :=
 ⟨λi H=>∃ xs x,SqT K H a xs/\xs[i]?=some x,λi H x H'=>H'=H/\∀ xs,SqT K H a xs->xs[i]?=some x,λi H=>∃ xs,SqT K H a xs/\xs.length<=i⟩
noncomputable def Itr (lo:Int) (n:Nat):It:=⟨λi _=>i < n,λi H x H'=>H'=H/\x=.int (lo+i),λi _=>n<=i⟩
theorem yy {P:Program} {w:World} {K:PySem.W.Frag} {tg:Expr} (a it:Addr):Turn P w K tg (Itl K a) [it] it (λi h=>h.IsListIter it a i) where
 mem:=by simp
 obj:=λi h st b hb=>by
  have e:b=it:=by simpa using hb
  subst e
  obtain ⟨o,e,c,d⟩:=st
  exact ⟨o,e,λv z=>by rw [d] at z;cases z⟩
 keep:=λi h h' st k=>st.at λo e=>k it (by simp) o e
 item:=by
  intro X hP hw hK hc i pins s σ H E I hf st hg
  subst hP hw hK
  obtain ⟨xs,x,hq,hx⟩:=hg
  obtain ⟨its,rv,p,hz⟩:=I.list hq
  obtain ⟨u,hu,ru⟩:=rv.get hx
  obtain ⟨f0,f1,f2,f3,f4,f5⟩:=hf it (by simp)
  refine wpAny_pyNext_list_item st p.isList (x:=u) (by simpa using hu) λh' st' sb=>?_
  have I1:Inv X pins σ H {s with heap:=h' }:=I.turned (t':=s.toks) (λb o hb e=>(sb.2 b hb).trans e) f0 f1 f3 f4 f5
  obtain ⟨o,e,c,d⟩:=id st'
  exact ⟨u,rfl,CB (s:={s with heap:=h' }) e c d (by decide) ⟨x,H,I1,ru,⟨rfl,λys hy=>by rw [I.list_inj hy hq];exact hx⟩,st',λb hb=>(hf b hb).1⟩⟩
 done:=by
  intro X hP hw hK hc i pins s σ H E I hf st hg
  subst hP hw hK
  obtain ⟨xs,hq,hx⟩:=hg
  obtain ⟨its,rv,p,hz⟩:=I.list hq
  obtain ⟨f0,f1,f2,f3,f4,f5⟩:=hf it (by simp)
  have hl:=rv.length
  exact wpAny_pyNext_list_end (I.ok.hd hc) st p.isList (by simp;omega) λh' eb=>⟨rfl,I.turned (t':=s.toks) (λb o hb e=>eb b o hb e) f0 f1 f3 f4 f5⟩
 self:=λ_ _ _ _ _ st h=>wpAny_pyIter_listiter st h
theorem vv {P:Program} {w:World} {K:PySem.W.Frag} {tg:Expr} (a it:Addr):Turn P w K tg (Itt K a) [it] it (λi h=>h.IsTupleIter it a i) where
 mem:=by simp
 obj:=λi h st b hb=>by
  have e:b=it:=by simpa using hb
  subst e
  obtain ⟨o,e,c,d⟩:=st
  exact ⟨o,e,λv z=>by rw [d] at z;cases z⟩
 keep:=λi h h' st k=>st.at λo e=>k it (by simp) o e
 item:=by
  intro X hP hw hK hc i pins s σ H E I hf st hg
  subst hP hw hK
  obtain ⟨xs,x,hq,hx⟩:=hg
  obtain ⟨its,rv,p,hz⟩:=I.tuple hq
  obtain ⟨u,hu,ru⟩:=rv.get hx
  obtain ⟨f0,f1,f2,f3,f4,f5⟩:=hf it (by simp)
  refine wpAny_pyNext_tuple_item st (show s.heap.IsTuple a its.toArray from p) (x:=u) (by simpa using hu) λh' st' sb=>?_
  have I1:Inv X pins σ H {s with heap:=h' }:=I.turned (t':=s.toks) (λb o hb e=>(sb.2 b hb).trans e) f0 f1 f3 f4 f5
  obtain ⟨o,e,c,d⟩:=id st'
  exact ⟨u,rfl,CB (s:={s with heap:=h' }) e c d (by decide) ⟨x,H,I1,ru,⟨rfl,λys hy=>by rw [I.tuple_inj hy hq];exact hx⟩,st',λb hb=>(hf b hb).1⟩⟩
 done:=by
  intro X hP hw hK hc i pins s σ H E I hf st hg
  subst hP hw hK
  obtain ⟨xs,hq,hx⟩:=hg
  obtain ⟨its,rv,p,hz⟩:=I.tuple hq
  obtain ⟨f0,f1,f2,f3,f4,f5⟩:=hf it (by simp)
  have hl:=rv.length
  exact wpAny_pyNext_tuple_end (I.ok.hd hc) st (show s.heap.IsTuple a its.toArray from p) (by simp;omega) λh' eb=>⟨rfl,I.turned (t':=s.toks) (λb o hb e=>eb b o hb e) f0 f1 f3 f4 f5⟩
 self:=λ_ _ _ _ _ st h=>wpAny_pyIter_tupleiter st h
theorem vw {P:Program} {w:World} {K:PySem.W.Frag} {tg:Expr} (it:Addr) (lo:Int) (n:Nat):Turn P w K tg (Itr lo n) [it] it (λi h=>IsRangeIter h it (lo+(i:Nat)*1) ((n:Int) - (i:Nat)) 1) where
 mem:=by simp
 obj:=λi h st b hb=>by
  have e:b=it:=by simpa using hb
  subst e
  exact ⟨_,st,λv z=>by
   have z':Data.fields _=Data.cell v:=z
   cases z'⟩
 keep:=λi h h' st k=>k it (by simp) _ st
 item:=by
  intro X hP hw hK hc i pins s σ H E I hf st hg
  subst hP hw hK
  obtain ⟨f0,f1,f2,f3,f4,f5⟩:=hf it (by simp)
  have W:=Walks.range (prog:=X.prog) (w:=X.w) (I.ok.hd hc) it lo 1 n
  refine W.item i s _ _ hg st λv h' tk hv st' kk=>?_
  obtain ⟨t,rfl⟩:=hv
  have I1:Inv X pins σ H {s with heap:=h',toks:=tk}:=I.turned (λb o hb e=>kk b o (by simpa using hb) e) f0 f1 f3 f4 f5
  refine ⟨_,rfl,CB (s:={s with heap:=h',toks:=tk}) (n:="range_iterator") st' rfl rfl (by decide) ⟨.int (lo+i),H,I1,⟨t,?_⟩,⟨rfl,rfl⟩,st',λb hb=>(hf b hb).1⟩⟩
  rw [Int.mul_one]
 done:=by
  intro X hP hw hK hc i pins s σ H E I hf st hg
  subst hP hw hK
  obtain ⟨f0,f1,f2,f3,f4,f5⟩:=hf it (by simp)
  exact wpAny_pyNext_range_end (I.ok.hd hc) st (by have:n<=i:=hg;omega) λh' eb=>⟨rfl,I.turned (t':=s.toks) (λb o hb e=>eb b o hb e) f0 f1 f3 f4 f5⟩
 self:=λ_ _ _ _ _ st h=>wpAny_pyIter_rangeiter st h
section
variable {X:Cx} {tg:Expr}
noncomputable def iList (K:PySem.W.Frag) (tl:TE):TI:=fun σ H R=>tl σ H λx H1=>∃ a,x=.ref a/\(∃ xs,SqL K H1 a xs)/\R (Itl K a) H1
noncomputable def iTup (K:PySem.W.Frag) (tl:TE):TI:=fun σ H R=>tl σ H λx H1=>∃ a,x=.ref a/\(∃ xs,SqT K H1 a xs)/\R (Itt K a) H1
theorem ck {l:Expr} {tl:TE} (hl:PE X l tl):PI X tg l (iList X.K tl):=by
 intro pins s σ H R I h
 refine thn (hl pins s σ H _ I h) λv s1 zz=>?_
 obtain ⟨x,H1,I1,r1,q1⟩:=zz
 obtain ⟨a,e,⟨xs,hq⟩,q⟩:=q1
 subst e
 cases r1
 obtain ⟨its,rv,p,hz⟩:=I1.list hq
 refine wpAny_pyIter_list p.isList ?_
 refine ⟨s1.heap.objs.size,[s1.heap.objs.size],_,_,H1,rfl,I1.kept (t':=s1.toks) λb o e=>Heap.get?_push_of_some _ e,yy a _,⟨_,Heap.get?_push_size _ rfl,rfl,rfl⟩,λb hb=>?_,q⟩
 have e:b=s1.heap.objs.size:=by simpa using hb
 subst e
 exact I1.fpOk (Nat.le_refl _) (I1.hok.fresh (Nat.le_refl _))
theorem vP {l:Expr} {tl:TE} (hl:PE X l tl):PI X tg l (iTup X.K tl):=by
 intro pins s σ H R I h
 refine thn (hl pins s σ H _ I h) λv s1 zz=>?_
 obtain ⟨x,H1,I1,r1,q1⟩:=zz
 obtain ⟨a,e,⟨xs,hq⟩,q⟩:=q1
 subst e
 cases r1
 obtain ⟨its,rv,p,hz⟩:=I1.tuple hq
 refine wpAny_pyIter_tuple (show s1.heap.IsTuple a its.toArray from p) ?_
 refine ⟨s1.heap.objs.size,[s1.heap.objs.size],_,_,H1,rfl,I1.kept (t':=s1.toks) λb o e=>Heap.get?_push_of_some _ e,vv a _,⟨_,Heap.get?_push_size _ rfl,rfl,rfl⟩,λb hb=>?_,q⟩
 have e:b=s1.heap.objs.size:=by simpa using hb
 subst e
 exact I1.fpOk (Nat.le_refl _) (I1.hok.fresh (Nat.le_refl _))
theorem Bh {pins:List (Addr×Obj)} {σ:St} {H:Hp} {s:Shared} {R:It->Hp->Prop} {E:Value->Shared->Prop} {lo hi:Int} {t u v:Tok} {tk:Nat} (I:Inv X pins σ H s) (h1:-(2 ^ 62)<=lo) (h2:lo < 2 ^ 62) (h3:-(2 ^ 62)<=hi) (h4:hi < 2 ^ 62)
  (q:R (Itr lo (hi - lo).toNat) H):wpAny (model X.prog X.w) X.A (pyIter (.ref s.heap.objs.size)) (PIE X pins σ tg R) E {s with heap:=s.heap.push {cls:=.type "range",data:=.fields #[.int lo t,.int hi u,.int 1 v] },toks:=tk}:=by
 refine wpAny_pyIter_range (IsRange.new ..) (small_one h1 h2 h3 h4) ?_
 have I1:Inv X pins σ H {s with heap:=s.heap.push {cls:=.type "range",data:=.fields #[.int lo t,.int hi u,.int 1 v] },toks:=tk}:=I.kept λb o e=>Heap.get?_push_of_some _ e
 refine ⟨(s.heap.push {cls:=.type "range",data:=.fields #[.int lo t,.int hi u,.int 1 v] }).objs.size,[(s.heap.push {cls:=.type "range",data:=.fields #[.int lo t,.int hi u,.int 1 v] }).objs.size],_,_,H,rfl,
  I1.kept (t':=tk) λb o e=>Heap.get?_push_of_some _ e,vw _ lo (hi - lo).toNat,?_,λb hb=>?_,q⟩
 ·have e1:lo+((0:Nat):Int)*1=lo:=by simp
  have e2:(((hi - lo).toNat:Nat):Int) - ((0:Nat):Int)=Builtin.Range.rangeSize lo hi 1:=by rw [rangeSize_one];split <;> omega
  show IsRangeIter _ _ (lo+((0:Nat):Int)*1) ((((hi - lo).toNat:Nat):Int) - ((0:Nat):Int)) 1
  rw [e1,e2]
  exact Heap.get?_push_size _ rfl
 ·have e:b=(s.heap.push {cls:=.type "range",data:=.fields #[.int lo t,.int hi u,.int 1 v] }).objs.size:=by simpa using hb
  subst e
  exact I1.fpOk (Nat.le_refl _) (I1.hok.fresh (Nat.le_refl _))
noncomputable def iRng1 (ta:TA):TI:=fun σ H R=>ta σ H λvs H1=>∃ j:Int,vs=[.int j]/\-(2 ^ 62)<=j/\j < 2 ^ 62/\R (Itr 0 j.toNat) H1
theorem qy {a:Expr} {ta:TA} {p pos:Pos} (hg:Gl X "range") (hm:X.mg "range"=none) (ha:PA X [a] ta) (hs:starEach [a] X.env=[(false,eval a X.env)]:=by rfl):PI X tg (.Call (.Name "range" p) [a] [] pos) (iRng1 ta):=by
 intro pins s σ H R I h
 refine Call_ (jU I hg hm boot_range (PyProof.Rows.callWith_type1 (thn (ha pos pins s σ H _ I h) λus s1 zz=>?_) hs rfl))
 obtain ⟨vs,H1,I1,r1,q1⟩:=zz
 obtain ⟨j,e,q1,q2,q⟩:=q1
 subst e
 cases r1 with
 | cons r rr =>
  cases rr
  obtain ⟨t,rfl⟩:=r
  exact call_range_1 (Bh I1 (by omega) (by omega) q1 q2 (by simpa using q))
noncomputable def tFor (wi:TI) (g:TG) (tb:TS):TS:=λD σ H=>wi σ H λJ H1=>∃ W:Nat->Nat->St->Hp->Prop,(∃ m,W 0 m σ H1)/\∀ i m σ H,W i m σ H->
 (J.stop i H/\D.nx σ H)\/(J.go i H/\∃ N:St->Hp->Prop,(∀ σ' H',N σ' H'->∃ m',m' < m/\W (i+1) m' σ' H')/\∀ x H',J.yld i H x H'->g x σ H' fun σ2 H2=>tb {D with nx:=N,ct:=N,bk:=D.nx} σ2 H2)
noncomputable def oP (fp:List Addr) (h:Heap):List (Addr×Obj):=fp.filterMap λb=>(h.get? b).map λo=>(b,o)
theorem fe {fp:List Addr} {h:Heap} {b:Addr} {o:Obj} (hb:b∈fp) (e:h.get? b=some o):(b,o)∈oP fp h:=List.mem_filterMap.mpr ⟨b,hb,by rw [e];rfl⟩
theorem zb {fp:List Addr} {h:Heap} {p:Addr×Obj} (hp:p∈oP fp h):p.1∈fp/\h.get? p.1=some p.2:=by
 obtain ⟨b,hb,e⟩:=List.mem_filterMap.mp hp
 cases q:h.get? b with
 | none=>rw [q] at e;cases e
 | some o =>
  rw [q] at e
  have e':(b,o)=p:=Option.some.inj e
  subst e'
  exact ⟨hb,q⟩
theorem Inv.pinned {pins:List (Addr×Obj)} {σ:St} {H:Hp} {s:Shared} {fp:List Addr} (I:Inv X pins σ H s) (hf:∀ b∈fp,ic X pins H b) (ho:∀ b∈fp,∃ o,s.heap.get? b=some o/\∀ v,o.data≠.cell v):Inv X (pins++oP fp s.heap) σ H s :=
 I.pins_of λp hp=>(List.mem_append.mp hp).elim (λz=>I.pin p (List.mem_append_right _ z)) λz=>by
  obtain ⟨hb,e⟩:=zb z
  obtain ⟨f0,f1,f2,_⟩:=hf p.1 hb
  obtain ⟨o,e',d⟩:=ho p.1 hb
  rw [e] at e';cases e'
  exact ⟨e,f0,f1,f2,d⟩
theorem Inv.unpinned {pins pl:List (Addr×Obj)} {σ:St} {H:Hp} {s:Shared} (I:Inv X (pins++pl) σ H s):Inv X pins σ H s:=I.pins_of λp hp=>I.pin p (List.mem_append_right _ (List.mem_append_left _ hp))
theorem fN {iter:Expr} {body:List Stmt} {wi:TI} {g:TG} {tb:TS} {pos:Pos} (hp:PassesOwn (model X.prog X.w) X.A X.env X.xe) (hc:X.calm=true) (hi:PI X tg iter wi) (hg:PG X tg g) (hb:PSs X body tb)
  (hs:∀ x,foldedSetIterable iter X.env x=pure x:=by intro _;rfl):PS X (.For tg iter body [] pos) (tFor wi g tb):=by
 intro pins s σ H D I h
 refine wpAny_For (thn (hi pins s σ H _ I h) λv s1 h1=>thn h1 λitv s2 h2=>?_) hs
 obtain ⟨it,fp,tn,J,H2,e,I2,T,st2,f2,W,⟨m0,w0⟩,turn⟩:=h2
 subst e
 have stat:∀{H':Hp},(∀ b∈fp,H' b=none)->∀ b∈fp,ic X pins H' b:=λhn b hb=>⟨hn b hb,(f2 b hb).2⟩
 refine codeAny_forLoop_any (λn s'=>∃ i σ' H',Inv X pins σ' H' s'/\tn i s'.heap/\(∀ b∈fp,H' b=none)/\W i n σ' H') ?_ m0 ⟨0,σ,H2,I2,st2,λb hb=>(f2 b hb).1,w0⟩
 rintro n s3 ⟨i,σ3,H3,I3,st3,fr3,w3⟩
 rcases turn i n σ3 H3 w3 with ⟨stop,qn⟩ | ⟨go,N,hN,step⟩
 ·refine wpAny_passesOwn hp (thn (T.done X rfl rfl rfl hc i pins s3 σ3 H3 X.xe I3 (stat fr3) st3 stop) λr s4 zz=>?_)
  obtain ⟨hr,I4⟩:=zz
  subst hr
  exact wpAny_execs_nil ⟨σ3,H3,I4,qn⟩
 ·refine wpAny_passesOwn hp (thn (T.item X rfl rfl rfl hc i pins s3 σ3 H3 X.xe I3 (stat fr3) st3 go) λr s4 zz=>?_)
  obtain ⟨u,hr,h4⟩:=zz
  subst hr
  refine wpAny_passesOwn hp (thn h4 λ_ s5 zz=>?_)
  obtain ⟨x,H5,I5,r5,y5,st5,fr5⟩:=zz
  have I5':=I5.pinned (stat fr5) (T.obj _ _ st5)
  refine wpAny_passesOwn hp (thn (hg _ s5 σ3 H5 x u _ I5' r5 (step x H5 y5)) λ_ s6 zz=>?_)
  obtain ⟨σ6,H6,I6,q6⟩:=zz
  refine wpAny_passesOwn hp (thn (hb _ s6 σ6 H6 _ I6 q6) λf s7 q7=>?_)
  have again:∀{σ7:St} {H7:Hp},Inv X (pins++oP fp s5.heap) σ7 H7 s7->N σ7 H7->∃ m,m < n/\∃ i σ' H',Inv X pins σ' H' s7/\tn i s7.heap/\(∀ b∈fp,H' b=none)/\W i m σ' H':=λ{σ7 H7} I7 n7=>by
   obtain ⟨m',hm,w7⟩:=hN σ7 H7 n7
   refine ⟨m',hm,i+1,σ7,H7,I7.unpinned,T.keep _ _ _ st5 λb hb o e=>(I7.pin (b,o) (List.mem_append_right _ (List.mem_append_right _ (fe hb e)))).1,λb hb=>?_,w7⟩
   obtain ⟨o,e,d⟩:=T.obj _ _ st5 b hb
   exact (I7.pin (b,o) (List.mem_append_right _ (List.mem_append_right _ (fe hb e)))).2.1
  cases f with
  | next=>obtain ⟨σ7,H7,I7,n7⟩:=q7;exact again I7 n7
  | cont=>obtain ⟨σ7,H7,I7,n7⟩:=q7;exact again I7 n7
  | brk=>obtain ⟨σ7,H7,I7,q7⟩:=q7;exact ⟨σ7,H7,I7.unpinned,q7⟩
  | ret v=>obtain ⟨x7,σ7,H7,I7,r7,q7⟩:=q7;exact ⟨x7,σ7,H7,I7.unpinned,r7,q7⟩
end
theorem gi {K:PySem.W.Frag} {a:Addr} {xs:List V} {g:TG} {tb:TS} {D:Ends} {σ:St} {H:Hp} (Pv:Nat->St->Hp->Prop) (h0:Pv 0 σ H) (hl:∀ i σ H,i<=xs.length->Pv i σ H->SqL K H a xs)
  (hs:∀ i x σ H,xs[i]?=some x->Pv i σ H->g x σ H fun σ2 H2=>tb {D with nx:=Pv (i+1),ct:=Pv (i+1),bk:=D.nx} σ2 H2) (hd:∀ σ H,Pv xs.length σ H->D.nx σ H) :
  ∃ W:Nat->Nat->St->Hp->Prop,(∃ m,W 0 m σ H)/\∀ i m σ H,W i m σ H->
   ((Itl K a).stop i H/\D.nx σ H)\/((Itl K a).go i H/\∃ N:St->Hp->Prop,(∀ σ' H',N σ' H'->∃ m',m' < m/\W (i+1) m' σ' H')/\∀ x H',(Itl K a).yld i H x H'->g x σ H' fun σ2 H2=>tb {D with nx:=N,ct:=N,bk:=D.nx} σ2 H2):=by
 refine ⟨λi m σ H=>m=xs.length - i/\i<=xs.length/\Pv i σ H,⟨xs.length,by simp,Nat.zero_le _,h0⟩,?_⟩
 rintro i m σ H ⟨rfl,hi,p⟩
 have q:=hl i σ H hi p
 by_cases hlt:i < xs.length
 ·refine .inr ⟨⟨xs,xs[i],q,by simp [hlt]⟩,Pv (i+1),fun σ' H' p'=>⟨xs.length - (i+1),by omega,rfl,hlt,p'⟩,λx H' y=>?_⟩
  obtain ⟨e,y⟩:=y
  subst e
  exact hs i x σ _ (y xs q) p
 ·have e:i=xs.length:=by omega
  subst e
  exact .inl ⟨⟨xs,q,Nat.le_refl _⟩,hd σ H p⟩
theorem for_tup {K:PySem.W.Frag} {a:Addr} {xs:List V} {g:TG} {tb:TS} {D:Ends} {σ:St} {H:Hp} (Pv:Nat->St->Hp->Prop) (h0:Pv 0 σ H) (hl:∀ i σ H,i<=xs.length->Pv i σ H->SqT K H a xs)
  (hs:∀ i x σ H,xs[i]?=some x->Pv i σ H->g x σ H fun σ2 H2=>tb {D with nx:=Pv (i+1),ct:=Pv (i+1),bk:=D.nx} σ2 H2) (hd:∀ σ H,Pv xs.length σ H->D.nx σ H) :
  ∃ W:Nat->Nat->St->Hp->Prop,(∃ m,W 0 m σ H)/\∀ i m σ H,W i m σ H->
   ((Itt K a).stop i H/\D.nx σ H)\/((Itt K a).go i H/\∃ N:St->Hp->Prop,(∀ σ' H',N σ' H'->∃ m',m' < m/\W (i+1) m' σ' H')/\∀ x H',(Itt K a).yld i H x H'->g x σ H' fun σ2 H2=>tb {D with nx:=N,ct:=N,bk:=D.nx} σ2 H2):=by
 refine ⟨λi m σ H=>m=xs.length - i/\i<=xs.length/\Pv i σ H,⟨xs.length,by simp,Nat.zero_le _,h0⟩,?_⟩
 rintro i m σ H ⟨rfl,hi,p⟩
 have q:=hl i σ H hi p
 by_cases hlt:i < xs.length
 ·refine .inr ⟨⟨xs,xs[i],q,by simp [hlt]⟩,Pv (i+1),fun σ' H' p'=>⟨xs.length - (i+1),by omega,rfl,hlt,p'⟩,λx H' y=>?_⟩
  obtain ⟨e,y⟩:=y
  subst e
  exact hs i x σ _ (y xs q) p
 ·have e:i=xs.length:=by omega
  subst e
  exact .inl ⟨⟨xs,q,Nat.le_refl _⟩,hd σ H p⟩
noncomputable abbrev R2:=V->V->Hp->VK->Prop
noncomputable def OpR (X:Cx) (f:Value->Value->Sem Value) (r:R2):Prop :=
 ∀(
  pins:List (Addr×Obj)) (s:Shared) (σ:St) (H:Hp) (x y:V) (v u:Value) (Q:VK),Inv X pins σ H s->RelV x v->RelV y u->r x y H Q->
  wpAny (model X.prog X.w) X.A (f v u) (EP X pins σ Q) X.xe s
noncomputable def UnR (X:Cx) (f:Value->Sem Value) (r:V->Hp->VK->Prop):Prop :=
 ∀(
  pins:List (Addr×Obj)) (s:Shared) (σ:St) (H:Hp) (x:V) (v:Value) (Q:VK),Inv X pins σ H s->RelV x v->r x H Q->
  wpAny (model X.prog X.w) X.A (f v) (EP X pins σ Q) X.xe s
noncomputable def gK (X:Cx) (f:Value) (r:List V->Hp->VK->Prop):Prop :=
 ∀(
  pins:List (Addr×Obj)) (s:Shared) (σ:St) (H:Hp) (xs:List V) (us:List Value) (Q:VK),Inv X pins σ H s->Vals xs us->r xs H Q->
  wpAny (model X.prog X.w) X.A (call f us) (EP X pins σ Q) X.xe s
noncomputable def TruR (X:Cx) (r:V->Hp->(Bool->Hp->Prop)->Prop):Prop :=
 ∀(
  pins:List (Addr×Obj)) (s:Shared) (σ:St) (H:Hp) (x:V) (v:Value) (Q:Bool->Hp->Prop),Inv X pins σ H s->RelV x v->r x H Q->
  wpAny (model X.prog X.w) X.A (truthy v) (TP X pins σ Q) X.xe s
noncomputable def tOp (r:R2) (ta tb:TE):TE:=fun σ H Q=>ta σ H λx H1=>tb σ H1 λy H2=>r x y H2 Q
noncomputable def tUn (r:V->Hp->VK->Prop) (ta:TE):TE:=fun σ H Q=>ta σ H λx H1=>r x H1 Q
inductive XrI (C:Int->Int->Prop) (g:Int->Int->V) (x:V) (y:V) (H:Hp) (Q:VK):Prop where
 | mk (i:Int) (j:Int) (z_0:x=.int i) (z_1:y=.int j) (z_2:C i j) (z_3:Q (g i j) H):XrI C g x y H Q
noncomputable def rI (C:Int->Int->Prop) (g:Int->Int->V):R2:=λx y H Q=>XrI C g x y H Q
inductive XrI0 (g:Int->Int->V) (x:V) (y:V) (H:Hp) (Q:VK):Prop where
 | mk (i:Int) (j:Int) (z_0:x=.int i) (z_1:y=.int j) (z_2:Q (g i j) H):XrI0 g x y H Q
noncomputable def rI0 (g:Int->Int->V):R2:=λx y H Q=>XrI0 g x y H Q
noncomputable def rU (g:Int->V):V->Hp->VK->Prop:=λx H Q=>∃ i,x=.int i/\Q (g i) H
section
variable {X:Cx} {a b c:Expr} {ta tb tc:TE} {pos:Pos}
theorem binT (ha:PE X a ta) (hb:PE X b tb) {pins:List (Addr×Obj)} {s:Shared} {σ:St} {H:Hp} {R:V->V->Hp->Prop} (I:Inv X pins σ H s)
  (h:ta σ H λx H1=>tb σ H1 λy H2=>R x y H2) {Q:Value->Shared->Prop} {f:Value->Value->Sem Value}
  (hf:∀ v u s2 x y H2,Inv X pins σ H2 s2->RelV x v->RelV y u->R x y H2->wpAny (model X.prog X.w) X.A (f v u) Q X.xe s2) :
  wpAny (model X.prog X.w) X.A (eval a X.env) (λv s₁=>wpAny (model X.prog X.w) X.A (eval b X.env) (λu s₂=>wpAny (model X.prog X.w) X.A (f v u) Q X.xe s₂) X.xe s₁) X.xe s:=by
 refine thn (ha pins s σ H _ I h) λv s1 zz=>?_
 obtain ⟨x,H1,I1,r1,q1⟩:=zz
 refine thn (hb pins s1 σ H1 _ I1 q1) λu s2 zz=>?_
 obtain ⟨y,H2,I2,r2,q2⟩:=zz
 exact hf v u s2 x y H2 I2 r1 r2 q2
theorem aA {op:Operator} {r:R2} (ho:OpR X (binaryOp op) r) (ha:PE X a ta) (hb:PE X b tb):PE X (.BinOp a op b pos) (tOp r ta tb):=by
 intro pins s σ H Q I h
 exact wpAny_BinOp (binT ha hb I h λv u s2 x y H2 I2 rx ry q=>ho pins s2 σ H2 x y v u Q I2 rx ry q)
theorem jE {op:UnaryOp} {r:V->Hp->VK->Prop} (ho:UnR X (unaryOp op) r) (ha:PE X a ta):PE X (.UnaryOp op a pos) (tUn r ta):=by
 intro pins s σ H Q I h
 refine UnaryOp_ (thn (ha pins s σ H _ I h) λv s1 zz=>?_)
 obtain ⟨x,H1,I1,r1,q1⟩:=zz
 exact ho pins s1 σ H1 x v Q I1 r1 q1
theorem opI {f:Value->Value->Sem Value} {C:Int->Int->Prop} {g:Int->Int->Int}
  (rule:∀(i j:Int) (t u:Tok) (s:Shared) (Q:Value->Shared->Prop) (E:Value->Shared->Prop),C i j->Q (.int (g i j) s.toks) {s with toks:=s.toks+1}->wpAny (model X.prog X.w) X.A (f (.int i t) (.int j u)) Q E s) :
  OpR X f (rI C λi j=>.int (g i j)):=by
 intro pins s σ H x y v u Q I rx ry h
 obtain ⟨i,j,rfl,rfl,hc,q⟩:=h
 obtain ⟨t,rfl⟩:=rx
 obtain ⟨t',rfl⟩:=ry
 exact rule i j t t' s _ _ hc ⟨.int (g i j),H,I.tok _,⟨_,rfl⟩,q⟩
theorem opI0 {f:Value->Value->Sem Value} {g:Int->Int->Int}
  (rule:∀(i j:Int) (t u:Tok) (s:Shared) (Q:Value->Shared->Prop) (E:Value->Shared->Prop),Q (.int (g i j) s.toks) {s with toks:=s.toks+1}->wpAny (model X.prog X.w) X.A (f (.int i t) (.int j u)) Q E s) :
  OpR X f (rI0 λi j=>.int (g i j)):=by
 intro pins s σ H x y v u Q I rx ry h
 obtain ⟨i,j,rfl,rfl,q⟩:=h
 obtain ⟨t,rfl⟩:=rx
 obtain ⟨t',rfl⟩:=ry
 exact rule i j t t' s _ _ ⟨.int (g i j),H,I.tok _,⟨_,rfl⟩,q⟩
theorem opB0 {f:Value->Value->Sem Value} {g:Int->Int->Bool}
  (rule:∀(i j:Int) (t u:Tok) (s:Shared) (Q:Value->Shared->Prop) (E:Value->Shared->Prop),Q (.bool (g i j)) s->wpAny (model X.prog X.w) X.A (f (.int i t) (.int j u)) Q E s) :
  OpR X f (rI0 λi j=>.bl (g i j)):=by
 intro pins s σ H x y v u Q I rx ry h
 obtain ⟨i,j,rfl,rfl,q⟩:=h
 obtain ⟨t,rfl⟩:=rx
 obtain ⟨t',rfl⟩:=ry
 exact rule i j t t' s _ _ ⟨.bl (g i j),H,I,rfl,q⟩
noncomputable def CDiv (i j:Int):Prop:=0 < j/\j < 1073741824
noncomputable def CPow (i j:Int):Prop:=0<=j/\j<=1000000/\i.natAbs < 2 ^ 64
theorem bR:OpR X (binaryOp .Add) (rI0 λi j=>.int (i+j)):=opI0 λ_ _ _ _ _ _ _ q=>add_int q
theorem eM:OpR X (binaryOp .Sub) (rI0 λi j=>.int (i - j)):=opI0 λ_ _ _ _ _ _ _ q=>sub_int q
theorem bu:OpR X (binaryOp .FloorDiv) (rI CDiv λi j=>.int (i / j)):=opI λi j _ _ _ _ _ hc q=>by
 have h1:(0:Int) < j:=hc.1
 have h2:j < 1073741824:=hc.2
 exact floordiv_int (by omega) (by rw [Int.fdiv_eq_ediv_of_nonneg i (by omega)];exact q) (.inl (PyProof.noPylong_small (by omega)))
theorem aX:OpR X (binaryOp .Mod) (rI (λ_ j=>0 < j) λi j=>.int (i % j)):=opI λi j _ _ _ _ _ hc q=>by
 have h1:(0:Int) < j:=hc
 exact mod_int' (by omega) (by rw [Int.fmod_eq_emod_of_nonneg i (by omega)];exact q)
theorem kM:OpR X (binaryOp .Mod) (rI (λ_ j=>j≠0) λi j=>.int (i.fmod j)):=opI λ_ _ _ _ _ _ _ hc q=>mod_int' hc q
theorem op_pow:OpR X (binaryOp .Pow) (rI CPow λi j=>.int (i ^ j.toNat)):=opI λ_ _ _ _ _ _ _ hc q=>pow_int_small hc.1 hc.2.1 hc.2.2 q
theorem unI {f:Value->Sem Value} {g:Int->Int}
  (rule:∀(i:Int) (t:Tok) (s:Shared) (Q:Value->Shared->Prop) (E:Value->Shared->Prop),Q (.int (g i) s.toks) {s with toks:=s.toks+1}->wpAny (model X.prog X.w) X.A (f (.int i t)) Q E s) :
  UnR X f (rU λi=>.int (g i)):=by
 intro pins s σ H x v Q I rx h
 obtain ⟨i,rfl,q⟩:=h
 obtain ⟨t,rfl⟩:=rx
 exact rule i t s _ _ ⟨.int (g i),H,I.tok _,⟨_,rfl⟩,q⟩
theorem gM:UnR X (unaryOp .USub) (rU λi=>.int (-i)):=unI λ_ _ _ _ _ q=>neg_int q
end
noncomputable def scal:V->V->Bool
 | .non,.non=>true | .non,.int _=>true | .int _,.non=>true | .non,.bl _=>true | .bl _,.non=>true | .non,.str _=>true | .str _,.non=>true
 | .int _,.int _=>true | .bl _,.bl _=>true | .str _,.str _=>true | .byt _,.byt _=>true
 | .int _,.str _=>true | .str _,.int _=>true | .bl _,.str _=>true | .str _,.bl _=>true
 | _,_=>false
noncomputable def rEq:R2:=λx y H Q=>scal x y=true/\Q (.bl (decide (x=y))) H
noncomputable def rNe:R2:=λx y H Q=>scal x y=true/\Q (.bl (!decide (x=y))) H
theorem yj {i j:Int}:decide (V.int i=V.int j)=(i == j):=by
 rw [Bool.eq_iff_iff]
 simp
theorem CW {i j:Bool}:decide (V.bl i=V.bl j)=(i == j):=by
 rw [Bool.eq_iff_iff]
 simp
theorem yi {i j:Str}:decide (V.str i=V.str j)=(i == j):=by
 rw [Bool.eq_iff_iff]
 simp
theorem yk {i j:Array UInt8}:decide (V.byt i=V.byt j)=(i.toList == j.toList):=by
 rw [Bool.eq_iff_iff]
 cases i
 cases j
 simp
section
variable {X:Cx} {a b c:Expr} {ta tb tc:TE} {pos:Pos}
theorem bA {pins:List (Addr×Obj)} {σ:St} {H:Hp} {s:Shared} {Q:VK} {k k':Bool} (I:Inv X pins σ H s) (q:Q (.bl k) H) (e:k=k'):EP X pins σ Q (.bool k') s:=by
 subst e
 exact ⟨.bl k,H,I,rfl,q⟩
theorem aZ:OpR X (compareOp .Eq) rEq:=by
 intro pins s σ H x y v u Q I rx ry h
 obtain ⟨hs,q⟩:=h
 cases x with
 | non =>
  cases rx
  cases y with
  | non=>cases ry;exact PySem.EqNone.eq_none_none (bA I q (by simp))
  | bl j=>cases ry;exact PySem.EqNone.eq_none_bool (bA I q (by simp))
  | int j=>obtain ⟨t',rfl⟩:=ry;exact PySem.EqNone.eq_none_int (bA I q (by simp))
  | str j=>obtain ⟨t',rfl⟩:=ry;exact PySem.EqNone.eq_none_str (bA I q (by simp))
  | _=>exact absurd (show false=true from hs) Bool.false_ne_true
 | bl i =>
  cases rx
  cases y with
  | non=>cases ry;exact PySem.EqNone.eq_bool_none (bA I q (by simp))
  | bl j=>cases ry;exact eq_bool (bA I q CW)
  | str j=>obtain ⟨t',rfl⟩:=ry;exact PySem.EqMixed.eq_bool_str (bA I q (by simp))
  | _=>exact absurd (show false=true from hs) Bool.false_ne_true
 | int i =>
  obtain ⟨t,rfl⟩:=rx
  cases y with
  | non=>cases ry;exact PySem.EqNone.eq_int_none (bA I q (by simp))
  | int j=>obtain ⟨t',rfl⟩:=ry;exact eq_int (bA I q yj)
  | str j=>obtain ⟨t',rfl⟩:=ry;exact PySem.EqMixed.eq_int_str (bA I q (by simp))
  | _=>exact absurd (show false=true from hs) Bool.false_ne_true
 | str i =>
  obtain ⟨t,rfl⟩:=rx
  cases y with
  | non=>cases ry;exact PySem.EqNone.eq_str_none (bA I q (by simp))
  | bl j=>cases ry;exact PySem.EqMixed.eq_str_bool (bA I q (by simp))
  | int j=>obtain ⟨t',rfl⟩:=ry;exact PySem.EqMixed.eq_str_int (bA I q (by simp))
  | str j=>obtain ⟨t',rfl⟩:=ry;exact eq_str (bA I q yi)
  | _=>exact absurd (show false=true from hs) Bool.false_ne_true
 | byt i =>
  obtain ⟨t,rfl⟩:=rx
  cases y with
  | byt j=>obtain ⟨t',rfl⟩:=ry;exact PySem.W.eq_bytes (bA I q yk)
  | _=>exact absurd (show false=true from hs) Bool.false_ne_true
 | _=>cases y <;> exact absurd (show false=true from hs) Bool.false_ne_true
theorem BC:OpR X (compareOp .NotEq) rNe:=by
 intro pins s σ H x y v u Q I rx ry h
 obtain ⟨hs,q⟩:=h
 cases x with
 | non =>
  cases rx
  cases y with
  | non=>cases ry;exact PySem.EqNone.ne_none_none (bA I q (by simp))
  | bl j=>cases ry;exact PySem.EqNone.ne_none_bool (bA I q (by simp))
  | int j=>obtain ⟨t',rfl⟩:=ry;exact PySem.EqNone.ne_none_int (bA I q (by simp))
  | str j=>obtain ⟨t',rfl⟩:=ry;exact PySem.EqNone.ne_none_str (bA I q (by simp))
  | _=>exact absurd (show false=true from hs) Bool.false_ne_true
 | bl i =>
  cases rx
  cases y with
  | non=>cases ry;exact PySem.EqNone.ne_bool_none (bA I q (by simp))
  | bl j=>cases ry;exact ne_bool (bA I q (congrArg not CW))
  | str j=>obtain ⟨t',rfl⟩:=ry;exact PySem.EqMixed.ne_bool_str (bA I q (by simp))
  | _=>exact absurd (show false=true from hs) Bool.false_ne_true
 | int i =>
  obtain ⟨t,rfl⟩:=rx
  cases y with
  | non=>cases ry;exact PySem.EqNone.ne_int_none (bA I q (by simp))
  | int j=>obtain ⟨t',rfl⟩:=ry;exact ne_int (bA I q (congrArg not yj))
  | str j=>obtain ⟨t',rfl⟩:=ry;exact PySem.EqMixed.ne_int_str (bA I q (by simp))
  | _=>exact absurd (show false=true from hs) Bool.false_ne_true
 | str i =>
  obtain ⟨t,rfl⟩:=rx
  cases y with
  | non=>cases ry;exact PySem.EqNone.ne_str_none (bA I q (by simp))
  | bl j=>cases ry;exact PySem.EqMixed.ne_str_bool (bA I q (by simp))
  | int j=>obtain ⟨t',rfl⟩:=ry;exact PySem.EqMixed.ne_str_int (bA I q (by simp))
  | str j=>obtain ⟨t',rfl⟩:=ry;exact ne_str (bA I q (congrArg not yi))
  | _=>exact absurd (show false=true from hs) Bool.false_ne_true
 | byt i =>
  obtain ⟨t,rfl⟩:=rx
  cases y with
  | byt j=>obtain ⟨t',rfl⟩:=ry;exact PySem.W.ne_bytes (bA I q (congrArg not yk))
  | _=>exact absurd (show false=true from hs) Bool.false_ne_true
 | _=>cases y <;> exact absurd (show false=true from hs) Bool.false_ne_true
theorem gy:OpR X (compareOp .Lt) (rI0 λi j=>.bl (decide (i < j))):=opB0 λ_ _ _ _ _ _ _ q=>lt_int q
theorem qA:OpR X (compareOp .LtE) (rI0 λi j=>.bl (decide (i<=j))):=opB0 λ_ _ _ _ _ _ _ q=>le_int q
theorem tV:OpR X (compareOp .Gt) (rI0 λi j=>.bl (decide (j < i))):=opB0 λ_ _ _ _ _ _ _ q=>gt_int q
theorem qB:OpR X (compareOp .GtE) (rI0 λi j=>.bl (decide (j<=i))):=opB0 λ_ _ _ _ _ _ _ q=>ge_int q
theorem jR:OpR X (compareOp .Is) (λx y H Q=>y=.non/\Q (.bl (decide (x=.non))) H):=by
 intro pins s σ H x y v u Q I rx ry h
 obtain ⟨rfl,q⟩:=h
 cases ry
 refine is_none_gen (bA I q ?_)
 cases x <;> first
  | (cases rx;rfl)
  | (obtain ⟨t,rfl⟩:=rx;rfl)
theorem aI (b:Expr) {op:CmpOp} (h:op≠.In:=by decide) (h2:op≠.NotIn:=by decide):behindInMarks op b=false:=by
 have e1:(op == CmpOp.In)=false:=by cases op <;> first | rfl | exact absurd rfl h
 have e2:(op == CmpOp.NotIn)=false:=by cases op <;> first | rfl | exact absurd rfl h2
 cases b <;> simp [behindInMarks,e1,e2]
theorem jn {op:CmpOp} {r:R2} (ho:OpR X (compareOp op) r) (ha:PE X a ta) (hb:PE X b tb) (hm:behindInMarks op b=false):PE X (.Compare a [op] [b] pos) (tOp r ta tb):=by
 intro pins s σ H Q I h
 exact wpAny_Compare1 (binT ha hb I h λv u s2 x y H2 I2 rx ry q=>ho pins s2 σ H2 x y v u Q I2 rx ry q) hm
noncomputable def As (t:TE):TT:=fun σ H Q=>t σ H λx H'=>XBl x λk=>Q k H'
theorem aC {op:CmpOp} {r:R2} (ho:OpR X (compareOp op) r) (ha:PE X a ta) (hb:PE X b tb) (hm:behindInMarks op b=false):PT X (.Compare a [op] [b] pos) (As (tOp r ta tb)):=by
 intro pins s σ H Q I h
 refine wpAny_isTrue_Compare1 (thn (ha pins s σ H _ I h) λv s1 ⟨x,H1,I1,r1,q1⟩=>thn (hb pins s1 σ H1 _ I1 q1) λu s2 ⟨y,H2,I2,r2,q2⟩ =>
  thn (ho pins s2 σ H2 x y v u _ I2 r1 r2 q2) λc s3 ⟨z,H3,I3,r3,k,e,q3⟩=>?_) hm
 subst e
 cases r3
 exact wpAny_truthy_bool ⟨H3,I3,q3⟩
noncomputable def Aw (r r':R2) (ta tb tc:TE):TE:=fun σ H Q=>ta σ H λx H1=>tb σ H1 λy H2=>r x y H2 λz H3=>∃ k,z=.bl k/\
 (if k=true then tc σ H3 λw' H4=>r' y w' H4 Q else Q (.bl false) H3)
theorem tR {op op':CmpOp} {r r':R2} (ho:OpR X (compareOp op) r) (ho':OpR X (compareOp op') r') (ha:PE X a ta) (hb:PE X b tb) (hc:PE X c tc)
  (hm:lastMarks [op,op'] [b,c]=false:=by with_unfolding_all rfl):PT X (.Compare a [op,op'] [b,c] pos) (As (Aw r r' ta tb tc)):=by
 intro pins s σ H Q I h
 refine isTrue_chain (thn (ha pins s σ H _ I h) λv s1 ⟨x,H1,I1,r1,q1⟩=>test_link (thn (hb pins s1 σ H1 _ I1 q1) λu s2 ⟨y,H2,I2,r2,q2⟩ =>
  thn (ho pins s2 σ H2 x y v u _ I2 r1 r2 q2) λd s3 ⟨z,H3,I3,r3,k,e,q3⟩=>?_)) hm
 subst e
 cases r3
 refine wpAny_truthy_bool ?_
 cases k with
 | false =>
  obtain ⟨k',e',q'⟩:=q3
  cases e'
  exact ite_ff ⟨H3,I3,q'⟩
 | true =>
  refine ite_tt (test_last (thn (hc pins s3 σ H3 _ I3 q3) λw' s4 zz=>?_))
  obtain ⟨z',H4,I4,r4,q4⟩:=zz
  refine thn (ho' pins s4 σ H4 y z' u w' _ I4 r2 r4 q4) λd' s5 zz=>?_
  obtain ⟨z2,H5,I5,r5,k2,e2,q5⟩:=zz
  subst e2
  cases r5
  exact wpAny_truthy_bool ⟨H5,I5,q5⟩
noncomputable def TruV (K:PySem.W.Frag) (x:V) (H:Hp) (k:Bool):Prop :=
 match x with
 | .non=>k=false
 | .bl b=>k=b
 | .int i=>k=(i != 0)
 | .str y=>y.length<=sizeLine/\k=((y.length:Int) != 0)
 | .byt y=>y.size<=sizeLine/\k=((y.size:Int) != 0)
 | .ref p=>(∃ xs,SqL K H p xs/\k = !xs.isEmpty)\/(∃ xs,SqT K H p xs/\k = !xs.isEmpty)\/∃ kvs,H p=some (.dK kvs)/\k = !kvs.isEmpty
 | _=>False
theorem wg {κ:Type} {kvs:List (κ×V)} {vs:List (κ×Value)} (r:KV kvs vs):(!vs.isEmpty) = !kvs.isEmpty:=by
 cases r <;> rfl
theorem pd {xs:List V} {its:List Value} (r:Vals xs its):(!its.toArray.isEmpty) = !xs.isEmpty:=by
 cases r <;> simp
theorem rW:(sizeLine:Nat) < 2 ^ 63:=by rw [sizeLine_eq];decide
theorem tru_ok:TruR X (λx H Q=>∃ k,TruV X.K x H k/\Q k H):=by
 intro pins s σ H x v Q I rx h
 obtain ⟨k,e,q⟩:=h
 have hl:=rW
 have hs:sizeLine=16777216:=sizeLine_eq
 cases x with
 | non =>
  cases rx
  have e':k=false:=e
  subst e'
  exact truthy_none ⟨H,I,q⟩
 | bl b =>
  cases rx
  have e':k=b:=e
  subst e'
  exact wpAny_truthy_bool ⟨H,I,q⟩
 | int i =>
  obtain ⟨t,rfl⟩:=rx
  have e':k=(i != 0):=e
  subst e'
  exact PySem.P.truthy_int ⟨H,I,q⟩
 | str y =>
  obtain ⟨t,rfl⟩:=rx
  obtain ⟨hy,e'⟩:y.length<=sizeLine/\k=((y.length:Int) != 0):=e
  subst e'
  exact PySem.P.truthy_str (by omega) ⟨H,I.tok _,q⟩
 | byt y =>
  obtain ⟨t,rfl⟩:=rx
  obtain ⟨hy,e'⟩:y.size<=sizeLine/\k=((y.size:Int) != 0):=e
  subst e'
  exact PySem.W.truthy_bytes (by omega) ⟨H,I.tok _,q⟩
 | ref p =>
  cases rx
  have e':(∃ xs,SqL X.K H p xs/\k = !xs.isEmpty)\/(∃ xs,SqT X.K H p xs/\k = !xs.isEmpty)\/∃ kvs,H p=some (.dK kvs)/\k = !kvs.isEmpty:=e
  rcases e' with ⟨xs,hx,e'⟩ | ⟨xs,hx,e'⟩ | ⟨kvs,hx,e'⟩
  ·subst e'
   obtain ⟨its,r,pl,hz⟩:=I.list hx
   have hlen:=r.length
   exact wpAny_truthy_list pl.isList (by simp only [List.size_toArray];omega) ⟨H,I.tok _,by rw [pd r];exact q⟩
  ·subst e'
   obtain ⟨its,r,pl,hz⟩:=I.tuple hx
   have hlen:=r.length
   exact truthy_tuple pl (by simp only [List.size_toArray];omega) ⟨H,I.tok _,by rw [pd r];exact q⟩
  ·subst e'
   obtain ⟨hz,hS,vs,r,m⟩:kvs.length<=sizeLine/\(p == sysModules)=false/\∃ vs,KV kvs vs/\s.heap.DictOf (cW X.prog X.w) p vs:=I.hok p _ hx
   have hlen:kvs.length=vs.length:=Paired.length r
   exact wpAny_truthy_dict hS m (by omega) ⟨H,I.tok _,by rw [wg r];exact q⟩
 | _=>exact (show False from e).elim
theorem tQ (ha:PE X a ta) (he:∀ whole,isTrue a X.env whole=(do let v <- whole;standAt a.pos;holding [v] (truthy v))) :
  PT X a (fun σ H Q=>ta σ H λx H'=>∃ k,TruV X.K x H' k/\Q k H'):=by
 intro pins s σ H Q I h
 refine isTrue_plain (thn (ha pins s σ H _ I h) λv s1 zz=>?_) (he _)
 obtain ⟨x,H1,I1,r1,q1⟩:=zz
 exact tru_ok pins s1 σ H1 x v Q I1 r1 q1
theorem vals1 {x:V} {us:List Value} (r:Vals [x] us):∃ u,us=[u]/\RelV x u:=by
 cases r with
 | cons r1 r2=>cases r2;exact ⟨_,rfl,r1⟩
theorem vals2 {x y:V} {us:List Value} (r:Vals [x,y] us):∃ u w',us=[u,w']/\RelV x u/\RelV y w':=by
 cases r with
 | cons r1 r2 =>
  cases r2 with
  | cons r3 r4=>cases r4;exact ⟨_,_,rfl,r1,r3⟩
theorem gj:gK X (.builtin "abs") (λxs H Q=>∃ i,xs=[.int i]/\Q (.int (if i < 0 then -i else i)) H):=by
 intro pins s σ H xs us Q I r h
 obtain ⟨i,rfl,q⟩:=h
 obtain ⟨u,rfl,t,rfl⟩:=vals1 r
 exact call_abs_int λu tk=>⟨.int (if i < 0 then -i else i),H,I.tok _,⟨_,rfl⟩,q⟩
theorem zL (hc:X.calm=true):gK X (.builtin "max") (λxs H Q=>∃ i j,xs=[.int i,.int j]/\Q (.int (if j > i then j else i)) H):=by
 intro pins s σ H xs us Q I r h
 obtain ⟨i,j,rfl,q⟩:=h
 obtain ⟨u,w',rfl,⟨t,rfl⟩,⟨t',rfl⟩⟩:=vals2 r
 refine max_two_ints (I.ok.hd hc) λh' tk k=>⟨_,H,I.kept k,?_,q⟩
 by_cases hj:j > i
 ·rw [if_pos hj,if_pos hj];exact ⟨_,rfl⟩
 ·rw [if_neg hj,if_neg hj];exact ⟨_,rfl⟩
theorem zK (hc:X.calm=true):gK X (.builtin "min") (λxs H Q=>∃ i j,xs=[.int i,.int j]/\Q (.int (if j < i then j else i)) H):=by
 intro pins s σ H xs us Q I r h
 obtain ⟨i,j,rfl,q⟩:=h
 obtain ⟨u,w',rfl,⟨t,rfl⟩,⟨t',rfl⟩⟩:=vals2 r
 refine min_two_ints (I.ok.hd hc) λh' tk k=>⟨_,H,I.kept k,?_,q⟩
 by_cases hj:j < i
 ·rw [if_pos hj,if_pos hj];exact ⟨_,rfl⟩
 ·rw [if_neg hj,if_neg hj];exact ⟨_,rfl⟩
theorem jv:gK X (.type "int") (λxs H Q=>(∃ i,xs=[.int i]/\Q (.int i) H)\/∃ k,xs=[.bl k]/\Q (.int (if k then 1 else 0)) H):=by
 intro pins s σ H xs us Q I r h
 rcases h with ⟨i,rfl,q⟩ | ⟨k,rfl,q⟩
 ·obtain ⟨u,rfl,t,rfl⟩:=vals1 r
  exact call_int_int ⟨.int i,H,I,⟨_,rfl⟩,q⟩
 ·obtain ⟨u,rfl,r1⟩:=vals1 r
  cases r1
  exact call_int_bool ⟨.int (if k then 1 else 0),H,I.tok _,⟨_,rfl⟩,q⟩
noncomputable def LenV (K:PySem.W.Frag) (x:V) (H:Hp) (n:Nat):Prop :=
 match x with
 | .str y=>y.length<=sizeLine/\n=y.length
 | .byt y=>y.size<=sizeLine/\n=y.size
 | .ref p=>(∃ xs,SqL K H p xs/\n=xs.length)\/∃ xs,SqT K H p xs/\n=xs.length
 | _=>False
theorem fG:gK X (.builtin "len") (λxs H Q=>∃ x n,xs=[x]/\LenV X.K x H n/\Q (.int n) H):=by
 intro pins s σ H xs us Q I r h
 obtain ⟨x,n,rfl,e,q⟩:=h
 obtain ⟨u,rfl,rx⟩:=vals1 r
 have hl:=rW
 have hs:sizeLine=16777216:=sizeLine_eq
 cases x with
 | str y =>
  obtain ⟨t,rfl⟩:=rx
  obtain ⟨hy,e'⟩:y.length<=sizeLine/\n=y.length:=e
  subst e'
  exact len_str (by omega) ⟨.int _,H,I.tok _,⟨_,rfl⟩,q⟩
 | byt y =>
  obtain ⟨t,rfl⟩:=rx
  obtain ⟨hy,e'⟩:y.size<=sizeLine/\n=y.size:=e
  subst e'
  exact PySem.W.len_bytes (by omega) ⟨.int _,H,I.tok _,⟨_,rfl⟩,q⟩
 | ref p =>
  cases rx
  have e':(∃ xs,SqL X.K H p xs/\n=xs.length)\/∃ xs,SqT X.K H p xs/\n=xs.length:=e
  rcases e' with ⟨xs,hx,e'⟩ | ⟨xs,hx,e'⟩
  ·subst e'
   obtain ⟨its,r',pl,hz⟩:=I.list hx
   have hlen:=r'.length
   exact Calls.call_len_list pl.isList (by simp only [List.size_toArray];omega) ⟨.int xs.length,H,I.tok _,⟨_,by simp only [List.size_toArray];rw [hlen]⟩,q⟩
  ·subst e'
   obtain ⟨its,r',pl,hz⟩:=I.tuple hx
   have hlen:=r'.length
   exact len_tuple pl (by simp only [List.size_toArray];omega) ⟨.int xs.length,H,I.tok _,⟨_,by simp only [List.size_toArray];rw [hlen]⟩,q⟩
 | _=>exact (show False from e).elim
end
structure wK (h:Heap) (x dx C:Addr) (mA:Str->Option Value):Prop where
 obj:h.get? x=some (PySem.W.instObj C dx)
 ns:h.Ns1 dx mA
 ne:dx≠x
theorem zq {h:Heap} {dx:Addr} {mA:Str->Option Value} (n:h.Ns1 dx mA):∃ od,h.get? dx=some od/\∀ name,PySem.W.lookIn name od=some (mA name):=by
 obtain ⟨o,es,ep,ho,hd,hk,_,hm⟩:=n
 refine ⟨o,ho,λname=>?_⟩
 have e:=hm name
 unfold nsFind findBy at e
 rw [<- Array.find?_toList] at e
 unfold PySem.W.lookIn
 rw [hd]
 dsimp only
 split
 ·rename_i y q
  rw [q] at e
  exact congrArg some e
 ·rename_i q
  rw [q] at e
  have a:es.toList.any (·.refKey)=false:=by
   rw [List.any_eq_false]
   intro y hy
   obtain ⟨z,t,hkey⟩:=hk y (Array.mem_toList_iff.mp hy)
   simp [DictEntry.refKey,hkey]
  have a':¬es.toList.any (·.refKey)=true:=by rw [a];exact Bool.false_ne_true
  rw [if_neg a']
  exact congrArg some e
theorem wK.look {h:Heap} {x dx C:Addr} {mA:Str->Option Value} (I:wK h x dx C mA):∃ od,PySem.W.InstAt h x (PySem.W.instObj C dx) C (some od)/\∀ name,PySem.W.lookIn name od=some (mA name) :=
 let ⟨od,ho,hl⟩:=zq I.ns
 ⟨od,⟨I.obj,rfl,rfl,ho⟩,hl⟩
section
variable {prog:Program} {w:World} {A:Around} {E:Value->Shared->Prop} {s:Shared} {K:PySem.W.Frag} {x dx C f:Addr} {mA:Str->Option Value} {name:Str} {v:Value}
theorem get_map {expr:Bool} {Q:Value->Shared->Prop} (X:K.In s.heap) (I:wK s.heap x dx C mA) (hg:PySem.W.plainGet K C name=true) (hh:PySem.W.hasDictIn K C=true)
  (ha:PySem.W.findIn K (.ref C) name=some none) (hv:mA name=some v) (hv':PySem.W.handedIn v=true) (h:Q v {s with toks:=s.toks+1}) :
  wpAny (model prog w) A (getAttr (.ref x) name expr) Q E s:=by
 obtain ⟨od,J,hl⟩:=I.look
 exact PySem.W.get_value X J (PySem.W.plainGet_of hg).1 (PySem.W.findObj_own hh ha rfl (by rw [hl,hv])) hv' h
theorem CI {pl:Sem Bool} {Q:Value×List Value->Shared->Prop} (X:K.In s.heap) (I:wK s.heap x dx C mA) (hg:PySem.W.plainGet K C name=true)
  (hf:PySem.W.findIn K (.ref C) name=some (some (.ref f))) (ht:PySem.W.isFn K (.ref f)=true) (hv:mA name=none) (h:Q (.ref f,[.ref x]) s) :
  wpAny (model prog w) A (getMethod (.ref x) name pl) Q E s:=by
 obtain ⟨od,J,hl⟩:=I.look
 exact PySem.W.method_fn X J (PySem.W.plainGet_of hg).1 (PySem.W.plainGet_of hg).2 hf (beq_iff_eq.mp ht) (by show (PySem.W.lookIn name od).map (·.isSome)=some false;rw [hl,hv];rfl) h
theorem set_map {ns:List Str} {Q:Unit->Shared->Prop} (X:K.In s.heap) (I:wK s.heap x dx C mA)
  (hs:PySem.W.findIn K (.ref C) "__setattr__"=some (some (.builtin "object.__setattr__"))) (hp:PySem.W.plainOver K C=true) (ht:PySem.W.takerIn K C name=some none) (hh:PySem.W.hasDictIn K C=true)
  (hw:PySem.Within mA ns) (hsz:ns.length<=sizeLine)
  (h:∀ h',wK h' x dx C (λy=>if y=name then some v else mA y)->Heap.SameBut dx s.heap h'->Q () {s with heap:=h',toks:=s.toks+2}) :
  wpAny (model prog w) A (setAttr (.ref x) name v) Q E s:=by
 obtain ⟨od,J,hl⟩:=I.look
 refine PySem.W.set_plain X J hs (PySem.W.osa_open (s:={s with toks:=s.toks+1}) (r:=none) X J hp ht λb=>?_)
 obtain ⟨cd,hc,hd'⟩:=PySem.W.any_some hh
 have hx:s.heap.get? x=some ⟨.ref C,some dx,.plain,#[]⟩:=I.obj
 refine wpAny_bind (wpAny_pure (wpAny_bind (wpAny_bind (wpAny_loadPart hx (wpAny_bind (PySem.W.Looks.here (s:={s with toks:=s.toks+1}) (PySem.W.looks_clsIn X hc) ?_))))))
 rw [hd']
 refine wpAny_pure (a:=some dx) (wpAny_bind (wpAny_pure (wpAny_bind ?_)))
 refine wpAny_nsSet1 (s:={s with toks:=s.toks+1}) I.ns λh' hn2 hs2=>?_
 obtain ⟨oD,esD,epD,hoD,hdD,hcD⟩:=hn2.count (PySem.Within.cons name v hw)
 refine wpAny_bind (wpAny_lookBehind hoD (by rw [hdD];exact pastItsLine_dict (Nat.le_trans hcD (by rw [List.length_cons];omega))) ?_)
 exact wpAny_pure (h _ ⟨(hs2.2 _ (Ne.symm I.ne)).trans I.obj,hn2,I.ne⟩ hs2)
theorem Cm {R:Result->Shared->Prop} {vs:List Value} {kw:List (Str×Value)} (X:K.In s.heap) (hm:PySem.W.makesIn K C=true)
  (hi:PySem.W.findIn K (.ref C) "__init__"=some (some (.ref f))) (hf:PySem.W.typeIn K (.ref f)=some (.type "function"))
  (h:codeAny (model prog w) (A.under (.builtin "type.__call__" ⟨.ref C::vs,kw⟩)) (.call (.ref f) ⟨.ref (s.heap.objs.size+1)::vs,kw⟩) (PySem.W.InitBack (s.heap.objs.size+1) R)
   {s with heap:=(s.heap.push PySem.W.emptyDict).push (PySem.W.instObj C s.heap.objs.size) }) :
  codeAny (model prog w) A (.call (.ref C) ⟨vs,kw⟩) R s:=by
 obtain ⟨hh,g,d,t,os⟩:=s
 exact PySem.W.make_core (PySem.W.makes_of X hm) (PySem.W.looks_findIn X hi) (λself=>PySem.W.bind_fn X self hf) (.inl rfl) h
theorem zo {R:Result->Shared->Prop} (X:K.In s.heap) (hm:PySem.W.makesIn K C=true)
  (hi:PySem.W.findIn K (.ref C) "__init__"=some (some (.builtin "object.__init__")))
  (hb:∀ self,PySem.W.Looks (model prog w) s.heap (bindSpecial (.builtin "object.__init__") self) (.builtin "object.__init__",[self]))
  (h:codeAny (model prog w) (A.under (.builtin "type.__call__" ⟨[.ref C],[]⟩)) (.call (.builtin "object.__init__") ⟨[.ref (s.heap.objs.size+1)],[]⟩) (PySem.W.InitBack (s.heap.objs.size+1) R)
   {s with heap:=(s.heap.push PySem.W.emptyDict).push (PySem.W.instObj C s.heap.objs.size) }) :
  codeAny (model prog w) A (.call (.ref C) ⟨[],[]⟩) R s:=by
 obtain ⟨hh,g,d,t,os⟩:=s
 exact PySem.W.make_core (PySem.W.makes_of X hm) (PySem.W.looks_findIn X hi) hb (.inr ⟨rfl,rfl⟩) h
end
noncomputable def iu (f:Str) (v:V):List (Str×V)->List (Str×V)
 | []=>[(f,v)]
 | (g,x)::r=>if g=f then (g,v)::r else (g,x)::iu f v r
theorem mP (f g:Str) (v:V):∀ fs:List (Str×V),(iu f v fs).lookup g=if g=f then some v else fs.lookup g
 | []=>by
  show List.lookup g [(f,v)]=_
  by_cases h:g=f
  ·have hb:(g == f)=true:=beq_iff_eq.mpr h
   simp only [List.lookup,hb,if_pos h]
  ·have hb:(g == f)=false:=beq_eq_false_iff_ne.mpr h
   simp only [List.lookup,hb,if_neg h]
 | (k,x)::r=>by
  have ih:=mP f g v r
  rw [show iu f v ((k,x)::r)=(if k=f then (k,v)::r else (k,x)::iu f v r) from rfl]
  by_cases hk:k=f
  ·rw [if_pos hk]
   by_cases h:g=k
   ·have hb:(g == k)=true:=beq_iff_eq.mpr h
    simp only [List.lookup,hb,if_pos (h.trans hk)]
   ·have hb:(g == k)=false:=beq_eq_false_iff_ne.mpr h
    simp only [List.lookup,hb,if_neg (λe:g=f=>h (e.trans hk.symm))]
  ·rw [if_neg hk]
   by_cases h:g=k
   ·have hb:(g == k)=true:=beq_iff_eq.mpr h
    simp only [List.lookup,hb,if_neg (λe:g=f=>hk (h.symm.trans e))]
   ·have hb:(g == k)=false:=beq_eq_false_iff_ne.mpr h
    simp only [List.lookup,hb]
    exact ih
theorem mh (f:Str) (v:V):∀ fs:List (Str×V),f∈(iu f v fs).map (·.1)/\∀ g,g∈fs.map (·.1)->g∈(iu f v fs).map (·.1)
 | []=>⟨by simp [iu],λg h=>by simp at h⟩
 | (k,x)::r=>by
  obtain ⟨i1,i2⟩:=mh f v r
  rw [show iu f v ((k,x)::r)=(if k=f then (k,v)::r else (k,x)::iu f v r) from rfl]
  by_cases hk:k=f
  ·rw [if_pos hk]
   subst hk
   exact ⟨by simp,λg h=>by simpa using h⟩
  ·rw [if_neg hk]
   refine ⟨?_,λg h=>?_⟩
   ·rw [List.map_cons]
    exact List.mem_cons_of_mem _ i1
   ·rw [List.map_cons] at h ⊢
    rcases List.mem_cons.mp h with e | e
    ·exact List.mem_cons.mpr (.inl e)
    ·exact List.mem_cons_of_mem _ (i2 g e)
theorem mS (f:Str) (v:V):∀ fs:List (Str×V),(iu f v fs).length<=fs.length+1
 | []=>by simp [iu]
 | (k,x)::r=>by
  have ih:=mS f v r
  rw [show iu f v ((k,x)::r)=(if k=f then (k,v)::r else (k,x)::iu f v r) from rfl]
  by_cases hk:k=f
  ·rw [if_pos hk,List.length_cons,List.length_cons];omega
  ·rw [if_neg hk,List.length_cons,List.length_cons];omega
theorem jB.some_of {v:V} {o:Option Value} (r:jB (some v) o):∃ u,o=some u/\RelV v u:=by
 cases o with
 | none=>exact (show False from r).elim
 | some u=>exact ⟨u,rfl,r⟩
theorem jB.none_of {o:Option Value} (r:jB none o):o=none:=by
 cases o with
 | none=>rfl
 | some u=>exact (show False from r).elim
theorem zB {v:V} {u:Value} (r:RelV v u):PySem.W.handedIn u=true:=by
 cases v with
 | non=>cases (show u=Value.none from r);rfl
 | bl b=>cases (show u=Value.bool b from r);rfl
 | int i=>obtain ⟨t,e⟩:=(show ∃ t,u=Value.int i t from r);cases e;rfl
 | str x=>obtain ⟨t,e⟩:=(show ∃ t,u=Value.str x t from r);cases e;rfl
 | byt b=>obtain ⟨t,e⟩:=(show ∃ t,u=Value.bytes b t from r);cases e;rfl
 | flt b=>obtain ⟨t,e⟩:=(show ∃ t,u=Value.float b t from r);cases e;rfl
 | ref a=>cases (show u=Value.ref a from r);rfl
 | ty n=>cases (show u=Value.type n from r);rfl
section
variable {P:Program} {w:World} {H H':Hp} {h h':Heap} {a C dx:Addr} {fs fs':List (Str×V)}
theorem nM (hok:HOk P w H h) (e:H a=some (.ins C dx fs)):∃ mA,wK h a dx C mA/\(∀ f,jB (fs.lookup f) (mA f))/\PySem.Within mA (fs.map (·.1))/\fs.length<=1000/\H dx=some (.own a):=by
 obtain ⟨d,z,ne,ob,mA,n,r,q⟩:=(show cy P w H h a (.ins C dx fs) from hok a _ e)
 exact ⟨mA,⟨ob,n,ne⟩,r,q,z,d⟩
end
structure Cls (K:PySem.W.Frag) (C:Addr):Prop where
 pg:PySem.W.plainGet K C Str.empty=true
 hd:PySem.W.hasDictIn K C=true
 po:PySem.W.plainOver K C=true
 sa:PySem.W.findIn K (.ref C) "__setattr__"=some (some (.builtin "object.__setattr__"))
theorem Cls.get {K:PySem.W.Frag} {C:Addr} (c:Cls K C) (f:Str):PySem.W.plainGet K C f=true:=c.pg
noncomputable def eR (K:PySem.W.Frag) (C:Addr) (f:Str):Prop:=PySem.W.findIn K (.ref C) f=some none
theorem eR.taker {K:PySem.W.Frag} {C:Addr} {f:Str} (n:eR K C f):PySem.W.takerIn K C f=some none:=by
 unfold PySem.W.takerIn
 rw [show PySem.W.findIn K (.ref C) f=some none from n]
 rfl
structure Meth (K:PySem.W.Frag) (C:Addr) (m:Str) (f:Addr):Prop where
 at_:PySem.W.findIn K (.ref C) m=some (some (.ref f))
 fn:PySem.W.isFn K (.ref f)=true
 kp:PySem.W.keepIn K (.ref f)=true
section
variable {X:Cx} {pins:List (Addr×Obj)} {σ:St} {H:Hp} {s:Shared} {a C dx:Addr} {fs:List (Str×V)} {f:Str} {v:V} {A:Around} {E:Value->Shared->Prop}
theorem wm {b:Bool} {Q:Value->Shared->Prop} (I:Inv X pins σ H s) (e:H a=some (.ins C dx fs)) (c:Cls X.K C) (n:eR X.K C f) (l:fs.lookup f=some v)
  (h:∀ u s',Inv X pins σ H s'->RelV v u->Q u s'):wpAny (model X.prog X.w) A (getAttr (.ref a) f b) Q E s:=by
 obtain ⟨mA,O,r,_,_,_⟩:=nM I.hok e
 obtain ⟨u,hu,ru⟩:=jB.some_of (v:=v) (o:=mA f) (by rw [<- l];exact r f)
 exact get_map I.kIn O (c.get f) c.hd n hu (zB ru) (h u _ (I.tok _) ru)
theorem wk {m:Str} {g:Addr} {pl:Sem Bool} {Q:Value×List Value->Shared->Prop} (I:Inv X pins σ H s) (e:H a=some (.ins C dx fs)) (c:Cls X.K C) (k:Meth X.K C m g) (l:fs.lookup m=none)
  (h:Q (.ref g,[.ref a]) s):wpAny (model X.prog X.w) A (getMethod (.ref a) m pl) Q E s:=by
 obtain ⟨mA,O,r,_,_,_⟩:=nM I.hok e
 have hn:mA m=none:=jB.none_of (by rw [<- l];exact r m)
 exact CI I.kIn O (c.get m) k.at_ k.fn hn h
theorem vJ {y:V} {u:Value} {Q:Unit->Shared->Prop} (I:Inv X pins σ H s) (e:H a=some (.ins C dx fs)) (c:Cls X.K C) (n:eR X.K C f) (hl:fs.length < 1000) (ry:RelV y u)
  (h:∀ s',Inv X pins σ (upd H a (.ins C dx (iu f y fs))) s'->Q () s'):wpAny (model X.prog X.w) A (setAttr (.ref a) f u) Q E s:=by
 obtain ⟨mA,O,r,wi,_,ho⟩:=nM I.hok e
 have hz:(fs.map (·.1)).length<=sizeLine:=by rw [List.length_map,sizeLine_eq];omega
 refine set_map I.kIn O c.sa c.po n.taker c.hd wi hz λh' O' sb=>h _ ?_
 have hd:∃ o,h'.get? dx=some o:=let ⟨o,_,_,e',_⟩:=O'.ns;⟨o,e'⟩
 refine I.write (x:=a) (e:=dx) (by rw [e];exact True.intro) (.inr ho) (λb q hb z=>(sb.2 b hb).trans z) hd ?_
 refine ⟨by rw [au O.ne];exact ho,?_,O.ne,O'.obj,_,O'.ns,λg=>?_,λg hg=>?_⟩
 ·have:=mS f y fs;omega
 ·show jB ((iu f y fs).lookup g) (if g=f then some u else mA g)
  rw [mP]
  by_cases q:g=f
  ·rw [if_pos q,if_pos q];exact ry
  ·rw [if_neg q,if_neg q];exact r g
 ·by_cases q:g=f
  ·rw [q];exact (mh f y fs).1
  ·refine (mh f y fs).2 g (wi g λz=>hg ?_)
   show (if g=f then some u else mA g)=none
   rw [if_neg q];exact z
theorem Inv.made (I:Inv X pins σ H s):Inv X pins σ (upd (upd H s.heap.objs.size (.own (s.heap.objs.size+1))) (s.heap.objs.size+1) (.ins C s.heap.objs.size []))
  {s with heap:=(s.heap.push PySem.W.emptyDict).push (PySem.W.instObj C s.heap.objs.size) }:=by
 have e1:(s.heap.push PySem.W.emptyDict).get? s.heap.objs.size=some PySem.W.emptyDict:=Heap.get?_push_size s.heap rfl
 have e2:((s.heap.push PySem.W.emptyDict).push (PySem.W.instObj C s.heap.objs.size)).get? (s.heap.objs.size+1)=some (PySem.W.instObj C s.heap.objs.size):=by
  have:=Heap.get?_push_size (s.heap.push PySem.W.emptyDict) (o:=PySem.W.instObj C s.heap.objs.size) rfl
  rwa [Heap.size_push] at this
 have e3:(s.heap.push PySem.W.emptyDict).Ns s.heap.objs.size (λ_=>none):=⟨PySem.W.emptyDict,#[],_,e1,rfl,(λe he=>absurd he (by simp)),λ_=>rfl⟩
 have I1:=I.laid (a:=s.heap.objs.size) (o:=.own (s.heap.objs.size+1)) (h':=s.heap.push PySem.W.emptyDict) (t':=s.toks) (λb u q=>Heap.get?_push_of_some _ q) (Nat.le_refl _) ⟨_,e1⟩
 refine I1.laid (a:=s.heap.objs.size+1) (o:=.ins C s.heap.objs.size []) (t':=s.toks) (λb u q=>Heap.get?_push_of_some _ q) (Nat.le_of_eq (Heap.size_push _ _)) ?_
 have ne:s.heap.objs.size≠s.heap.objs.size+1:=Nat.ne_of_lt (Nat.lt_succ_self _)
 refine ⟨by rw [au ne,ae],Nat.zero_le _,ne,e2,λ_=>none,(Heap.Ns1.of_empty e3).at λo q=>Heap.get?_push_of_some _ q,λ_=>True.intro,λy hy=>absurd rfl hy⟩
theorem attr_of {prog:Program} {w:World} {env:Env} {e:Expr} {f:Str} {pos:Pos} {s:Shared} {Q:Value->Shared->Prop} (hb:attributeBase e f env (eval e env)=eval e env)
  (h:wpAny (model prog w) A (eval e env) (λo s₁=>wpAny (model prog w) A (getAttr o f true) Q E s₁) E s):wpAny (model prog w) A (eval (.Attribute e f pos) env) Q E s :=
 Attribute_any_ h (by rw [arm_eval_Attribute,hb])
end
noncomputable def tFld (K:PySem.W.Frag) (ta:TE) (f:Str):TE:=fun σ H Q=>ta σ H λx H1=>∃ a C dx fs v,x=.ref a/\H1 a=some (.ins C dx fs)/\Cls K C/\eR K C f/\fs.lookup f=some v/\Q v H1
noncomputable def sFld (K:PySem.W.Frag) (ta tv:TE) (f:Str):TS:=λD σ H=>tv σ H λy H1=>ta σ H1 λx H2=>∃ a C dx fs,x=.ref a/\H2 a=some (.ins C dx fs)/\Cls K C/\eR K C f/\fs.length < 1000/\
 D.nx σ (upd H2 a (.ins C dx (iu f y fs)))
section
variable {X:Cx} {o e value:Expr} {f:Str} {pos pos' tpos:Pos} {ta tv:TE}
theorem ja (he:PE X e ta) (hb:attributeBase e f X.env (eval e X.env)=eval e X.env):PE X (.Attribute e f pos) (tFld X.K ta f):=by
 intro pins s σ H Q I h
 refine attr_of hb (thn (he pins s σ H _ I h) λu s1 zz=>?_)
 obtain ⟨x,H1,I1,rx,a,C,dx,fs,v,ex,ea,c,n,l,q⟩:=zz
 subst ex
 obtain rfl:u=Value.ref a:=rx
 exact wm I1 ea c n l λu' s2 I2 ru=>⟨v,H1,I2,ru,q⟩
theorem rH (ha:PE X o ta) (hv:PE X value tv) (hs:swapsWith value (some (.Attribute o f pos')) pos.line X.env=pure false):PS X (.Assign [.Attribute o f pos'] value pos) (sFld X.K ta tv f):=by
 intro pins s σ H D I h
 refine plainObj_wpAny_Assign_Attribute (thn (hv pins s σ H _ I h) λu s1 zz=>?_) hs
 obtain ⟨y,H1,I1,ry,q⟩:=zz
 refine thn (ha pins s1 σ H1 _ I1 q) λov s2 zz=>?_
 obtain ⟨x,H2,I2,rx,a,C,dx,fs,ex,ea,c,n,l,q2⟩:=zz
 subst ex
 obtain rfl:ov=Value.ref a:=rx
 exact vJ I2 ea c n l ry λs3 I3=>⟨σ,_,I3,q2⟩
end
section
variable {X:Cx} {pins:List (Addr×Obj)} {σ:St} {H:Hp} {s:Shared} {A:Around} {E:Value->Shared->Prop} {Q:Value->Shared->Prop} {c:Value} {b:Bool}
inductive jz (K:PySem.W.Frag) (H:Hp):V->Value->Prop where
 | non:jz K H .non (.type "NoneType")
 | bl (x:Bool):jz K H (.bl x) (.type "bool")
 | int (i:Int):jz K H (.int i) (.type "int")
 | str (x:Str):jz K H (.str x) (.type "str")
 | flt (x:UInt64):jz K H (.flt x) (.type "float")
 | lst {a:Addr} {xs:List V} (e:H a=some (.lst xs)):jz K H (.ref a) (.type "list")
 | frz {a:Addr} {o:Obj} {xs:List V} (e:H a=some (.frz o (.lst xs))):jz K H (.ref a) (.type "list")
 | tup {a:Addr} {xs:List V} (e:H a=some (.tup xs)):jz K H (.ref a) (.type "tuple")
 | dK {a:Addr} {kvs:List (Key×V)} (e:H a=some (.dK kvs)):jz K H (.ref a) (.type "dict")
 | dT {a:Addr} {kvs:List (List Key×V)} (e:H a=some (.dT kvs)):jz K H (.ref a) (.type "dict")
 | ins {a C dx:Addr} {fs:List (Str×V)} (e:H a=some (.ins C dx fs)) (cl:Cls K C) (ha:PySem.W.findIn K (.ref C) "__class__"=some (some (.builtin "object.__class__")))
   (hn:PySem.W.specialIn K (.builtin "object.__class__") "__get__"=some (some (.builtin "getset_descriptor.__get__"))) (htk:PySem.W.takesIn K (.builtin "object.__class__")=some true)
   (hm:PySem.W.mroIn K C (.type "object")=some true):jz K H (.ref a) (.ref C)
theorem zv {x:V} {u t:Value} (I:Inv X pins σ H s) (rx:RelV x u) (ty:jz X.K H x t) (e:PySem.W.kitOne X.K t c=some b) (h:∀ tk,Q (.bool b) {s with toks:=tk}) :
  wpAny (model X.prog X.w) A (call (.builtin "isinstance") [u,c]) Q E s:=by
 cases ty with
 | non=>cases (show u=Value.none from rx);exact PySem.W.kia_one PySem.W.kitx_none I.kIn True.intro e (λz=>nomatch z) h
 | bl y=>cases (show u=Value.bool y from rx);exact PySem.W.kia_one PySem.W.kitx_bool I.kIn True.intro e (λz=>nomatch z) h
 | int i=>obtain ⟨t,q⟩:=(show ∃ t,u=Value.int i t from rx);cases q;exact PySem.W.kia_one PySem.W.kitx_int I.kIn True.intro e (λz=>nomatch z) h
 | str y=>obtain ⟨t,q⟩:=(show ∃ t,u=Value.str y t from rx);cases q;exact PySem.W.kia_one PySem.W.kitx_str I.kIn True.intro e (λz=>nomatch z) h
 | flt y=>obtain ⟨t,q⟩:=(show ∃ t,u=Value.float y t from rx);cases q;exact PySem.W.kia_one PySem.W.kitx_float I.kIn True.intro e (λz=>nomatch z) h
 | @lst a xs ea =>
  cases (show u=Value.ref a from rx)
  obtain ⟨_,_,n,_,h1⟩:=(show cy X.prog X.w H s.heap a (.lst xs) from I.hok a _ ea)
  exact PySem.W.kia_one PySem.W.kitx_list I.kIn ⟨_,h1,rfl⟩ e (λz=>nomatch z) h
 | @frz a ob xs ea =>
  cases (show u=Value.ref a from rx)
  obtain ⟨_,_,_,n,_,h1⟩:=(show cy X.prog X.w H s.heap a (.frz ob (.lst xs)) from I.hok a _ ea)
  exact PySem.W.kia_one PySem.W.kitx_list I.kIn ⟨_,h1,rfl⟩ e (λz=>nomatch z) h
 | @tup a xs ea =>
  cases (show u=Value.ref a from rx)
  obtain ⟨_,_,_,p⟩:=(show cy X.prog X.w H s.heap a (.tup xs) from I.hok a _ ea)
  obtain ⟨o,h1,h2,_⟩:=p
  exact PySem.W.kia_one PySem.W.kitx_tuple I.kIn ⟨o,h1,h2⟩ e (λz=>nomatch z) h
 | @dK a kvs ea =>
  cases (show u=Value.ref a from rx)
  obtain ⟨_,_,vs,_,p⟩:=(show cy X.prog X.w H s.heap a (.dK kvs) from I.hok a _ ea)
  obtain ⟨o,es,ep,h1,h2,_⟩:=p
  exact PySem.W.kia_one PySem.W.kitx_dict I.kIn ⟨o,h1,h2.1⟩ e (λz=>nomatch z) h
 | @dT a kvs ea =>
  cases (show u=Value.ref a from rx)
  obtain ⟨_,_,xs,_,o,es,ep,h1,h2,_⟩:=(show cy X.prog X.w H s.heap a (.dT kvs) from I.hok a _ ea)
  exact PySem.W.kia_one PySem.W.kitx_dict I.kIn ⟨o,h1,h2.1⟩ e (λz=>nomatch z) h
 | @ins a C dx fs ea cl ha hn htk hm =>
  cases (show u=Value.ref a from rx)
  obtain ⟨mA,O,_⟩:=nM I.hok ea
  obtain ⟨od,J,_⟩:=O.look
  exact PySem.W.kia_one (PySem.W.kitx_own (cl.get _) cl.hd ha hn htk hm) I.kIn J e (λz=>nomatch z) h
end
structure cY (k:Nat) (A:Around):Prop where
 hd:A.handled=none
 dp:A.depth+3*k+5 < recursionLimit
 un:A.units+16*k+200 < cLine
theorem cY.mono {j k:Nat} {A:Around} (r:cY k A) (h:j<=k):cY j A:=⟨r.hd,by have:=r.dp;omega,by have:=r.un;omega⟩
theorem cY.deeper {k:Nat} {A:Around} (r:cY (k+1) A) (env:Env):cY k (A.deeper env) :=
 ⟨r.hd,by have:=r.dp;show A.depth+1+3*k+5 < _;omega,by have:=r.un;show A.units+3+16*k+200 < _;omega⟩
theorem wd {A:Around} {C:Addr} {us:List Value} {kw:List (Str×Value)}:(A.under (.builtin "type.__call__" ⟨.ref C::us,kw⟩)).depth=A.depth+1:=by
 first | rfl | simp [Around.under,Code.weight,Code.isCreation,Code.isGuard,Code.isCaller,Code.frames,Code.isFrame,guardIds]
theorem wc {A:Around} {C:Addr} {us:List Value} {kw:List (Str×Value)}:(A.under (.builtin "type.__call__" ⟨.ref C::us,kw⟩)).units=A.units+1:=by
 first | rfl | simp [Around.under,Code.cUnits,Code.frames,Code.isFrame]
theorem cY.make {k:Nat} {A:Around} (r:cY (k+1) A) (C:Addr) (us:List Value) (kw:List (Str×Value)):cY k (A.under (.builtin "type.__call__" ⟨.ref C::us,kw⟩)) :=
 ⟨r.hd,by have:=r.dp;rw [wd];omega,by have:=r.un;rw [wc];omega⟩
theorem cY.depth {k:Nat} {A:Around} (r:cY k A):A.depth < recursionLimit:=by have:=r.dp;omega
theorem cY.units {k:Nat} {A:Around} (r:cY k A):A.units+64 < cLine:=by have:=r.un;omega
noncomputable def jH:TA:=λ_ H Q=>Q [] H
noncomputable def dZ (ta:TE) (tr:TA):TA:=fun σ H Q=>ta σ H λx H1=>tr σ H1 λxs H2=>Q (x::xs) H2
section
variable {X:Cx} {e:Expr} {es:List Expr} {te:TE} {t:TA} {pos:Pos}
theorem ag:PA X [] jH:=λ_ _ _ _ H Q I h=>Calls.spliced_nil ⟨[],H,I,.nil,h⟩
theorem aa (ha:PE X e te) (hr:PA X es t) (hs:starEach (e::es) X.env=(false,eval e X.env)::starEach es X.env:=by rfl):PA X (e::es) (dZ te t):=by
 intro pos pins s σ H Q I h
 rw [hs]
 show wpAny _ _ (spliced ((false,eval e X.env)::backTo pos (starEach es X.env))) _ _ s
 refine Calls.spliced_cons (thn (ha pins s σ H _ I h) λu s1 zz=>?_)
 obtain ⟨x,H1,I1,r1,q1⟩:=zz
 refine thn (hr pos pins s1 σ H1 _ I1 q1) λus s2 zz=>?_
 obtain ⟨xs,H2,I2,r2,q2⟩:=zz
 exact ⟨x::xs,H2,I2,.cons r1 r2,q2⟩
noncomputable def tTup (t:TA):TE:=fun σ H Q=>t σ H λxs H1=>xs.length<=sizeLine/\∀ p,H1 p=none->Q (.ref p) (upd H1 p (.tup xs))
noncomputable def tLst (t:TA):TE:=fun σ H Q=>t σ H λxs H1=>xs.length<=sizeLine/\∀ p,H1 p=none->Q (.ref p) (upd H1 p (.lst xs))
theorem aL {x1} (h:PA X es t):PE X (.Tuple es x1 pos) (tTup t):=by
 intro pins s σ H Q I hq
 refine wpAny_Tuple_spliced (thn (h pos pins s σ H _ I hq) λus s1 zz=>?_)
 obtain ⟨xs,H1,I1,r,z,q⟩:=zz
 refine ⟨by rw [<- r.length];exact z,?_⟩
 have hf:H1 s1.heap.objs.size=none:=I1.hok.fresh (Nat.le_refl _)
 refine ⟨.ref s1.heap.objs.size,upd H1 s1.heap.objs.size (.tup xs),I1.laid (t':=s1.toks) (λb u e=>Heap.get?_push_of_some _ e) (Nat.le_refl _) ?_,rfl,q _ hf⟩
 exact ⟨z,us,r,⟨_,Heap.get?_push_size _ rfl,rfl,_,rfl⟩⟩
theorem bo (h:PA X es t):PE X (.List es pos) (tLst t):=by
 intro pins s σ H Q I hq
 refine wpAny_List_spliced (thn (h pos pins s σ H _ I hq) λus s1 zz=>?_)
 obtain ⟨xs,H1,I1,r,z,q⟩:=zz
 refine ⟨by rw [<- r.length];exact z,?_⟩
 have hf:H1 s1.heap.objs.size=none:=I1.hok.fresh (Nat.le_refl _)
 refine ⟨.ref s1.heap.objs.size,upd H1 s1.heap.objs.size (.lst xs),I1.laid (t':=s1.toks) (λb u e=>Heap.get?_push_of_some _ e) (Nat.le_refl _) ?_,rfl,q _ hf⟩
 exact ⟨z,us,0,r,Heap.get?_push_size _ rfl⟩
end
noncomputable abbrev Sp:=List V->Hp->VK->XK->Prop
noncomputable abbrev CXT:=List Env->Hp->Shared->XK->Value->Shared->Prop
structure wO (P:Program) (w:World) (K:PySem.W.Frag) (mg:Str->Option Value) (base:Heap) (A:Around) (outer:List Env) (s:Shared) (H:Hp):Prop where
 frames:A.frames=some outer
 mod:Mod K mg base
 bs:∀ b o,base.get? b=some o->s.heap.get? b=some o/\H b=none
 bsz:base.objs.size<=s.heap.objs.size
 funs:s.heap.FunFrames base outer
 frf:∀ b∈frs outer,H b=none
 hok:HOk P w H s.heap
 bare:AllBare s.gens
noncomputable def CE (outer:List Env) (P:Program) (w:World) (H:Hp) (s:Shared) (Q:VK) (u:Value) (s':Shared):Prop :=
 ∃ v H',s'.os=s.os/\AllBare s'.gens/\Un (frs outer) [] H H' s.heap s'.heap/\HOk P w H' s'.heap/\RelV v u/\Q v H'
noncomputable def CR (CX:CXT) (outer:List Env) (P:Program) (w:World) (H:Hp) (s:Shared) (Q:VK) (E:XK) (r:Result) (s':Shared):Prop :=
 match r with
 | .ok (.ret u)=>CE outer P w H s Q u s'
 | .ok _=>False
 | .error e=>CX outer H s E e s'
structure lB (P:Program) (w:World) (K:PySem.W.Frag) (mg:Str->Option Value) (base:Heap) (CX:CXT) (k:Nat) (f:Addr) (fd:FuncData) (ps:List Str) (sp:Sp):Prop where
 len:∀ vs H Q E,sp vs H Q E->vs.length=ps.length
 run:∀(A:Around) (outer:List Env) (s:Shared) (H:Hp) (args:Args) (us:List Value) (vs:List V) (Q:VK) (E:XK),cY k A->wO P w K mg base A outer s H->BindsTo s fd args (ps.zip us)->Vals vs us->sp vs H Q E->
  codeAny (model P w) A (.call (.ref f) args) (CR CX outer P w H s Q E) s
theorem wO.make {P:Program} {w:World} {K:PySem.W.Frag} {mg:Str->Option Value} {base:Heap} {A:Around} {outer:List Env} {s:Shared} {H:Hp} (e:wO P w K mg base A outer s H) (C:Addr) (us:List Value) (kw:List (Str×Value)) :
  wO P w K mg base (A.under (.builtin "type.__call__" ⟨.ref C::us,kw⟩)) outer s H:=⟨by first | exact e.frames | (simpa [Around.under,Code.envs,Code.isFrame,pushEnvs] using e.frames),e.mod,e.bs,e.bsz,e.funs,e.frf,e.hok,e.bare⟩
section
variable {X:Cx} {pins:List (Addr×Obj)} {σ:St} {H:Hp} {s s':Shared}
theorem Inv.env0 (I:Inv X pins σ H s):wO X.prog X.w X.K X.mg X.base X.A X.stack s H :=
 ⟨I.ok.frames,I.ok.mod,I.bs,Nat.le_trans I.ok.bsz I.sz,I.stack,I.stkFree,I.hok,I.bare⟩
theorem Inv.after {Q:VK} {u:Value} (I:Inv X pins σ H s) (h:CE X.stack X.prog X.w H s Q u s'):EP X pins σ Q u s':=by
 obtain ⟨v,H',os,bare,un,hok,r,q⟩:=h
 obtain ⟨hh,g,d,t,os'⟩:=s'
 obtain rfl:os'=s.os:=os
 exact ⟨v,H',I.call (h':=hh) (g':=g) (d':=d) (t':=t) (ch:=[]) un hok bare (λb z=>absurd z (by simp)),r,q⟩
end
noncomputable def qe (sp:Sp) (dvs:List V) (E:XK) (t:TA):TE:=fun σ H Q=>t σ H λvs H1=>sp (vs++dvs) H1 Q E
noncomputable def tMake (C:Addr) (sp:Sp) (dvs:List V) (E:XK) (t:TA):TE:=fun σ H Q=>t σ H λvs H1=>∀ x dx,H1 x=none->H1 dx=none->dx≠x->
 sp (.ref x::(vs++dvs)) (upd (upd H1 dx (.own x)) x (.ins C dx [])) (λv H2=>v=.non/\Q (.ref x) H2) E
noncomputable def Binds (K:PySem.W.Frag) (fd:FuncData) (ps:List Str) (ds:List Value):Prop :=
 ∀(s:Shared) (us:List Value),K.In s.heap->(us++ds).length=ps.length->BindsTo s fd ⟨us,[]⟩ (ps.zip (us++ds))
theorem Binds.all {K:PySem.W.Frag} {fd:FuncData} {ps:List Str} (h:∀ us:List Value,us.length=ps.length->bindArgs fd ⟨us,[]⟩=pure (ps.zip us)):Binds K fd ps []:=λs us _ hl=>by
 rw [List.append_nil] at hl ⊢
 exact .of_eq (h us hl)
noncomputable def Passes (CX:CXT) (X:Cx) (E:XK):Prop:=∀(pins:List (Addr×Obj)) (σ:St) (H:Hp) (s:Shared) (e:Value) (s':Shared),Inv X pins σ H s->CX X.stack H s E e s'->X.xe e s'
section
variable {X:Cx} {CX:CXT} {k:Nat} {f C:Addr} {fd:FuncData} {ps:List Str} {sp:Sp} {dvs:List V} {ds:List Value} {E:XK} {x m:Str} {p pos apos:Pos} {e o:Expr} {es:List Expr} {ta:TE} {t:TA}
theorem vL {pins:List (Addr×Obj)} {σ:St} {H:Hp} {s:Shared} {Q:VK} {us:List Value} {vs:List V} (F:lB X.prog X.w X.K X.mg X.base CX k f fd ps sp) (hr:cY k X.A) (hb:Binds X.K fd ps ds) (hd:Vals dvs ds) (hx:Passes CX X E)
  (I:Inv X pins σ H s) (r:Vals vs us) (h:sp (vs++dvs) H Q E):wpAny (model X.prog X.w) X.A (call (.ref f) us) (EP X pins σ Q) X.xe s:=by
 have r2:Vals (vs++dvs) (us++ds):=r.append hd
 have hl:(us++ds).length=ps.length:=by rw [<- r2.length];exact F.len _ _ _ _ h
 refine wpAny_call (codeAny_mono (F.run X.A X.stack s H ⟨us,[]⟩ (us++ds) (vs++dvs) Q E hr I.env0 (hb s us I.kIn hl) r2 h) λr s' hq=>?_)
 cases r with
 | error e=>exact hx pins σ H s e s' I hq
 | ok fl =>
  cases fl with
  | ret u=>exact I.after hq
  | next=>exact False.elim hq
  | brk=>exact False.elim hq
  | cont=>exact False.elim hq
theorem rM (F:lB X.prog X.w X.K X.mg X.base CX k f fd ps sp) (hr:cY k X.A) (hg:Gl X x) (hm:X.mg x=some (.ref f)) (hk:PySem.W.keepIn X.K (.ref f)=true) (hb:Binds X.K fd ps ds) (hd:Vals dvs ds) (hx:Passes CX X E)
  (ha:PA X (e::es) t) (hdb:(x == ("__debug__":Str))=false:=by decide) (he:starEach (e::es) X.env=(false,eval e X.env)::starEach es X.env:=by rfl) (hpl:(backTo pos (starEach es X.env)).any (·.1)=false:=by rfl) :
  PE X (.Call (.Name x p) (e::es) [] pos) (qe sp dvs E t):=by
 intro pins s σ H Q I h
 refine wpAny_Call_Name_kw (fu I hg hm ?_ hdb)
 refine PySem.W.callWith_K (h₀:=X.base) I.ok.mod.kin hk (thn (ha pos pins s σ H _ I h) λus s1 zz=>?_) he hpl
 obtain ⟨vs,H1,I1,r,q⟩:=zz
 refine ⟨I1.kIn,?_⟩
 exact vL F hr hb hd hx I1 r q
theorem Bz (F:lB X.prog X.w X.K X.mg X.base CX k f fd ps sp) (hr:cY k X.A) (hg:Gl X x) (hm:X.mg x=some (.ref f)) (hk:PySem.W.keepIn X.K (.ref f)=true) (hb:Binds X.K fd ps ds) (hd:Vals dvs ds) (hx:Passes CX X E)
  (hdb:(x == ("__debug__":Str))=false:=by decide):PE X (.Call (.Name x p) [] [] pos) (qe sp dvs E jH):=by
 intro pins s σ H Q I h
 refine wpAny_Call_Name_kw (fu I hg hm ?_ hdb)
 exact PySem.W.callWith_K0 I.kIn hk (vL (us:=[]) F hr hb hd hx I .nil h)
structure Mk (K:PySem.W.Frag) (C f:Addr):Prop where
 makes:PySem.W.makesIn K C=true
 init:PySem.W.findIn K (.ref C) "__init__"=some (some (.ref f))
 fn:PySem.W.isFn K (.ref f)=true
 kp:PySem.W.keepIn K (.ref C)=true
theorem AU {pins:List (Addr×Obj)} {σ:St} {H:Hp} {s:Shared} {Q:VK} {us:List Value} {vs:List V} (M:Mk X.K C f) (F:lB X.prog X.w X.K X.mg X.base CX k f fd ps sp) (hr:cY (k+1) X.A) (hb:Binds X.K fd ps ds) (hd:Vals dvs ds)
  (hx:Passes CX X E) (I:Inv X pins σ H s) (r:Vals vs us)
  (h:∀ x dx,H x=none->H dx=none->dx≠x->sp (.ref x::(vs++dvs)) (upd (upd H dx (.own x)) x (.ins C dx [])) (λv H2=>v=.non/\Q (.ref x) H2) E) :
  wpAny (model X.prog X.w) X.A (call (.ref C) us) (EP X pins σ Q) X.xe s:=by
 have hq:=h (s.heap.objs.size+1) s.heap.objs.size (I.hok.fresh (Nat.le_succ _)) (I.hok.fresh (Nat.le_refl _)) (Nat.ne_of_lt (Nat.lt_succ_self _))
 have I2:=Inv.made (C:=C) I
 have r2:Vals (V.ref (s.heap.objs.size+1)::(vs++dvs)) (Value.ref (s.heap.objs.size+1)::(us++ds)):=.cons rfl (r.append hd)
 have hl:(Value.ref (s.heap.objs.size+1)::us++ds).length=ps.length:=by
  have e:=r2.length
  rw [F.len _ _ _ _ hq] at e
  exact e.symm
 refine wpAny_call (Cm (f:=f) I.kIn M.makes M.init (beq_iff_eq.mp M.fn) (codeAny_mono (F.run _ X.stack _ _ ⟨Value.ref (s.heap.objs.size+1)::us,[]⟩ (Value.ref (s.heap.objs.size+1)::(us++ds)) _ _ E (hr.make C us [])
  (I2.env0.make C us []) (hb _ (Value.ref (s.heap.objs.size+1)::us) I2.kIn hl) r2 hq) λr s' hq'=>?_))
 cases r with
 | error e=>exact hx pins σ _ _ e s' I2 hq'
 | ok fl =>
  cases fl with
  | ret u =>
   obtain ⟨v,H',I3,rv,ev,q3⟩:=I2.after hq'
   subst ev
   exact ⟨rv,⟨V.ref (s.heap.objs.size+1),H',I3,rfl,q3⟩⟩
  | next=>exact False.elim hq'
  | brk=>exact False.elim hq'
  | cont=>exact False.elim hq'
theorem pe_make (M:Mk X.K C f) (F:lB X.prog X.w X.K X.mg X.base CX k f fd ps sp) (hr:cY (k+1) X.A) (hg:Gl X x) (hm:X.mg x=some (.ref C)) (hb:Binds X.K fd ps ds) (hd:Vals dvs ds) (hx:Passes CX X E)
  (ha:PA X (e::es) t) (hdb:(x == ("__debug__":Str))=false:=by decide) (he:starEach (e::es) X.env=(false,eval e X.env)::starEach es X.env:=by rfl) (hpl:(backTo pos (starEach es X.env)).any (·.1)=false:=by rfl) :
  PE X (.Call (.Name x p) (e::es) [] pos) (tMake C sp dvs E t):=by
 intro pins s σ H Q I h
 refine wpAny_Call_Name_kw (fu I hg hm ?_ hdb)
 refine PySem.W.callWith_K (h₀:=X.base) I.ok.mod.kin M.kp (thn (ha pos pins s σ H _ I h) λus s1 zz=>?_) he hpl
 obtain ⟨vs,H1,I1,r,q⟩:=zz
 refine ⟨I1.kIn,?_⟩
 exact AU M F hr hb hd hx I1 r q
end
section
variable {X:Cx} {CX:CXT} {k:Nat} {f C:Addr} {fd:FuncData} {ps ks:List Str} {sp:Sp} {E:XK} {x m:Str} {p pos apos kpos:Pos} {e o:Expr} {es:List Expr} {kws:List Keyword} {te ta:TE} {t tk:TA} {nm:Option Str}
variable {g:List Value->List Value->List Value} {gV:List V->List V->List V}
end
structure aG (N P:List Str) (sc:Scope):Prop where
 kind:sc.kind=.function
 co:sc.isCoroutine=false
 gen:sc.isGenerator=false
 nd:N.Nodup
 pre:N.take P.length=P
 par:∀ x∈P,sc.names.lookup x=some .local\/sc.names.lookup x=some .cell
 nofree:∀ y∈sc.names,y.2≠.free
theorem fsc {N P:List Str} {sc:Scope} (k:sc.kind=.function) (h:(sc.isCoroutine=false)/\(sc.isGenerator=false)/\(N.Nodup)/\(N.take P.length=P)/\(∀ x∈P,sc.names.lookup x=some .local\/sc.names.lookup x=some .cell)/\(∀ y∈sc.names,y.2≠.free)):aG N P sc:=⟨k,h.1,h.2.1,h.2.2.1,h.2.2.2.1,h.2.2.2.2.1,h.2.2.2.2.2⟩
theorem qQ {kindOf:Str->Option NameKind} {x:Str}:∀{binds:List (Str×Value)} {m:Str->Option Value},(∀ v,(x,v) ∉ binds)->bindL kindOf binds m x=m x
 | [],_,_=>rfl
 | (n,v)::r,m,h=>by
  unfold bindL
  rw [qQ λw hw=>h w (List.mem_cons_of_mem _ hw)]
  split
  ·have:x≠n:=by rintro rfl;exact h v List.mem_cons_self
   simp [this]
  ·rfl
theorem qS {kindOf:Str->Option NameKind} {x:Str}:∀{binds:List (Str×Value)} {m:Str->Option Value},(∀ v,(x,v) ∉ binds)->bindC kindOf binds m x=m x
 | [],_,_=>rfl
 | (n,v)::r,m,h=>by
  unfold bindC
  rw [qS λw hw=>h w (List.mem_cons_of_mem _ hw)]
  split
  ·rfl
  ·have:x≠n:=by rintro rfl;exact h v List.mem_cons_self
   simp [this]
theorem qR {kindOf:Str->Option NameKind} {x:Str} {v:Value}:∀{P:List Str} {vs:List Value} {i:Nat} {m:Str->Option Value},P.Nodup->P[i]?=some x->vs[i]?=some v->kindOf x=some .local->
  bindL kindOf (P.zip vs) m x=some v
 | [],_,_,_,_,h,_,_=>by simp at h
 | _::_,[],_,_,_,_,h,_=>by simp at h
 | p::P,w::vs,0,m,nd,h1,h2,hk=>by
  simp at h1 h2;subst h1;subst h2
  show bindL kindOf ((p,w)::P.zip vs) m p=_
  unfold bindL
  rw [qQ λv hv=>(List.nodup_cons.mp nd).1 (List.of_mem_zip hv).1,if_pos hk]
  simp
 | p::P,w::vs,i+1,m,nd,h1,h2,hk=>by
  show bindL kindOf ((p,w)::P.zip vs) m x=_
  unfold bindL
  exact qR (i:=i) (List.nodup_cons.mp nd).2 (by simpa using h1) (by simpa using h2) hk
theorem qT {kindOf:Str->Option NameKind} {x:Str} {v:Value}:∀{P:List Str} {vs:List Value} {i:Nat} {m:Str->Option Value},P.Nodup->P[i]?=some x->vs[i]?=some v->kindOf x≠some .local->
  bindC kindOf (P.zip vs) m x=some v
 | [],_,_,_,_,h,_,_=>by simp at h
 | _::_,[],_,_,_,_,h,_=>by simp at h
 | p::P,w::vs,0,m,nd,h1,h2,hk=>by
  simp at h1 h2;subst h1;subst h2
  show bindC kindOf ((p,w)::P.zip vs) m p=_
  unfold bindC
  rw [qS λv hv=>(List.nodup_cons.mp nd).1 (List.of_mem_zip hv).1,if_neg hk]
  simp
 | p::P,w::vs,i+1,m,nd,h1,h2,hk=>by
  show bindC kindOf ((p,w)::P.zip vs) m x=_
  unfold bindC
  exact qT (i:=i) (List.nodup_cons.mp nd).2 (by simpa using h1) (by simpa using h2) hk
noncomputable def start (N:List Str) (vs:List V):St:=vs.map some++List.replicate (N.length - vs.length) none
noncomputable def cM (CX:CXT) (P:Program) (w:World) (K:PySem.W.Frag) (mg:Str->Option Value) (base:Heap) (N:List Str) (qual:Str) (scope:Scope) (f:Addr) (cd:Value) (A:Around) (outer:List Env) (s:Shared) (H:Hp) (E:XK):Cx where
 prog:=P
 w:=w
 K:=K
 mg:=mg
 base:=base
 A:=A.deeper (envOfC qual scope s.heap.objs.size f cd)
 N:=N
 s₀:=s
 H₀:=H
 env:=envOfC qual scope s.heap.objs.size f cd
 outer:=outer
 stack:=envOfC qual scope s.heap.objs.size f cd::outer
 ex:=[]
 calm:=true
 fn:=λ_=>true
 pn:=[]
 xe:=λe s'=>wpAny (model P w) (A.deeper (envOfC qual scope s.heap.objs.size f cd)) (leaving (envOfC qual scope s.heap.objs.size f cd) e) (λ_ s''=>CX outer H s E e s'') (λe' s''=>CX outer H s E e' s'') s'
theorem uP {sc:Scope} {n:Nat} {x:Str} (h:sc.names.lookup x=some .cell):∃ c,(cellsFrom n sc.names []).lookup x=some c:=by
 have q:=PySem.W.cellsFrom_some sc.names n [] (.inl h)
 exact Option.isSome_iff_exists.mp q
theorem zw {CX:CXT} {P:Program} {w:World} {K:PySem.W.Frag} {mg:Str->Option Value} {base:Heap} {N ps:List Str} {qual:Str} {scope:Scope} {f:Addr} {cd:Value} {A:Around} {outer:List Env} {s s1:Shared} {H:Hp} {E:XK} {us:List Value} {vs:List V}
  (S:aG N ps scope) (hd:A.handled=none) (e0:wO P w K mg base A outer s H) (hl:vs.length=ps.length) (r:Vals vs us)
  (x:InCallC s s.heap.objs.size (bindL (envOfC qual scope s.heap.objs.size f cd).kindOf (ps.zip us) λ_=>none) (cellsFrom (s.heap.objs.size+1) scope.names []) (bindC (envOfC qual scope s.heap.objs.size f cd).kindOf (ps.zip us) λ_=>none) s1) :
  Inv (cM CX P w K mg base N qual scope f cd A outer s H E) [] (start N vs) H s1:=by
 have hpl:ps.length<=N.length:=by have:=congrArg List.length S.pre;rw [List.length_take] at this;omega
 obtain ⟨h1,tk,rfl,hk⟩:=x.done
 have noA:∀ b:Addr,b ∉ (cM CX P w K mg base N qual scope f cd A outer s H E).ex:=λb z=>absurd (show b∈([]:List Addr) from z) (by simp)
 refine ⟨⟨e0.mod,S.kind,rfl,rfl,Nat.le_refl _,λy z c h1 h2=>?_,λy hy=>?_,λy c _ h=>?_,λ_=>hd,Around.frames_deeper e0.frames,.inr ⟨rfl,rfl⟩,λb z=>absurd z (noA b),e0.bs,e0.bsz,λb _ _=>noA b,λb z=>absurd z (noA b),e0.funs,e0.frf⟩,
  rfl,e0.bare,Un.kept hk,⟨_,x.toInCall.ns,λi y v h1 h2 h3=>?_⟩,λy c h=>⟨_,x.cell y c h⟩,e0.hok.fresh (Nat.le_refl _),λy c h=>?_,λp hp=>absurd (show p∈([]:List (Addr×Obj)) from hp) (by simp),e0.hok.kept hk,?_⟩
 ·exact name_of_addr x.apart (PySem.mem_of_lookup h1) (PySem.mem_of_lookup h2)
 ·have hy:scope.names.lookup y=some .cell\/scope.names.lookup y=some .free:=hy
  rcases hy with hy | hy
  ·exact uP hy
  ·exact absurd rfl (S.nofree _ (PySem.mem_of_lookup hy))
 ·exact Nat.le_of_lt (x.above y c (PySem.mem_of_lookup h))
 ·have hi:i < vs.length:=by
   unfold start at h2
   by_cases hi:i < vs.length
   ·exact hi
   ·rw [List.getElem?_append_right (by simpa using hi)] at h2
    rw [List.getElem?_replicate] at h2
    split at h2 <;> cases h2
  have ha:vs[i]?=some v:=by
   unfold start at h2
   rw [List.getElem?_append_left (by simpa using hi),List.getElem?_map] at h2
   cases e:vs[i]? with
   | none=>rw [e] at h2;cases h2
   | some a=>rw [e] at h2;cases h2;rfl
  obtain ⟨u,hu,rv⟩:=r.get ha
  have hp:ps[i]?=some y:=by
   rw [<- S.pre,List.getElem?_take_of_lt (by omega)];exact h1
  have ndP:ps.Nodup:=by rw [<- S.pre];exact S.nd.sublist (List.take_sublist _ _)
  refine ⟨u,rv,?_⟩
  rcases S.par y (List.mem_of_getElem? hp) with k | k
  ·exact .inl ⟨k,qR ndP hp hu k⟩
  ·obtain ⟨c,e⟩:=uP (n:=s.heap.objs.size+1) k
   refine .inr ⟨.inl k,c,e,?_⟩
   have q:=x.cell y c e
   rw [qT ndP hp hu (by show scope.names.lookup y≠_;rw [k];decide)] at q
   exact q
 ·exact e0.hok.fresh (Nat.le_of_lt (x.above y c (PySem.mem_of_lookup h)))
 ·unfold start
  show _=N.length
  rw [List.length_append,List.length_map,List.length_replicate]
  omega
theorem fn_of {CX:CXT} {P:Program} {w:World} {K:PySem.W.Frag} {mg:Str->Option Value} {base:Heap} {k:Nat} {f:Addr} {name qual:Str} {params:Arguments} {body:List Stmt} {scope:Scope} {dV kV doc pm cdv ct oc:Value} {an od:Option Addr}
  {osl:Array (Option Value)} {N ps:List Str} {sp:Sp} (lk:K.lookup f=some ⟨oc,od,.func (PySem.W.fnOf name qual params body scope dV kV doc pm an cdv ct),osl⟩) (hcd:PySem.W.codeIn K cdv qual=true) (S:aG N ps scope)
  (len:∀ vs H Q E,sp vs H Q E->vs.length=ps.length)
  (hbody:∀(A:Around) (outer:List Env) (s:Shared) (H:Hp) (vs:List V) (Q:VK) (E:XK),cY k (A.deeper (envOfC qual scope s.heap.objs.size f cdv))->sp vs H Q E->
   ∃ t,PSs (cM CX P w K mg base N qual scope f cdv A outer s H E) body t/\t {nx:=λ_ H'=>Q .non H',rt:=Q} (start N vs) H) :
  lB P w K mg base CX (k+1) f (PySem.W.fnOf name qual params body scope dV kV doc pm an cdv ct) ps sp:=by
 refine ⟨len,λA outer s H args us vs Q E hr e0 hb r hsp=>?_⟩
 have hl:=len _ _ _ _ hsp
 have KX:K.In s.heap:=e0.mod.kin.keeps λb o e=>(e0.bs b o e).1
 have lim:s.heap.NoLimit:=e0.mod.nolimit.keeps λb o e=>(e0.bs b o e).1
 have hkind:∀ y∈ps.zip us,scope.names.lookup y.1=some .local\/(scope.names.lookup y.1=some .cell/\((cellsFrom (s.heap.objs.size+1) scope.names []).lookup y.1).isSome=true):=λ⟨n,v⟩ hy=>by
  rcases S.par n (List.of_mem_zip hy).1 with q | q
  ·exact .inl q
  ·exact .inr ⟨q,PySem.W.cellsFrom_some _ _ _ (.inl q)⟩
 refine codeAny_call_function hr.depth (KX _ _ lk) rfl S.co S.gen rfl (PySem.W.codeRec_of KX hcd) (hb _ _ _ _ ?_)
 refine wpAny_newFunctionEnv_cells S.kind hkind λenv he s1 x=>?_
 subst he
 refine ⟨lim.keeps x.toInCall.keep,codeAny_func ?_⟩
 obtain ⟨t,ht,hq⟩:=hbody A outer s H vs Q E (hr.deeper _) hsp
 have I:Inv (cM CX P w K mg base N qual scope f cdv A outer s H E) [] (start N vs) H s1:=zw S hr.hd e0 hl r x
 refine wpAny_mono (ht [] s1 (start N vs) H _ I hq) (λfl s' hs=>?_) λe s' hs=>hs
 have fin:∀{σ':St} {H':Hp} {v:V} {u:Value},Inv (cM CX P w K mg base N qual scope f cdv A outer s H E) [] σ' H' s'->RelV v u->Q v H'->CE outer P w H s Q u s' :=
  λ{σ' H' v u} J rv q=>⟨v,H',J.os,J.bare,J.base,J.hok,rv,q⟩
 cases fl with
 | ret u =>
  obtain ⟨v,σ',H',J,rv,q⟩:=hs
  exact fin J rv q
 | next =>
  obtain ⟨σ',H',J,q⟩:=hs
  exact fin (v:=V.non) (u:=Value.none) J rfl q
 | brk =>
  obtain ⟨_,_,_,q⟩:=hs
  exact False.elim q
 | cont =>
  obtain ⟨_,_,_,q⟩:=hs
  exact False.elim q
section
variable {X:Cx} {x:Str} {p pos:Pos} {e:Expr} {es:List Expr} {t:TA} {id T:String} {r:List V->Hp->VK->Prop}
noncomputable def tCB (r:List V->Hp->VK->Prop) (t:TA):TE:=fun σ H Q=>t σ H λvs H1=>r vs H1 Q
theorem aR (hc:gK X (.builtin id) r) (hg:Gl X x) (hm:X.mg x=none) (hv:bootBuiltins x=some (.builtin id)) (ha:PA X (e::es) t) (hn:x≠"__name__":=by decide) (hdb:(x == ("__debug__":Str))=false:=by decide)
  (he:starEach (e::es) X.env=(false,eval e X.env)::starEach es X.env:=by rfl) (hpl:(backTo pos (starEach es X.env)).any (·.1)=false:=by rfl):PE X (.Call (.Name x p) (e::es) [] pos) (tCB r t):=by
 intro pins s σ H Q I h
 refine wpAny_Call_Name_kw (jU I hg hm hv ?_ hn hdb)
 refine PyProof.Rows.callWith_builtin1 (thn (ha pos pins s σ H _ I h) λus s1 zz=>?_) he hpl
 obtain ⟨vs,H1,I1,r1,q1⟩:=zz
 exact hc pins s1 σ H1 vs us Q I1 r1 q1
theorem cC (hc:gK X (.type T) r) (hg:Gl X x) (hm:X.mg x=none) (hv:bootBuiltins x=some (.type T)) (ha:PA X (e::es) t) (hn:x≠"__name__":=by decide) (hdb:(x == ("__debug__":Str))=false:=by decide)
  (he:starEach (e::es) X.env=(false,eval e X.env)::starEach es X.env:=by rfl) (hpl:(backTo pos (starEach es X.env)).any (·.1)=false:=by rfl):PE X (.Call (.Name x p) (e::es) [] pos) (tCB r t):=by
 intro pins s σ H Q I h
 refine wpAny_Call_Name_kw (jU I hg hm hv ?_ hn hdb)
 refine PyProof.Rows.callWith_type1 (thn (ha pos pins s σ H _ I h) λus s1 zz=>?_) he hpl
 obtain ⟨vs,H1,I1,r1,q1⟩:=zz
 exact hc pins s1 σ H1 vs us Q I1 r1 q1
end
end L2
namespace HT
open PySem PyProof.Rows
section
open PySem.SeqAt
open PySem.AutoSeq1 (wpAny_loadPart')
open PySem.MeetsSeq PySem.MeetsSeq2 PySem.MeetsSeq3
end
section
variable {prog:Program} {w:World} {A:Around} {E:Value->Shared->Prop} {s:Shared}
theorem cat_tup {t b:Addr} {vs ws:List Value} {Q:Value->Shared->Prop} (ht:IsTup s.heap t vs.toArray) (hb:IsTup s.heap b ws.toArray) (hv:vs≠[])
  (h1:ws=[]->Q (.ref t) s) (h2:ws≠[]->Q (.ref s.heap.objs.size) {s with heap:=s.heap.push {cls:=.type "tuple",data:=.seq (vs++ws).toArray} })
  (hsz:vs.length+ws.length<=sizeLine):wpAny (model prog w) A (binaryOp .Add (.ref t) (.ref b)) Q E s:=by
 obtain ⟨⟨cls,dd,data,sl⟩,ho,hc,n,hd⟩:=id ht
 obtain ⟨⟨cls2,dd2,data2,sl2⟩,ho2,hc2,n2,hd2⟩:=id hb
 simp only at hc hd hc2 hd2
 subst hc hd hc2 hd2
 have e:vs.toArray++ws.toArray=(vs++ws).toArray:=by simp
 by_cases hw:ws=[]
 ·exact concat_meets ⟨_,ho,rfl⟩ ⟨_,ho2,rfl⟩ noFill_tuple_add seq_tuple_add PySem.F.slot_tuple_add PySem.F.entry_tuple_add (PySem.F.args_tuple_add_2 _ _)
   (tuple_addW1 t b vs.toArray ws.toArray n n2 dd dd2 sl sl2 (by simpa using hv) (by simp [hw])) ⟨ho,ho2,h1 hw⟩
 ·refine concat_meets ⟨_,ho,rfl⟩ ⟨_,ho2,rfl⟩ noFill_tuple_add seq_tuple_add PySem.F.slot_tuple_add PySem.F.entry_tuple_add (PySem.F.args_tuple_add_2 _ _)
   (tuple_addW2 t b vs.toArray ws.toArray n n2 dd dd2 sl sl2 (by simpa using hv) (by simpa using hw) (by rw [List.size_toArray,List.size_toArray];exact hsz)) ⟨ho,ho2,?_⟩
  rw [e]
  exact h2 hw
noncomputable def sIx (n d:Nat):Option Int->Nat
 | none=>d
 | some v=>if v < 0 then (v+(n:Int)).toNat else min v.toNat n
theorem AR (n d:Nat):sIx n d none=d:=rfl
theorem xF (n d k:Nat):sIx n d (some (k:Int))=min k n:=by
 show (if (k:Int) < 0 then ((k:Int)+(n:Int)).toNat else min (k:Int).toNat n)=min k n
 rw [if_neg (by omega),Int.toNat_natCast]
theorem sIx_le (n d:Nat) (hd:d<=n) (o:Option Int):sIx n d o<=n:=by
 cases o with
 | none=>exact hd
 | some v =>
  show (if v < 0 then (v+(n:Int)).toNat else min v.toNat n)<=n
  by_cases hv:v < 0
  ·rw [if_pos hv];omega
  ·rw [if_neg hv];exact Nat.min_le_right _ _
theorem yq (v:Int) (n d:Nat):(if v < 0 then max (v+(n:Int)) 0 else min v (n:Int))=((sIx n d (some v):Nat):Int):=by
 show (if v < 0 then max (v+(n:Int)) 0 else min v (n:Int))=(((if v < 0 then (v+(n:Int)).toNat else min v.toNat n):Nat):Int)
 by_cases hv:v < 0
 ·simp only [if_pos hv];omega
 ·simp only [if_neg hv];omega
theorem wA (lo hi:Option Int) (n:Nat):Builtin.Slice.sliceAdjust lo hi 1 (n:Int)=(((sIx n 0 lo:Nat):Int),((sIx n n hi:Nat):Int)):=by
 have h1:¬ ((1:Int) < 0):=by omega
 unfold Builtin.Slice.sliceAdjust
 simp only [h1,if_false]
 refine Prod.ext ?_ ?_
 ·cases lo with
  | none=>rfl
  | some v=>exact yq v n 0
 ·cases hi with
  | none=>rfl
  | some v=>exact yq v n n
theorem vO (i j:Nat):Builtin.Slice.slicePlaces (i:Int) (j:Int) 1=j - i:=by
 unfold Builtin.Slice.slicePlaces
 have h1:(1:Int) > 0:=by omega
 simp only [h1,if_true,Int.ediv_one]
 split <;> omega
theorem nY {v:Value} {o:Option Int} {Q:Option Int->Shared->Prop} (p:IsPart v o) (h:Q o s):wpAny (model prog w) A (Builtin.Slice.slicePartIndex v) Q E s:=by
 cases p with
 | none=>exact slicePart_none h
 | int i t=>exact slicePart_int h
theorem gW {sl:Addr} {vl vu:Value} {lo hi:Option Int} {n:Nat} {Q:Int×Int×Nat->Shared->Prop} (hs:s.heap.IsSliceOf sl vl vu .none) (pl:IsPart vl lo) (pu:IsPart vu hi)
  (h:Q (((sIx n 0 lo:Nat):Int),1,sIx n n hi - sIx n 0 lo) s):wpAny (model prog w) A (Builtin.Slice.sliceApplied (.ref sl) (pure (n:Int))) Q E s:=by
 obtain ⟨os,hos,hcs,hds⟩:=id hs
 unfold Builtin.Slice.sliceApplied Builtin.Slice.sliceFields
 refine wpAny_bind (wpAny_bind (wpAny_field hos hds (x:=vl) rfl (wpAny_bind (wpAny_field hos hds (x:=vu) rfl (wpAny_bind (wpAny_field hos hds (x:=.none) rfl (wpAny_pure ?_)))))))
 refine wpAny_bind (slicePart_none ?_)
 show wpAny _ _ (if ((1:Int) == 0)=true then _ else _) _ _ s
 rw [if_neg (by decide)]
 refine wpAny_bind (nY pl (wpAny_bind (nY pu (wpAny_bind (wpAny_pure ?_)))))
 show wpAny _ _ (match Builtin.Slice.sliceAdjust lo hi 1 (n:Int) with | (lo,hi)=>pure (lo,(1:Int),Builtin.Slice.slicePlaces lo hi 1)) _ _ s
 rw [wA lo hi n]
 show wpAny _ _ (pure (((sIx n 0 lo:Nat):Int),(1:Int),Builtin.Slice.slicePlaces ((sIx n 0 lo:Nat):Int) ((sIx n n hi:Nat):Int) 1)) _ _ s
 rw [vO]
 exact wpAny_pure h
theorem Bt (xs:Array Value) (i k:Nat):((List.range k).filterMap λ(m:Nat)=>xs[((i:Int)+(m:Int)*1).toNat]?).toArray=((xs.toList.drop i).take k).toArray:=by
 have e:(λ(m:Nat)=>xs[((i:Int)+(m:Int)*1).toNat]?)=λm=>xs[i+m]?:=by
  funext m
  have:((i:Int)+(m:Int)*1).toNat=i+m:=by omega
  rw [this]
 rw [e]
 have:=pick_run xs i k
 rw [List.filterMap_map] at this
 have e2:((λx=>xs[x]?) ∘ λx=>i+x)=λm=>xs[i+m]?:=rfl
 rw [e2] at this
 rw [this]
theorem kU {t sl:Addr} {items:Array Value} {vl vu:Value} {lo hi:Option Int} {Q:Value->Shared->Prop} (ht:IsTup s.heap t items) (hs:s.heap.IsSliceOf sl vl vu .none) (pl:IsPart vl lo) (pu:IsPart vu hi)
  (hw:¬ (sIx items.size 0 lo=0/\sIx items.size items.size hi=items.size))
  (h:Q (.ref s.heap.objs.size) {s with heap:=s.heap.push {cls:=.type "tuple",data:=.seq ((items.toList.drop (sIx items.size 0 lo)).take (sIx items.size items.size hi - sIx items.size 0 lo)).toArray} })
  (hsz:items.size<=sizeLine):wpAny (model prog w) A (getItem (.ref t) (.ref sl)) Q E s:=by
 have htake:sizeOk (.seq ((items.toList.drop (sIx items.size 0 lo)).take (sIx items.size items.size hi - sIx items.size 0 lo)).toArray):=by
  show ((items.toList.drop (sIx items.size 0 lo)).take (sIx items.size items.size hi - sIx items.size 0 lo)).toArray.size<=sizeLine
  rw [List.size_toArray,List.length_take,List.length_drop,Array.length_toList]
  omega
 have hj:sIx items.size items.size hi<=items.size:=sIx_le _ _ (Nat.le_refl _) hi
 obtain ⟨os,hos,hcs,hds⟩:=id hs
 have hTs:s.TypeIs (.ref sl) "slice":=⟨os,hos,hcs⟩
 unfold getItem
 try with_reducible refine wpAny_holding ?_
 first | refine wpAny_bind (wpAny_pure ?_) | skip
 refine wpAny_bind (wpAny_sequenceKey ht.typeIs (by decide) ?_)
 refine wpAny_bind (wpAny_callSpecial?_slot (name:=Str.ofString "__getitem__") ht.typeIs PyProof.Rows.slot_tuple_getitem
  (wpAny_call_entry PyProof.Rows.slot_tuple_getitem ht.typeIs entry_tuple_getitem ?_ (args_tuple_getitem _ _)))
 show wpAny _ _ (Builtin.Tuple.tupleItemsOf (.ref t) >>= _) _ _ s
 refine wpAny_bind (tupleItemsOf_ ht ?_)
 refine wpAny_bind (wpAny_typeOf hTs ?_)
 rw [if_pos (by decide)]
 refine wpAny_bind (gW hs pl pu ?_)
 have hno:¬ ((((sIx items.size 0 lo:Nat):Int) == 0 && (1:Int) == 1 && (sIx items.size items.size hi - sIx items.size 0 lo) == items.size)=true):=by
  intro q
  rw [Bool.and_eq_true,Bool.and_eq_true] at q
  have q1:((sIx items.size 0 lo:Nat):Int)=0:=eq_of_beq q.1.1
  have q2:sIx items.size items.size hi - sIx items.size 0 lo=items.size:=eq_of_beq q.2
  exact hw ⟨by omega,by omega⟩
 show wpAny _ _ (if (((sIx items.size 0 lo:Nat):Int) == 0 && (1:Int) == 1 && (sIx items.size items.size hi - sIx items.size 0 lo) == items.size)=true then _ else _) _ _ s
 rw [if_neg hno,Bt]
 first
  | exact wpAny_bind (m:=Builtin.Tuple.tupleExact _) (wpAny_newObj_type (wpAny_pure ⟨_,rfl,wpAny_pure h⟩) htake)
  | exact wpAny_bind (m:=Builtin.Tuple.tupleExact _) (wpAny_newObj_type (wpAny_bind (wpAny_pure (wpAny_pure ⟨_,rfl,wpAny_pure h⟩))) htake)
  | exact wpAny_bind (wpAny_bind (m:=Builtin.Tuple.tupleExact _) (wpAny_newObj_type (wpAny_pure (wpAny_pure ⟨_,rfl,wpAny_pure h⟩)) htake))
  | exact wpAny_bind (wpAny_bind (m:=Builtin.Tuple.tupleExact _) (wpAny_newObj_type (wpAny_pure ⟨_,rfl,wpAny_pure h⟩) htake))
end
end HT
namespace L2
open PySem PySem.Spec PyProof.Rows
noncomputable abbrev TO:=St->Hp->(Option Int->Hp->Prop)->Prop
noncomputable def PO (X:Cx) (e:Option Expr) (t:TO):Prop :=
 ∀(
  pins:List (Addr×Obj)) (s:Shared) (σ:St) (H:Hp) (Q:Option Int->Hp->Prop),Inv X pins σ H s->t σ H Q->
  wpAny (model X.prog X.w) X.A (evalPart e X.env) (λu s'=>∃ o H',Inv X pins σ H' s'/\IsPart u o/\Q o H') X.xe s
noncomputable def wX:TO:=λ_ H Q=>Q none H
noncomputable def tPart (t:TE):TO:=fun σ H Q=>t σ H λx H1=>∃ i,x=.int i/\Q (some i) H1
theorem intsAre_of {ns:List Int}:∀{us:List Value},Vals (ns.map V.int) us->IntsAre us ns:=by
 induction ns with
 | nil=>intro us r;rw [List.map_nil] at r;cases r;exact .nil
 | cons n ns ih =>
  intro us r
  rw [List.map_cons] at r
  cases r with
  | cons r1 r2 =>
   obtain ⟨t,e⟩:=r1
   subst e
   exact .cons n t (ih r2)
section
variable {X:Cx} {e:Expr} {te:TE} {lo hi:Option Expr} {tl th:TO} {pos p2:Pos}
theorem po_none:PO X none wX:=by
 intro pins s σ H Q I h
 rw [evalPart_none]
 exact wpAny_pure ⟨none,H,I,.none,h⟩
theorem po_some (h:PE X e te):PO X (some e) (tPart te):=by
 intro pins s σ H Q I hw
 rw [evalPart_some]
 refine thn (h pins s σ H _ I hw) λu s1 zz=>?_
 obtain ⟨x,H1,I1,r1,q1⟩:=zz
 obtain ⟨i,rfl,q⟩:=q1
 obtain ⟨t,rfl⟩:=r1
 exact ⟨some i,H1,I1,.int i t,q⟩
noncomputable def SlR (X:Cx) (r:V->Option Int->Option Int->Hp->VK->Prop):Prop :=
 ∀(
  pins:List (Addr×Obj)) (s:Shared) (σ:St) (H:Hp) (x:V) (v vl vu:Value) (lo hi:Option Int) (sl:Addr) (Q:VK),Inv X pins σ H s->RelV x v->s.heap.IsSliceOf sl vl vu .none->IsPart vl lo->IsPart vu hi->r x lo hi H Q->
  ∃ T id,typeLookup (.type T) "__getitem__"=pure (some (.builtin id))/\s.TypeIs v T/\wpAny (model X.prog X.w) X.A (getItem v (.ref sl)) (EP X pins σ Q) X.xe s
noncomputable def tSl (r:V->Option Int->Option Int->Hp->VK->Prop) (te:TE) (tl th:TO):TE:=fun σ H Q=>te σ H λx H1=>tl σ H1 λl H2=>th σ H2 λu H3=>r x l u H3 Q
theorem Bv {r:V->Option Int->Option Int->Hp->VK->Prop} (hr:SlR X r) (he:PE X e te) (hl:PO X lo tl) (hu:PO X hi th):PE X (.Subscript e (.Slice lo hi none p2) pos) (tSl r te tl th):=by
 intro pins s σ H Q I h
 refine Subscript_ (thn (he pins s σ H _ I h) λv s1 zz=>?_)
 obtain ⟨x,H1,I1,r1,q1⟩:=zz
 refine wpAny_Slice (thn (hl pins s1 σ H1 _ I1 q1) λvl s2 zz=>?_)
 obtain ⟨l,H2,I2,pl,q2⟩:=zz
 refine thn (hu pins s2 σ H2 _ I2 q2) λvu s3 zz=>?_
 obtain ⟨u,H3,I3,pu,q3⟩:=zz
 rw [evalPart_none]
 refine wpAny_pure ?_
 have I4:Inv X pins σ H3 {s3 with heap:=s3.heap.push {cls:=.type "slice",data:=.fields #[vl,vu,.none] } }:=I3.kept (t':=s3.toks) λb ob q=>Heap.get?_push_of_some _ q
 obtain ⟨T,id,hT,ht,hg⟩:=hr pins {s3 with heap:=s3.heap.push {cls:=.type "slice",data:=.fields #[vl,vu,.none] } } σ H3 x v vl vu l u s3.heap.objs.size Q I4 r1 (Heap.IsSliceOf.new ..) pl pu q3
 show wpAny (model X.prog X.w) X.A (subscriptTail e (.Slice lo hi none p2) v (.ref s3.heap.objs.size)) (EP X pins σ Q) X.xe {s3 with heap:=s3.heap.push {cls:=.type "slice",data:=.fields #[vl,vu,.none] } }
 exact tail_any (ops:=[.ref s3.heap.objs.size,v]) ht hT hg (by with_unfolding_all rfl)
noncomputable def sv (xs:List V) (lo hi:Option Int):List V:=(xs.drop (HT.sIx xs.length 0 lo)).take (HT.sIx xs.length xs.length hi - HT.sIx xs.length 0 lo)
theorem mX (xs:List V) (lo hi:Option Int):(sv xs lo hi).length<=xs.length:=by
 unfold sv
 rw [List.length_take,List.length_drop]
 omega
noncomputable def rSlT (K:PySem.W.Frag):V->Option Int->Option Int->Hp->VK->Prop:=λx lo hi H Q=>∃ a xs,x=.ref a/\SqT K H a xs/\
 ¬ (HT.sIx xs.length 0 lo=0/\HT.sIx xs.length xs.length hi=xs.length)/\∀ p,H p=none->Q (.ref p) (upd H p (.tup (sv xs lo hi)))
theorem sl_tup:SlR X (rSlT X.K):=by
 intro pins s σ H x v vl vu lo hi sl Q I rx hs pl pu h
 obtain ⟨a,xs,rfl,hx,hw,q⟩:=h
 cases rx
 obtain ⟨its,r,ht,hz⟩:=I.tuple hx
 have hlen:its.toArray.size=xs.length:=by rw [List.size_toArray];exact r.length.symm
 refine ⟨"tuple",_,PyProof.Rows.slot_tuple_getitem.lookup,ht.typeIs,?_⟩
 refine HT.kU ht hs pl pu (by rw [hlen];exact hw) ?_ (by rw [hlen];exact hz)
 rw [hlen]
 refine ⟨.ref s.heap.objs.size,_,I.laid (t':=s.toks) (o:=.tup (sv xs lo hi)) (λb ob q=>Heap.get?_push_of_some _ q) (Nat.le_refl _) ?_,rfl,q _ (I.hok.fresh (Nat.le_refl _))⟩
 exact ⟨Nat.le_trans (mX xs lo hi) hz,_,(r.drop (HT.sIx xs.length 0 lo)).take (HT.sIx xs.length xs.length hi - HT.sIx xs.length 0 lo),IsTup.new _ _⟩
noncomputable def rCatT (K:PySem.W.Frag):R2:=λx y H Q=>∃ a b xs ys,x=.ref a/\y=.ref b/\SqT K H a xs/\SqT K H b ys/\xs≠[]/\xs.length+ys.length<=sizeLine/\
 (ys=[]->Q (.ref a) H)/\(ys≠[]->∀ p,H p=none->Q (.ref p) (upd H p (.tup (xs++ys))))
theorem Vals.nil_iff {xs:List V} {us:List Value} (r:Vals xs us):us=[]↔xs=[]:=by
 cases r with
 | nil=>simp
 | cons _ _=>simp
theorem xR:OpR X (binaryOp .Add) (rCatT X.K):=by
 intro pins s σ H x y v u Q I rx ry h
 obtain ⟨a,b,xs,ys,rfl,rfl,ha,hb,hx,hz,q1,q2⟩:=h
 cases rx
 cases ry
 obtain ⟨its,r1,p1,_⟩:=I.tuple ha
 obtain ⟨its2,r2,p2,_⟩:=I.tuple hb
 refine HT.cat_tup p1 p2 (λz=>hx (r1.nil_iff.mp z)) (λz=>⟨.ref a,H,I,rfl,q1 (r2.nil_iff.mp z)⟩) (λz=>?_) (by rw [<- r1.length,<- r2.length];exact hz)
 refine ⟨.ref s.heap.objs.size,_,I.laid (t':=s.toks) (o:=.tup (xs++ys)) (λb ob q=>Heap.get?_push_of_some _ q) (Nat.le_refl _) ?_,rfl,q2 (λw=>z (r2.nil_iff.mpr w)) _ (I.hok.fresh (Nat.le_refl _))⟩
 exact ⟨by rw [List.length_append];exact hz,_,r1.append r2,IsTup.new _ _⟩
end
noncomputable def ixN (n:Nat) (i:Int):Option Nat:=if 0<=i then (if i < n then some i.toNat else none) else if -(n:Int)<=i then some (i+n).toNat else none
noncomputable def atI {α:Type} (xs:List α) (i:Int):Option α:=(ixN xs.length i).bind λj=>xs[j]?
theorem ixN_seq {n:Nat} {i:Int} {j:Nat} (h:ixN n i=some j):seqIndex? i n=some j/\j < n/\-(n:Int)<=i/\i < n:=by
 unfold ixN at h
 by_cases h0:0<=i
 ·rw [if_pos h0] at h
  by_cases h1:i < n
  ·rw [if_pos h1] at h
   have e:i.toNat=j:=Option.some.inj h
   exact ⟨by rw [seqIndex_of h0 h1,e],by omega,by omega,h1⟩
  ·rw [if_neg h1] at h;cases h
 ·rw [if_neg h0] at h
  by_cases h1:-(n:Int)<=i
  ·rw [if_pos h1] at h
   have e:(i+n).toNat=j:=Option.some.inj h
   exact ⟨by rw [seqIndex_neg (by omega) h1,e],by omega,h1,by omega⟩
  ·rw [if_neg h1] at h;cases h
theorem yr {α:Type} {xs:List α} {i:Int} {v:α} (h:atI xs i=some v):∃ j,seqIndex? i xs.length=some j/\xs[j]?=some v/\j < xs.length/\-(xs.length:Int)<=i/\i < xs.length:=by
 unfold atI at h
 cases e:ixN xs.length i with
 | none=>rw [e] at h;cases h
 | some j =>
  rw [e] at h
  obtain ⟨h1,h2,h3,h4⟩:=ixN_seq e
  exact ⟨j,h1,h,h2,h3,h4⟩
theorem dD {α:Type} {xs:List α} {j:Nat} {v:α} (h:xs[j]?=some v):atI xs (j:Int)=some v:=by
 have hj:j < xs.length:=(List.getElem?_eq_some_iff.mp h).1
 have e:ixN xs.length (j:Int)=some j:=by
  unfold ixN
  rw [if_pos (by omega),if_pos (by omega)];simp
 unfold atI;rw [e];exact h
noncomputable def PlainIx (b:Expr):Prop:=∀ o i,subscripted b false o i=operate [o,i] (getItem o i)
noncomputable def IxR (X:Cx) (r:R2):Prop :=
 ∀(
  value slice:Expr) (pins:List (Addr×Obj)) (s:Shared) (σ:St) (H:Hp) (x y:V) (v u:Value) (Q:VK),Inv X pins σ H s->RelV x v->RelV y u->r x y H Q->
  subscripted slice false v u=operate [v,u] (getItem v u)->wpAny (model X.prog X.w) X.A (subscriptTail value slice v u) (EP X pins σ Q) X.xe s
noncomputable def MtR (X:Cx) (id:String) (r:V->List V->Hp->VK->Prop):Prop :=
 ∀(
  pins:List (Addr×Obj)) (s:Shared) (σ:St) (H:Hp) (x:V) (xs:List V) (v:Value) (us:List Value) (Q:VK),Inv X pins σ H s->RelV x v->Vals xs us->r x xs H Q->
  wpAny (model X.prog X.w) X.A (call (.builtin id) (v::us)) (EP X pins σ Q) X.xe s
section
variable {X:Cx} {a b:Expr} {ta tb:TE} {pos:Pos}
theorem aw {r:R2} (hr:IxR X r) (ha:PE X a ta) (hb:PE X b tb) (hs:PlainIx b):PE X (.Subscript a b pos) (tOp r ta tb):=by
 intro pins s σ H Q I h
 exact Subscript_ (binT ha hb I h λv u s2 x y H2 I2 rx ry q=>hr a b pins s2 σ H2 x y v u Q I2 rx ry q (hs _ _))
inductive XrIxL (K:PySem.W.Frag) (x:V) (y:V) (H:Hp) (Q:VK):Prop where
 | mk (p:Addr) (xs:List V) (i:Int) (v:V) (z_0:x=.ref p) (z_1:y=.int i) (z_2:SqL K H p xs) (z_3:atI xs i=some v) (z_4:Q v H):XrIxL K x y H Q
noncomputable def rIxL (K:PySem.W.Frag):R2:=λx y H Q=>XrIxL K x y H Q
inductive XrIxT (K:PySem.W.Frag) (x:V) (y:V) (H:Hp) (Q:VK):Prop where
 | mk (p:Addr) (xs:List V) (i:Int) (v:V) (z_0:x=.ref p) (z_1:y=.int i) (z_2:SqT K H p xs) (z_3:atI xs i=some v) (z_4:Q v H):XrIxT K x y H Q
noncomputable def rIxT (K:PySem.W.Frag):R2:=λx y H Q=>XrIxT K x y H Q
theorem aU:IxR X (rIxL X.K):=by
 intro value slice pins s σ H x y v u Q I rx ry h hs
 obtain ⟨p,xs,i,z,rfl,rfl,hq,he,q⟩:=h
 cases rx
 obtain ⟨t,rfl⟩:=ry
 obtain ⟨its,r,pl,hz⟩:=I.list hq
 obtain ⟨j,h1,h2,h3,h4,h5⟩:=yr he
 obtain ⟨w,ew,rw'⟩:=r.get h2
 have hl:=r.length
 have hn:=rW
 have fin:EP X pins σ Q w s:=⟨z,H,I,rw',q⟩
 by_cases h0:0<=i
 ·have hj:i.toNat=j:=by
   rw [seqIndex_of h0 h5] at h1
   exact Option.some.inj h1
  exact item_listR pl.isList h0 (by omega) (by rw [hj];simpa using ew) fin hs
 ·have hj:(i+(its.toArray.size:Int)).toNat=j:=by
   rw [seqIndex_neg (by omega) h4] at h1
   rw [List.size_toArray,<- hl]
   exact Option.some.inj h1
  exact subscriptTail_builtinR (x:=w) pl.isList.typeIs slot_list_getitem.lookup
   (wpAny_getItem_list_neg (Q:=λr s'=>r=w/\EP X pins σ Q r s') pl.isList (by omega) (by rw [List.size_toArray] <;> omega) (by omega) (by rw [hj];simpa using ew) ⟨rfl,fin⟩) hs
theorem az:IxR X (rIxT X.K):=by
 intro value slice pins s σ H x y v u Q I rx ry h hs
 obtain ⟨p,xs,i,z,rfl,rfl,hq,he,q⟩:=h
 cases rx
 obtain ⟨t,rfl⟩:=ry
 obtain ⟨its,r,pl,hz⟩:=I.tuple hq
 obtain ⟨j,h1,h2,h3,h4,h5⟩:=yr he
 obtain ⟨w,ew,rw'⟩:=r.get h2
 have hl:=r.length
 have hn:=rW
 have fin:EP X pins σ Q w s:=⟨z,H,I,rw',q⟩
 exact subscriptTail_builtinR (x:=w) pl.typeIs slot_tuple_getitem.lookup
  (getItem_tuple (j:=j) (Q:=λr s'=>r=w/\EP X pins σ Q r s') pl (by omega) (by omega) (by rw [List.size_toArray,<- hl];exact h1) (by simpa using ew) ⟨rfl,fin⟩) hs
theorem rn (lo hi:Option Int) (n:Nat):(sliceBounds lo hi none n).1=((HT.sIx n 0 lo:Nat):Int)/\(sliceBounds lo hi none n).2.1=((HT.sIx n n hi:Nat):Int)/\(sliceBounds lo hi none n).2.2=1:=by
 refine ⟨?_,?_,rfl⟩
 ·cases lo with
  | none=>simp [sliceBounds,HT.sIx]
  | some i =>
   simp only [sliceBounds,HT.sIx,Option.getD_none,show (1:Int) > 0 by decide,if_true]
   by_cases h:i < 0
   ·simp only [h,if_true] <;> omega
   ·simp only [h,if_false] <;> omega
 ·cases hi with
  | none=>simp [sliceBounds,HT.sIx]
  | some i =>
   simp only [sliceBounds,HT.sIx,Option.getD_none,show (1:Int) > 0 by decide,if_true]
   by_cases h:i < 0
   ·simp only [h,if_true] <;> omega
   ·simp only [h,if_false] <;> omega
theorem pN (its:List Value) (lo hi:Option Int):slicePick its.toArray lo hi none=((its.drop (HT.sIx its.length 0 lo)).take (HT.sIx its.length its.length hi - HT.sIx its.length 0 lo)).toArray:=by
 obtain ⟨h1,h2,h3⟩:=rn lo hi its.toArray.size
 unfold slicePick
 rw [h1,h2,h3]
 simp only [sliceRange_one,pick_run,List.size_toArray] <;> rfl
noncomputable def rSlL (K:PySem.W.Frag):V->Option Int->Option Int->Hp->VK->Prop:=λx lo hi H Q=>∃ a xs,x=.ref a/\SqL K H a xs/\∀ p,H p=none->Q (.ref p) (upd H p (.lst (sv xs lo hi)))
theorem sl_list:SlR X (rSlL X.K):=by
 intro pins s σ H x v vl vu lo hi sl Q I rx hs pl pu h
 obtain ⟨a,xs,rfl,hx,q⟩:=h
 cases rx
 obtain ⟨its,r,ht,hz⟩:=I.list hx
 have hlen:=r.length
 refine ⟨"list",_,slot_list_getitem.lookup,ht.isList.typeIs,?_⟩
 refine wpAny_getItem_list_slice ht.isList hs pl pu .none (by simp) ?_ (by rw [List.size_toArray] <;> omega)
 rw [pN,<- hlen]
 refine ⟨.ref s.heap.objs.size,_,I.laid (t':=s.toks) (o:=.lst (sv xs lo hi)) (λb ob q=>Heap.get?_push_of_some _ q) (Nat.le_refl _) ?_,rfl,q _ (I.hok.fresh (Nat.le_refl _))⟩
 exact ⟨Nat.le_trans (mX xs lo hi) hz,_,0,(r.drop (HT.sIx xs.length 0 lo)).take (HT.sIx xs.length xs.length hi - HT.sIx xs.length 0 lo),Heap.get?_push_size _ rfl⟩
noncomputable def mU:V->Bool
 | .non=>true
 | .bl _=>true
 | .int _=>true
 | .str _=>true
 | _=>false
noncomputable def eqV:V->V->Bool
 | .non,.non=>true
 | .bl a,.bl b=>a == b
 | .bl a,.int b=>(if a then 1 else 0) == b
 | .int a,.bl b=>a == (if b then 1 else 0)
 | .int a,.int b=>a == b
 | .str a,.str b=>a == b
 | _,_=>false
theorem eqAt_V {A:Around} {s:Shared} {y x:V} {u v:Value} (ry:RelV y u) (rx:RelV x v) (fy:mU y=true) (fx:mU x=true):SeqAt.EqAt A s u v (eqV y x):=by
 cases y with
 | non =>
  cases ry
  cases x with
  | non=>cases rx;exact SeqAt.EqAt.same _
  | bl b=>cases rx;exact SeqAt.EqAt.none_bool b
  | int b=>obtain ⟨t,rfl⟩:=rx;exact SeqAt.EqAt.none_int b t
  | str b=>obtain ⟨t,rfl⟩:=rx;exact SeqAt.EqAt.none_str b t
  | _=>exact absurd (show false=true from fx) Bool.false_ne_true
 | bl a =>
  cases ry
  cases x with
  | non=>cases rx;exact SeqAt.EqAt.bool_none a
  | bl b=>cases rx;exact SeqAt.EqAt.bool_bool a b
  | int b=>obtain ⟨t,rfl⟩:=rx;exact SeqAt.EqAt.bool_int a b t
  | str b=>obtain ⟨t,rfl⟩:=rx;exact SeqAt.EqAt.bool_str a b t
  | _=>exact absurd (show false=true from fx) Bool.false_ne_true
 | int a =>
  obtain ⟨t',rfl⟩:=ry
  cases x with
  | non=>cases rx;exact SeqAt.EqAt.int_none a t'
  | bl b=>cases rx;exact SeqAt.EqAt.int_bool a t' b
  | int b=>obtain ⟨t,rfl⟩:=rx;exact SeqAt.EqAt.int_int a t' b t
  | str b=>obtain ⟨t,rfl⟩:=rx;exact SeqAt.EqAt.int_str a t' b t
  | _=>exact absurd (show false=true from fx) Bool.false_ne_true
 | str a =>
  obtain ⟨t',rfl⟩:=ry
  cases x with
  | non=>cases rx;exact SeqAt.EqAt.str_none a t'
  | bl b=>cases rx;exact SeqAt.EqAt.str_bool a t' b
  | int b=>obtain ⟨t,rfl⟩:=rx;exact SeqAt.EqAt.str_int a t' b t
  | str b=>obtain ⟨t,rfl⟩:=rx;exact SeqAt.EqAt.str_str a t' b t
  | _=>exact absurd (show false=true from fx) Bool.false_ne_true
 | _=>exact absurd (show false=true from fy) Bool.false_ne_true
noncomputable def eqU (x:V) (u:Value):Bool:=match u with
 | .none=>eqV .non x
 | .bool b=>eqV (.bl b) x
 | .int i _=>eqV (.int i) x
 | .str z _=>eqV (.str z) x
 | _=>false
theorem CQ {x y:V} {u:Value} (r:RelV y u) (f:mU y=true):eqU x u=eqV y x:=by
 cases y with
 | non=>cases r;rfl
 | bl b=>cases r;rfl
 | int i=>obtain ⟨t,rfl⟩:=r;rfl
 | str z=>obtain ⟨t,rfl⟩:=r;rfl
 | _=>exact absurd (show false=true from f) Bool.false_ne_true
theorem sE {x:V}:∀{xs:List V} {us:List Value},Vals xs us->xs.all mU=true->us.any (eqU x)=xs.any λy=>eqV y x
 | _,_,.nil,_=>rfl
 | y::xs,u::us,.cons r t,f=>by
  rw [List.all_cons,Bool.and_eq_true] at f
  rw [List.any_cons,List.any_cons,CQ r f.1,sE t f.2]
theorem oY {A:Around} {s:Shared} {x:V} {v:Value} (rx:RelV x v) (fx:mU x=true):∀{xs:List V} {us:List Value},Vals xs us->xs.all mU=true->∀ u∈us,SeqAt.EqAt A s u v (eqU x u)
 | _,_,.nil,_=>λu hu=>by cases hu
 | y::xs,u::us,.cons r t,f=>λu' hu=>by
  rw [List.all_cons,Bool.and_eq_true] at f
  rcases List.mem_cons.mp hu with rfl | hu
  ·rw [CQ r f.1];exact eqAt_V r rx f.1 fx
  ·exact oY rx fx t f.2 u' hu
noncomputable def inV (x:V) (xs:List V):Bool:=xs.any λy=>eqV y x
noncomputable def rIn (K:PySem.W.Frag) (neg:Bool):R2:=λx y H Q=>∃ p xs,y=.ref p/\(SqL K H p xs\/SqT K H p xs)/\mU x=true/\xs.all mU=true/\Q (.bl (if neg then !inV x xs else inV x xs)) H
theorem yO:OpR X (compareOp .In) (rIn X.K false):=by
 intro pins s σ H x y v u Q I rx ry h
 obtain ⟨p,xs,rfl,hq,fx,fs,q⟩:=h
 cases ry
 rcases hq with hq | hq
 ·obtain ⟨its,r,pl,hz⟩:=I.list hq
  refine SeqAt.in_listAt (eqU x) pl.isList (λw hw=>oY rx fx r fs w (by simpa using hw)) ⟨.bl _,H,I,rfl,?_⟩
  rw [show its.toArray.any (eqU x)=its.any (eqU x) by simp,sE r fs]
  exact q
 ·obtain ⟨its,r,pl,hz⟩:=I.tuple hq
  refine SeqAt.in_tupleAt (eqU x) pl (λw hw=>oY rx fx r fs w (by simpa using hw)) ⟨.bl _,H,I,rfl,?_⟩
  rw [show its.toArray.any (eqU x)=its.any (eqU x) by simp,sE r fs]
  exact q
theorem bV:gK X (.type "tuple") (λxs H Q=>∃ p ys,xs=[.ref p]/\((SqL X.K H p ys/\∀ l,H l=none->Q (.ref l) (upd H l (.tup ys)))\/(SqT X.K H p ys/\Q (.ref p) H))):=by
 intro pins s σ H xs us Q I r h
 obtain ⟨p,ys,rfl,h⟩:=h
 obtain ⟨u,rfl,rx⟩:=vals1 r
 cases rx
 rcases h with ⟨hq,q⟩ | ⟨hq,q⟩
 ·obtain ⟨its,r',pl,hz⟩:=I.list hq
  have hlen:=r'.length
  refine call_tuple_list pl.isList (λh' kp=>?_) (by simp only [List.size_toArray] <;> omega)
  have I1:Inv X pins σ H {s with heap:=h' }:=I.kept (t':=s.toks) kp
  have I2:Inv X pins σ (upd H h'.objs.size (.tup ys)) {s with heap:=h'.push {cls:=.type "tuple",data:=.seq its.toArray} } :=
   I1.laid (t':=s.toks) (λb o e=>Heap.get?_push_of_some _ e) (Nat.le_refl _) (show cy X.prog X.w _ _ _ (.tup ys) from ⟨hz,its,r',IsTup.new _ _⟩)
  exact ⟨.ref h'.objs.size,_,I2,rfl,q _ (I1.hok.fresh (Nat.le_refl _))⟩
 ·obtain ⟨its,r',pl,hz⟩:=I.tuple hq
  exact call_tuple_same pl ⟨.ref p,H,I,rfl,q⟩
noncomputable def tyV (K:PySem.W.Frag) (T:String) (x:V) (H:Hp):Prop:=match x with
 | .str _=>T="str"
 | .int _=>T="int"
 | .ref p=>(T="list"/\∃ xs,SqL K H p xs)\/(T="tuple"/\∃ o,K.lookup p=some o/\o.cls=.type "tuple"/\o.dict=none)\/
   (T="dict"/\((∃ kvs,H p=some (.dK kvs))\/∃ kvs,H p=some (.dT kvs)))\/(T="set"/\∃ S n,H p=some (.set S n))
 | _=>False
theorem Ah {pins:List (Addr×Obj)} {σ:St} {H:Hp} {s:Shared} {T:String} {x:V} {v:Value} (I:Inv X pins σ H s) (r:RelV x v) (ty:tyV X.K T x H) :
  s.TypeIs v T/\∀ a,v=.ref a->∃ ob,s.heap.get? a=some ob/\ob.dict=none:=by
 cases x with
 | str z =>
  obtain ⟨t,rfl⟩:=r
  cases (show T="str" from ty)
  exact ⟨typeIs_str s z t,λ_ e=>nomatch e⟩
 | int i =>
  obtain ⟨t,rfl⟩:=r
  cases (show T="int" from ty)
  exact ⟨typeIs_int s i t,λ_ e=>nomatch e⟩
 | ref p =>
  cases r
  rcases ty with ⟨rfl,xs,hq⟩ | ⟨rfl,o,hk,hc,hd⟩ | ⟨rfl,hk⟩ | ⟨rfl,S,n,hk⟩
  ·obtain ⟨its,_,pl,_⟩:=I.list hq
   refine ⟨pl.isList.typeIs,λa e=>?_⟩
   cases e
   obtain ⟨o,n,e,c,hd,_⟩:=pl
   exact ⟨o,e,hd⟩
  ·refine ⟨⟨o,I.kIn p o hk,hc⟩,λa e=>?_⟩
   cases e
   exact ⟨o,I.kIn _ o hk,hd⟩
  ·have z:∃ o,s.heap.get? p=some o/\o.ExactDict:=by
    rcases hk with ⟨kvs,hk⟩ | ⟨kvs,hk⟩
    ·obtain ⟨_,_,_,_,o,_,_,e,ex,_⟩:=I.hok p _ hk
     exact ⟨o,e,ex⟩
    ·obtain ⟨_,_,_,_,o,_,_,e,ex,_⟩:=I.hok p _ hk
     exact ⟨o,e,ex⟩
   obtain ⟨o,e,ex⟩:=z
   refine ⟨⟨o,e,ex.1⟩,λa e2=>?_⟩
   cases e2
   exact ⟨o,e,ex.2.1⟩
  ·obtain ⟨o,_,_,_,e,ex,_⟩:=I.hok p _ hk
   refine ⟨⟨o,e,ex.1⟩,λa e2=>?_⟩
   cases e2
   exact ⟨o,e,ex.2.1⟩
 | _=>exact False.elim ty
noncomputable def tBM0 (K:PySem.W.Frag) (T:String) (r:V->List V->Hp->VK->Prop) (to:TE):TE:=fun σ H Q=>to σ H λx H1=>tyV K T x H1/\r x [] H1 Q
noncomputable def tBM (K:PySem.W.Frag) (T:String) (r:V->List V->Hp->VK->Prop) (to:TE) (t:TA):TE:=fun σ H Q=>to σ H λx H1=>tyV K T x H1/\t σ H1 λxs H2=>r x xs H2 Q
variable {o e:Expr} {es:List Expr} {to:TE} {t:TA} {name:Str} {apos cpos:Pos} {T id:String} {r:V->List V->Hp->VK->Prop}
theorem lW (pa:PlainAttrs T) (slot:Slot T name id) (hty:typeOf (.builtin id)=pure (.type "method_descriptor")) (hm:MtR X id r) (ho:PE X o to)
  (hbase:attributeBase o name X.env (eval o X.env)=eval o X.env:=by rfl) (hline:(apos.endLine == cpos.line)=true:=by rfl):PE X (.Call (.Attribute o name apos) [] [] cpos) (tBM0 X.K T r to):=by
 intro pins s σ H Q I h
 refine wpAny_Call_method0_late hbase hline (thn (ho pins s σ H _ I h) λv s1 zz=>?_)
 obtain ⟨x,H1,I1,r1,ty,q1⟩:=zz
 obtain ⟨h1,h2⟩:=Ah I1 r1 ty
 exact ⟨T,id,pa,slot,hty,h1,h2,Calls.callWith_builtin rfl (PySem.evalArgs_none (hm pins s1 σ H1 x [] v [] Q I1 r1 .nil q1))⟩
theorem dJ (pa:PlainAttrs T) (slot:Slot T name id) (hty:typeOf (.builtin id)=pure (.type "method_descriptor")) (hm:MtR X id r) (ho:PE X o to) (ha:PA X (e::es) t)
  (hbase:attributeBase o name X.env (eval o X.env)=eval o X.env:=by rfl)
  (hfew:((backTo cpos (starEach (e::es) X.env)).all (λx=>!x.1) && (backToKw cpos (keywordEach [] X.env)).all (λx=>x.1.isSome)
   && decide ((e::es).length+([]:List Keyword).length+(if ([]:List Keyword).isEmpty then 0 else 1) < 30))=true:=by rfl)
  (hline:(apos.endLine == cpos.line)=true:=by rfl) (hs:starEach (e::es) X.env=(false,eval e X.env)::starEach es X.env:=by rfl) (hplain:(backTo cpos (starEach es X.env)).any (·.1)=false:=by rfl) :
  PE X (.Call (.Attribute o name apos) (e::es) [] cpos) (tBM X.K T r to t):=by
 intro pins s σ H Q I h
 refine wpAny_Call_method_late hbase hfew hline rfl (thn (ho pins s σ H _ I h) λv s1 zz=>?_)
 obtain ⟨x,H1,I1,r1,ty,q1⟩:=zz
 obtain ⟨h1,h2⟩:=Ah I1 r1 ty
 refine ⟨T,id,pa,slot,hty,h1,h2,?_⟩
 have hA:=ha cpos pins s1 σ H1 _ I1 q1
 rw [hs] at hA ⊢
 refine Calls.callWith_builtin (by show (false || (backTo cpos (starEach es X.env)).any (·.1))=false;rw [hplain] <;> rfl) (Calls.evalArgs_plain ?_)
 refine thn hA λus s2 zz=>?_
 obtain ⟨vs,H2,I2,r2,q2⟩:=zz
 exact hm pins s2 σ H2 x vs v us Q I2 r1 r2 q2
end
noncomputable def MtM (X:Cx) (id:String) (r:V->List V->Hp->VK->Prop):Prop :=
 ∀(
  pins:List (Addr×Obj)) (s:Shared) (σ:St) (H:Hp) (x:V) (xs:List V) (v:Value) (us:List Value) (Q:VK),Inv X pins σ H s->RelV x v->Vals xs us->r x xs H Q->
  wpAny (model X.prog X.w) X.A (call (.builtin id) (v::us)) (EP X pins σ Q) X.xe s
theorem Vals.one:∀{x:V} {us:List Value},Vals [x] us->∃ u,us=[u]/\RelV x u
 | _,_,.cons r .nil=>⟨_,rfl,r⟩
theorem Vals.zero:∀{us:List Value},Vals [] us->us=[]
 | _,.nil=>rfl
theorem Vals.dropLast {xs:List V} {us:List Value} (h:Vals xs us):Vals xs.dropLast us.dropLast:=by
 induction h with
 | nil=>exact .nil
 | cons r t ih =>
  cases t with
  | nil=>exact .nil
  | cons q t'=>exact .cons r ih
theorem Vals.reverse {xs:List V} {us:List Value} (h:Vals xs us):Vals xs.reverse us.reverse:=by
 induction h with
 | nil=>exact .nil
 | cons r t ih=>rw [List.reverse_cons,List.reverse_cons];exact Vals.append ih (.cons r .nil)
theorem wo {α:Type} (l:List α):l.eraseIdx (l.length - 1)=l.dropLast:=by
 induction l with
 | nil=>rfl
 | cons a r ih =>
  cases r with
  | nil=>rfl
  | cons b r =>
   have e:(a::b::r).length - 1=((b::r).length - 1)+1:=by
    have h1:(a::b::r).length=r.length+2:=rfl
    have h2:(b::r).length=r.length+1:=rfl
    omega
   rw [e,List.eraseIdx_cons_succ,ih]
   all_goals rfl
section
variable {X:Cx} {pins:List (Addr×Obj)} {σ:St} {H:Hp} {s:Shared} {l b:Addr} {xs ys zs:List V}
theorem Inv.lset {its its':List Value} {n:Nat} {f:Array Value->Array Value} {t':Nat} (I:Inv X pins σ H s) (hH:H l=some (.lst xs))
  (e:s.heap.get? l=some {cls:=.type "list",data:=.seq its.toArray n}) (hf:f its.toArray=its'.toArray) (hv:Vals ys its') (hz:ys.length<=sizeLine) :
  Inv X pins σ (upd H l (.lst ys)) {s with heap:=s.heap.update l (Obj.mapSeq f),toks:=t' }:=by
 have q:=PySem.IsL.update e f
 rw [hf] at q
 refine I.write (x:=l) (e:=l) (by rw [hH];exact trivial) (.inl rfl) (λb' u hb hu=>(Heap.get?_update_other s.heap (Obj.mapSeq f) (Ne.symm hb)).trans hu) ⟨_,q⟩ ?_
 exact ⟨hz,its',_,hv,q⟩
theorem Inv.lnew {its:List Value} {t':Nat} (I:Inv X pins σ H s) (hv:Vals ys its) (hz:ys.length<=sizeLine) :
  Inv X pins σ (upd H s.heap.objs.size (.lst ys)) {s with heap:=s.heap.push {cls:=.type "list",data:=.seq its.toArray},toks:=t' } :=
 I.laid (λ_ _ q=>Heap.get?_push_of_some _ q) (Nat.le_refl _) ⟨hz,its,0,hv,Heap.get?_push_size _ rfl⟩
theorem Inv.fresh (I:Inv X pins σ H s):H s.heap.objs.size=none:=I.hok.fresh (Nat.le_refl _)
theorem Inv.lstM (I:Inv X pins σ H s) (hH:H l=some (.lst xs)):xs.length<=sizeLine/\∃(its:List Value) (n:Nat),Vals xs its/\xs.length=its.length/\s.heap.get? l=some {cls:=.type "list",data:=.seq its.toArray n}:=by
 obtain ⟨z,its,n,r,e⟩:=I.hok l _ hH
 exact ⟨z,its,n,r,r.length,e⟩
theorem Cd {n:Nat} (h:n<=sizeLine):Builtin.List.listTooLong n=false:=by
 unfold Builtin.List.listTooLong
 exact decide_eq_false (by omega)
end
section
variable {X:Cx}
inductive uY (x:V) (vs:List V) (H:Hp) (Q:VK):Prop where
 | mk (l:Addr) (xs:List V) (y:V) (z_0:x=.ref l) (z_1:vs=[y]) (z_2:H l=some (.lst xs)) (z_3:xs.length < sizeLine) (z_4:Q .non (upd H l (.lst (xs++[y])))):uY  x vs H Q
noncomputable def rAppend:V->List V->Hp->VK->Prop:=λx vs H Q=>uY  x vs H Q
theorem bh:MtM X "list.append" rAppend:=by
 intro pins s σ H x vs v us Q I rx rv h
 obtain ⟨l,xs,y,rfl,rfl,hH,hz,q⟩:=h
 cases rx
 obtain ⟨u,rfl,ru⟩:=rv.one
 obtain ⟨z,its,n,r,hl,e⟩:=I.lstM hH
 refine call_meets F.slot_list_append ⟨_,e,rfl⟩ F.entry_list_append (F.args_list_append_2 _ _) (PySem.list_append l its.toArray n u (by rw [List.size_toArray];omega)) ⟨e,?_⟩
 refine ⟨.non,_,I.lset (its':=its++[u]) hH e (by simp) (r.append (.cons ru .nil)) ?_,rfl,q⟩
 rw [List.length_append,List.length_singleton]
 omega
noncomputable def rExtend:V->List V->Hp->VK->Prop:=λx vs H Q=>∃ l b xs zs,x=.ref l/\vs=[.ref b]/\H l=some (.lst xs)/\H b=some (.lst zs)/\xs.length+zs.length<=sizeLine/\Q .non (upd H l (.lst (xs++zs)))
theorem lZ:MtM X "list.extend" rExtend:=by
 intro pins s σ H x vs v us Q I rx rv h
 obtain ⟨l,b,xs,zs,rfl,rfl,hH,hB,hz,q⟩:=h
 cases rx
 obtain ⟨u,rfl,ru⟩:=rv.one
 cases ru
 obtain ⟨z,its,n,r,hl,e⟩:=I.lstM hH
 obtain ⟨z2,its2,n2,r2,hl2,e2⟩:=I.lstM hB
 have hsz:its.toArray.size+its2.toArray.size<=sizeLine:=by rw [List.size_toArray,List.size_toArray];omega
 have hlong:¬ (!its.toArray.isEmpty && Builtin.List.listTooLong (its.toArray.size+its2.toArray.size))=true:=by
  rw [Cd hsz,Bool.and_false]
  exact Bool.false_ne_true
 refine call_meets F.slot_list_extend ⟨_,e,rfl⟩ F.entry_list_extend (F.args_list_extend_2 _ _)
  (AutoSeq1.list_extend_list_list_0 l its.toArray n b its2.toArray n2 hlong (by rw [List.size_toArray];omega) (by omega)) ⟨e,e2,?_⟩
 refine ⟨.non,_,I.lset (its':=its++its2) hH e (by simp) (r.append r2) ?_,rfl,q⟩
 rw [List.length_append]
 omega
noncomputable def rPop:V->List V->Hp->VK->Prop:=λx vs H Q=>∃ l xs y,x=.ref l/\vs=[]/\H l=some (.lst xs)/\xs[xs.length - 1]?=some y/\Q y (upd H l (.lst xs.dropLast))
theorem rR:MtM X "list.pop" rPop:=by
 intro pins s σ H x vs v us Q I rx rv h
 obtain ⟨l,xs,y,rfl,rfl,hH,hy,q⟩:=h
 cases rx
 have hus:=rv.zero
 subst hus
 obtain ⟨z,its,n,r,hl,e⟩:=I.lstM hH
 obtain ⟨u,hu,ru⟩:=r.get hy
 have hy':its.toArray[its.toArray.size - 1]?=some u:=by
  show its.toArray[its.length - 1]?=some u
  rw [<- Array.getElem?_toList,<- hl]
  exact hu
 refine call_meets F.slot_list_pop ⟨_,e,rfl⟩ F.entry_list_pop (F.args_list_pop_1 _) (MeetsSeq.list_pop_last l its.toArray n u hy' (by rw [List.size_toArray];omega)) ⟨e,?_⟩
 refine ⟨y,_,I.lset (its':=its.dropLast) hH e ?_ r.dropLast ?_,ru,q⟩
 ·show its.toArray.eraseIdxIfInBounds (its.toArray.size - 1)=its.dropLast.toArray
  rw [List.size_toArray,List.eraseIdxIfInBounds_toArray,wo]
 ·rw [List.length_dropLast]
  omega
noncomputable def Bi:V->List V->Hp->VK->Prop:=λx vs H Q=>∃ l xs,x=.ref l/\vs=[]/\H l=some (.lst xs)/\Q .non (upd H l (.lst xs.reverse))
theorem oU:MtM X "list.reverse" Bi:=by
 intro pins s σ H x vs v us Q I rx rv h
 obtain ⟨l,xs,rfl,rfl,hH,q⟩:=h
 cases rx
 have hus:=rv.zero
 subst hus
 obtain ⟨z,its,n,r,hl,e⟩:=I.lstM hH
 refine call_meets F.slot_list_reverse ⟨_,e,rfl⟩ F.entry_list_reverse (F.args_list_reverse_1 _) (AutoSeq1.list_reverse_list_0 l its.toArray n (by rw [List.size_toArray];omega)) ⟨e,?_⟩
 refine ⟨.non,_,I.lset (its':=its.reverse) hH e (by simp) r.reverse ?_,rfl,q⟩
 rw [List.length_reverse]
 omega
noncomputable def rCat:R2:=λx y H Q=>∃ l b xs zs,x=.ref l/\y=.ref b/\H l=some (.lst xs)/\H b=some (.lst zs)/\xs.length+zs.length<=sizeLine/\∀ p,H p=none->Q (.ref p) (upd H p (.lst (xs++zs)))
theorem BD:OpR X (binaryOp .Add) rCat:=by
 intro pins s σ H x y v u Q I rx ry h
 obtain ⟨l,b,xs,zs,rfl,rfl,hH,hB,hz,q⟩:=h
 cases rx
 cases ry
 obtain ⟨z,its,n,r,hl,e⟩:=I.lstM hH
 obtain ⟨z2,its2,n2,r2,hl2,e2⟩:=I.lstM hB
 refine PySem.P.add_list e e2 ?_ (by rw [List.size_toArray,List.size_toArray];omega)
 have ea:its.toArray++its2.toArray=(its++its2).toArray:=by simp
 rw [ea]
 exact ⟨.ref _,_,I.lnew (t':=s.toks) (r.append r2) (by rw [List.length_append];omega),rfl,q _ I.fresh⟩
end
section
variable {prog:Program} {w:World} {A:Around} {E:Value->Shared->Prop} {s:Shared}
set_option maxRecDepth 100000 in
end
section
variable {X:Cx}
end
end L2
namespace Att
open PySem PySem.W PySem.Calls PyProof.Rows
theorem nq {P:Params} {h:Heap}:∀(ns:List Int) (vs:List Value),WellAll P h vs (ns.map WData.int)->IntsAre vs ns:=by
 intro ns
 induction ns with
 | nil =>
  intro vs w
  rw [List.map_nil] at w
  cases w
  exact .nil
 | cons n ns ih =>
  intro vs w
  rw [List.map_cons] at w
  cases w with
  | cons a b =>
   cases a
   exact .cons _ _ (ih _ b)
theorem yH {l:OpenLaw} {n:Nat} (hn:l.most=some n) {P:Params} {h:Heap} {args:List WData} {vals:List Value}
  (hpre:l.row.toRowW.claim.pre args=true) (hwl:WellAll P h vals args) :
  ∃ a vs ns,vals=[Value.ref a]/\args=[WData.list (ns.map WData.int)]/\h.get? a=some {cls:=.type "list",data:=.seq vs.toArray}/\IntsAre vs ns/\ns.length<=n:=by
 have hsh:WShape.hasAll [] args [.list .int]=true:=(pre_splitW hpre).1
 have hc:l.pre.holds [] {args:=args}=true:=(pre_splitW hpre).2
 obtain ⟨d,r,rfl,h1,h2⟩:=hasAllW_cons hsh
 obtain rfl:=hasAllW_nil h2
 obtain ⟨xs,rfl,h3⟩:=hasW_list h1
 obtain ⟨ns,rfl⟩:=items_int h3
 have hlen:ns.length<=n:=by
  unfold OpenLaw.pre at hc
  have h4:(WTm.not (.lt (.lit (.int (n:Int))) (.len (.arg 0)))).holds [] {args:=[.list (ns.map .int)] }=true:=by
   have h4:=(holds_andW hc).1
   rw [hn] at h4
   exact h4
  have h5:=condW_of h4 (w_not (w_lt w_lit (w_len_list (w_arg rfl))))
  rw [List.length_map] at h5
  refine Nat.le_of_not_lt λq=>?_
  have q':(n:Int) < ((ns.length:Nat):Int):=by omega
  first
   | (rw [decide_eq_true q'] at h5;exact absurd h5 (by decide))
   | (simp at h5;omega)
 cases hwl with
 | cons w1 w2 =>
  cases w2
  cases w1 with
  | list ho hall=>exact ⟨_,_,ns,rfl,rfl,ho,nq ns _ hall,hlen⟩
theorem yL (l:OpenLaw) (args:List WData):l.row.toRowW.claim.post args (.bool true) args=true :=
 postW_of (r:=l.row.toRowW) (X:=(true == true))
  (show WShape.has [] (.bool true) .bool=true by first | rfl | decide | simp [WShape.has,WShape.arms,WShape.armsAll])
  (show (WTm.eq .res (.lit (.bool true))).value [] {args:=args,res:=some (.bool true),after:=args}=some (.bool (true == true)) from w_eq_bool (w_res rfl) w_lit) rfl
section
variable {prog:Program} {w:World} {A:Around} {E:Value->Shared->Prop} {s:Shared} {K:Frag}
end
end Att
namespace L2
open PySem PySem.Spec PyProof.Rows
theorem qc:∀{vs:List Value} {ns:List Int},IntsAre vs ns->Vals (ns.map V.int) vs
 | _,_,.nil=>.nil
 | _,_,.cons n t h=>.cons ⟨t,rfl⟩ (qc h)
noncomputable def Only (H:Hp):Prop:=∀ b,H b=none\/∃ o xs,H b=some (.frz o (.lst xs))
theorem Cr {P:Program} {w:World} {K:PySem.W.Frag} {mg mb:Str->Option Value} {CX:CXT} {k:Nat} {fa a:Addr} {fd:FuncData} {x:Str} {sp:Sp} {s₁:Shared} {vs:List Value} {ns:List Int}
  (KX:K.In s₁.heap) (hns:s₁.heap.Ns mainGlobals mg) (hb:s₁.heap.Ns builtinsNs mb) (hbb:∀ x:Str,x≠"__name__"->mb x=bootBuiltins x) (hlim:s₁.heap.NoLimit) (hg:s₁.gens=#[])
  (ha:s₁.heap.get? a=some {cls:=.type "list",data:=.seq vs.toArray}) (hi:IntsAre vs ns) (hl:ns.length<=sizeLine) (hr:cY k callerA)
  (F:∀ base:Heap,K.In base->base.Ns mainGlobals mg->lB P w K mg base CX k fa fd [x] sp) (hbind:∀(s:Shared) (u:Value),BindsTo s fd ⟨[u],[]⟩ [(x,u)])
  (hsp:∀ H:Hp,Only H->SqL K H a (ns.map V.int)->sp [.ref a] H (λv _=>v=.bl true) λ_ _ _=>False)
  (hCX:∀ H e s',CX [] H s₁ (λ_ _ _=>False) e s'->False) :
  codeAny (model P w) callerA (.call (.ref fa) ⟨[.ref a],[]⟩) (λr s'=>r=.ok (.ret (.bool true))/\OldK s₁.heap s'.heap/\s'.os=s₁.os/\AllBare s'.gens) s₁:=by
 have rv:=qc hi
 have lenV:=hi.length
 have core:∀ H:Hp,Only H->SqL K H a (ns.map V.int)->HOk P w H s₁.heap->(∀ b,H b≠none->b=a)->(H a≠none->K.lookup a=none)->
   codeAny (model P w) callerA (.call (.ref fa) ⟨[.ref a],[]⟩) (λr s'=>r=.ok (.ret (.bool true))/\OldK s₁.heap s'.heap/\s'.os=s₁.os/\AllBare s'.gens) s₁:=by
  intro H hO hS hok hA hK
  have base_of:∀{b:Addr} {o:Obj},s₁.heap.get? b=some o->H b=none->(se s₁.heap H).get? b=some o:=λe n=>Cz e n
  have noA:∀{b:Addr} {o:Obj} {es:Array DictEntry} {ep:Nat},s₁.heap.get? b=some o->o.data=.dict es ep->H b=none:=λ{b o es ep} e d=>by
   cases q:H b with
   | none=>rfl
   | some u =>
    have e':b=a:=hA b (by rw [q];simp)
    subst e'
    rw [ha] at e;cases e
    have d':Data.seq vs.toArray _=Data.dict es ep:=d
    cases d'
  have nsK:∀{b:Addr} {m:Str->Option Value},s₁.heap.Ns b m->(se s₁.heap H).Ns b m:=λ{b m} ⟨o,es,ep,e,d,r⟩=>⟨o,es,ep,base_of e (noA e d),d,r⟩
  have hKb:K.In (se s₁.heap H):=λb o e=>base_of (KX b o e) (by
   cases q:H b with
   | none=>rfl
   | some u =>
    have e':b=a:=hA b (by rw [q];simp)
    subst e'
    rw [hK (by rw [q];simp)] at e;cases e)
  have hM:Mod K mg (se s₁.heap H):=⟨hKb,nsK hns,⟨mb,nsK hb,hbb⟩,let ⟨mc,h1,h2⟩:=hlim;⟨mc,nsK h1,h2⟩⟩
  have e0:wO P w K mg (se s₁.heap H) callerA [] s₁ H:=⟨rfl,hM,λb o e=>of_hidT e,Nat.le_of_eq (zA _ _),trivial,λb hb=>absurd (show b∈([]:List Addr) from hb) (by simp),hok,.of_eq hg⟩
  refine codeAny_mono ((F _ hKb (nsK hns)).run callerA [] s₁ H ⟨[.ref a],[]⟩ [.ref a] [.ref a] _ _ hr e0 (hbind s₁ (.ref a)) (.cons rfl .nil) (hsp H hO hS)) λr s' h=>?_
  cases r with
  | error e=>exact (hCX H e s' h).elim
  | ok fl =>
   cases fl with
   | next=>exact False.elim h
   | brk=>exact False.elim h
   | cont=>exact False.elim h
   | ret u =>
    obtain ⟨v,H',os,bare,un,hok',r',q⟩:=h
    have q':v=.bl true:=q
    subst q'
    obtain rfl:u=Value.bool true:=r'
    refine ⟨rfl,OldK.of_keep λb o e=>?_,os,bare⟩
    cases q:H b with
    | none=>exact un.keep b o e q (by intro z;exact absurd (show b∈([]:List Addr) from z) (by simp)) (by simp)
    | some u =>
     rcases hO b with z | ⟨ob,xs,z⟩
     ·rw [q] at z;cases z
     ·have z2:=un.frzs b ob _ z
      obtain ⟨e1,_⟩:=hok b _ z
      obtain ⟨e2,_⟩:=hok' b _ z2
      rw [e] at e1;cases e1
      exact e2
 cases hk:K.lookup a with
 | some o =>
  have e:=KX a o hk
  rw [ha] at e
  cases e
  refine core (λ_=>none) (λ_=>.inl rfl) (.inr ⟨_,vs.toArray,_,hk,rfl,rfl,rfl,by rw [List.size_toArray,lenV];exact hl,by simpa using rv⟩) (λb u z=>by have z':(none:Option HO)=some u:=z;cases z') (λb z=>absurd rfl z) λz=>absurd rfl z
 | none =>
  refine core (λb=>if b=a then some (.frz {cls:=.type "list",data:=.seq vs.toArray} (.lst (ns.map V.int))) else none) (λb=>?_) (.inl (.inr ⟨{cls:=.type "list",data:=.seq vs.toArray},if_pos rfl⟩)) (λb u z=>?_) (λb z=>?_) λ_=>hk
  ·by_cases hb:b=a
   ·exact .inr ⟨_,_,if_pos hb⟩
   ·exact .inl (if_neg hb)
  ·by_cases hb:b=a
   ·have z':=(if_pos hb).symm.trans z
    cases z'
    subst hb
    exact ⟨ha,by rw [List.length_map];exact hl,vs,_,rv,ha⟩
   ·have z':=(if_neg hb).symm.trans z
    cases z'
  ·by_cases hb:b=a
   ·exact hb
   ·exact absurd (if_neg hb) z
noncomputable abbrev KOf {K:PySem.W.Frag} {h:Heap} (_:K.In h):PySem.W.Frag:=K
noncomputable def inClass (s:Stmt) (j:Nat):Stmt:=match s with
 | .ClassDef _ _ _ body _ _ _ _ _ _ _=>body.getD j (.Pass ⟨0,0,0,0⟩)
 | _=>.Pass ⟨0,0,0,0⟩
noncomputable def eP (s:Stmt):Arguments:=match s with
 | .FunctionDef _ a _ _ _ _ _ _ _ _=>a
 | _=>{posonlyargs:=[],args:=[],vararg:=none,kwonlyargs:=[],kw_defaults:=[],kwarg:=none,defaults:=[] }
noncomputable def aY (s:Stmt):List Stmt:=match s with
 | .FunctionDef _ _ b _ _ _ _ _ _ _=>b
 | _=>[]
noncomputable def ak (s:Stmt):Scope:=match s with
 | .FunctionDef _ _ _ _ _ _ sc _ _ _=>sc
 | _=>{kind:=.function,names:=[],isGenerator:=false,isCoroutine:=false}
noncomputable abbrev CX0:CXT:=λ_ _ _ _ _ _=>False
noncomputable abbrev E0:XK:=λ_ _ _=>False
theorem xP {X:Cx}:Passes CX0 X E0:=λ_ _ _ _ _ _ _ h=>h.elim
structure Fun (K:PySem.W.Frag) (x qual:Str) (st:Stmt) (f:Addr) (fd:FuncData):Prop where
 ex:∃(oc:Value) (od:Option Addr) (kV doc pm:Value) (an:Option Addr) (cdv ct:Value) (osl:Array (Option Value)),
  fd=PySem.W.fnOf x qual (eP st) (aY st) (ak st) .none kV doc pm an cdv ct/\K.lookup f=some ⟨oc,od,.func fd,osl⟩/\PySem.W.codeIn K cdv qual=true
 kp:PySem.W.keepIn K (.ref f)=true
section
variable {P:Program} {w:World} {K:PySem.W.Frag} {mg:Str->Option Value} {base:Heap}
theorem Fun.ok {x qual:Str} {st:Stmt} {f:Addr} {fd:FuncData} {N ps:List Str} {k:Nat} {sp:Sp} (F:Fun K x qual st f fd) (S:aG N ps (ak st)) (len:∀ vs H Q E,sp vs H Q E->vs.length=ps.length)
  (hbody:∀(cdv:Value) (A:Around) (outer:List Env) (s:Shared) (H:Hp) (vs:List V) (Q:VK) (E:XK),cY k (A.deeper (envOfC qual (ak st) s.heap.objs.size f cdv))->sp vs H Q E->
   ∃ t,PSs (cM CX0 P w K mg base N qual (ak st) f cdv A outer s H E).nox (aY st) t/\t {nx:=λ_ H'=>Q .non H',rt:=Q} (start N vs) H):lB P w K mg base CX0 (k+1) f fd ps sp:=by
 obtain ⟨oc,od,kV,doc,pm,an,cdv,ct,osl,rfl,lk,hcd⟩:=F.ex
 refine fn_of lk hcd S len λA outer s H vs Q E hr hsp=>?_
 obtain ⟨t,h,q⟩:=hbody cdv A outer s H vs Q E hr hsp
 exact ⟨t,h.nox,q⟩
theorem Fun.binds {x qual:Str} {st:Stmt} {f:Addr} {fd:FuncData} {ps:List Str} (F:Fun K x qual st f fd)
  (h:∀(kV doc pm:Value) (an:Option Addr) (cdv ct:Value) (us:List Value),us.length=ps.length->bindArgs (PySem.W.fnOf x qual (eP st) (aY st) (ak st) .none kV doc pm an cdv ct) ⟨us,[]⟩=pure (ps.zip us)):Binds K fd ps []:=by
 obtain ⟨oc,od,kV,doc,pm,an,cdv,ct,osl,rfl,lk,hcd⟩:=F.ex
 exact .all (h kV doc pm an cdv ct)
theorem CK {x qual:Str} {st:Stmt} {f:Addr} {oc:Value} {od an:Option Addr} {osl:Array (Option Value)} {kV doc pm cdv ct:Value} (l:K.lookup f=some ⟨oc,od,.func (PySem.W.fnOf x qual (eP st) (aY st) (ak st) .none kV doc pm an cdv ct),osl⟩)
  (c:PySem.W.codeIn K cdv qual=true) (k:PySem.W.keepIn K (.ref f)=true):Fun K x qual st f (PySem.W.fnOf x qual (eP st) (aY st) (ak st) .none kV doc pm an cdv ct):=⟨⟨oc,od,kV,doc,pm,an,cdv,ct,osl,rfl,l,c⟩,k⟩
end
theorem hu_of {A:Around} {k:Nat} (hr:cY k A):A.units+1 < cLine:=Nat.lt_of_le_of_lt (Nat.add_le_add_left (by decide:1<=64) _) hr.units
theorem aN {n:Nat} (h:n<=1000):n < sizeLine:=Nat.lt_of_le_of_lt h (by decide)
section
variable {X:Cx}
theorem pv (i:Nat) {x:Str} {pos:Pos} (hN:X.N[i]?=some x:=by rfl) (hv:Vis X.env.scope x:=by first | exact Or.inl rfl | exact Or.inr (Or.inl rfl) | exact Or.inr (Or.inr rfl)) (hd:(x == ("__debug__":Str))=false:=by decide)
  (hcd:(x == ("__classdict__":Str))=false:=by decide):PE X (.Name x pos) (Ar i):=Bu hN hv hd hcd
end
theorem bM {A B:Prop} (h:B):if false=true then A else B:=by
 rw [if_neg Bool.false_ne_true]
 exact h
theorem dk {A B:Prop} (h:A):if true=true then A else B:=by
 rw [if_pos rfl]
 exact h
theorem bY {c A B:Prop} [Decidable c] (h1:c->A) (h2:¬c->B):if c then A else B:=by
 by_cases h:c
 ·rw [if_pos h]
  exact h1 h
 ·rw [if_neg h]
  exact h2 h
theorem iteNS {c A B:Prop} [Decidable c] (hc:c) (h:B):if (!decide c)=true then A else B:=by
 rw [decide_eq_true hc]
 exact bM h
noncomputable def aJ (H H':Hp):Prop:=∀ b o,H b=some o->H' b=some o
theorem aJ.refl (H:Hp):aJ H H:=λ_ _ h=>h
theorem aJ.trans {H H1 H2:Hp} (a:aJ H H1) (b:aJ H1 H2):aJ H H2:=λc o h=>b c o (a c o h)
theorem aJ.free {H H':Hp} (e:aJ H H') {l:Addr} (h:H' l=Option.none):H l=Option.none:=by
 cases q:H l with
 | none=>rfl
 | some o =>
  rw [e l o q] at h
  cases h
end L2
set_option maxHeartbeats 4000000
namespace L2
open PySem PySem.Spec PyProof.Rows
noncomputable def bc (X:Cx) (scope:Scope) (cl:List (Str×Addr)) (N:List Str) (s:Shared) (H:Hp) (fp:List Addr):Cx :=
 {prog:=X.prog,w:=X.w,K:=X.K,mg:=X.mg,base:=X.base,A:=X.A,N:=N,s₀:=s,H₀:=H,env:=compEnvC scope cl s.heap.objs.size X.env,
  outer:=X.stack,stack:=X.stack,ex:=fp,fn:=λ_=>false,calm:=X.calm,pn:=[],xe:=λ_ _=>False}
noncomputable def bF (X:Cx) (x:Str) (js:List Nat):List Str:=x::js.map λj=>X.N.getD j ""
noncomputable def cw (js:List Nat) (σ:St):St:=js.map λj=>(σ[j]?).getD none
structure eS (X:Cx) (scope:Scope) (js:List Nat):Prop where
 all:∀ j∈js,∃ y,X.N[j]?=some y/\(X.env.kindOf y=some .cell\/X.env.kindOf y=some .free)/\(y,NameKind.free)∈scope.names/\
  ((relabel scope X.env).names.lookup y=some .cell\/(relabel scope X.env).names.lookup y=some .free)
theorem cP {X:Cx} {scope:Scope}:eS X scope []:=⟨λ_ h=>nomatch h⟩
theorem bP {X:Cx} {scope:Scope} {j:Nat} {js:List Nat} {y:Str} (h1:X.N[j]?=some y) (h2:X.env.kindOf y=some .cell\/X.env.kindOf y=some .free) (h3:(y,NameKind.free)∈scope.names)
  (h4:(relabel scope X.env).names.lookup y=some .cell\/(relabel scope X.env).names.lookup y=some .free) (r:eS X scope js):eS X scope (j::js) :=
 ⟨λk hk=>by
  rcases List.mem_cons.mp hk with e | e
  ·subst e;exact ⟨y,h1,h2,h3,h4⟩
  ·exact r.all k e⟩
theorem cL {env:Env}:∀{names:List (Str×NameKind)} {y:Str} {k:NameKind},
  (names.map λ(n,k)=>if (k == NameKind.free && env.scope.kind == .function && env.kindOf n == some .cell) then (n,NameKind.cell) else (n,k)).lookup y=some k->
  ∃ k',(y,k')∈names/\(k'=k\/(k=.cell/\k'=.free))
 | [],_,_,h=>by simp at h
 | (n,k0)::r,y,k,h=>by
  by_cases hc:(k0 == NameKind.free && env.scope.kind == .function && env.kindOf n == some .cell)=true
  ·rw [List.map_cons] at h
   dsimp only at h
   rw [if_pos hc] at h
   simp only [List.lookup_cons] at h
   have hf:k0=.free:=by
    rw [Bool.and_eq_true,Bool.and_eq_true] at hc
    exact beq_iff_eq.mp hc.1.1
   cases hx:y == n with
   | true =>
    rw [hx] at h
    have e:=beq_iff_eq.mp hx
    subst e
    have e2:=Option.some.inj h
    exact ⟨k0,List.mem_cons_self,.inr ⟨e2.symm,hf⟩⟩
   | false =>
    rw [hx] at h
    obtain ⟨k',m,q⟩:=cL h
    exact ⟨k',List.mem_cons_of_mem _ m,q⟩
  ·rw [List.map_cons] at h
   dsimp only at h
   rw [if_neg hc] at h
   simp only [List.lookup_cons] at h
   cases hx:y == n with
   | true =>
    rw [hx] at h
    have e:=beq_iff_eq.mp hx
    subst e
    have e2:=Option.some.inj h
    exact ⟨k0,List.mem_cons_self,.inl e2⟩
   | false =>
    rw [hx] at h
    obtain ⟨k',m,q⟩:=cL h
    exact ⟨k',List.mem_cons_of_mem _ m,q⟩
section
variable {X:Cx} {pins:List (Addr×Obj)} {σ:St} {H:Hp} {s:Shared} {scope:Scope} {cl:List (Str×Addr)} {x:Str} {js:List Nat} {fp:List Addr}
theorem comp_ok (I:Inv X pins σ H s) (hk:scope.kind=.function) (hcell:∀ y∈scope.names,y.2≠.cell)
  (hcl1:∀ y c,cl.lookup y=some c->X.env.cells.lookup y=some c) (hcl2:∀ y,(y,NameKind.free)∈scope.names->∃ c,cl.lookup y=some c)
  (hf:∀ b∈fp,ic X pins H b) (hlt:∀ b∈fp,b < s.heap.objs.size):(bc X scope cl (bF X x js) s H fp).Ok where
 mod:=I.ok.mod
 kind:=hk
 glob:=I.ok.glob
 blt:=I.ok.blt
 above:=Nat.le_refl _
 inj:=λy z c h1 h2=>I.ok.inj y z c (hcl1 y c h1) (hcl1 z c h2)
 has:=λy hy=>by
  have hy':(relabel scope X.env).names.lookup y=some .cell\/(relabel scope X.env).names.lookup y=some .free:=hy
  rcases hy' with h | h
  ·obtain ⟨k',m,q⟩:=cL h
   rcases q with q | ⟨_,q⟩
   ·exact absurd q (hcell _ m)
   ·subst q;exact hcl2 y m
  ·obtain ⟨k',m,q⟩:=cL h
   rcases q with q | ⟨q,_⟩
   ·subst q;exact hcl2 y m
   ·cases q
 cab:=λy c h _=>by cases h
 hd:=I.ok.hd
 frames:=I.ok.frames
 stk:=.inl rfl
 exf:=λb hb=>⟨Nat.ne_of_lt (hlt b hb),λy c h=>(hf b hb).2.2.2.2.1 y c (hcl1 y c h)⟩
 bs:=I.bs
 bsz:=Nat.le_trans I.ok.bsz I.sz
 noex:=λb o e hb=>by
  rcases (hf b hb).2.2.2.1 with z | z
  ·exact I.ok.noex b o e z
  ·exact absurd (Nat.lt_of_lt_of_le (Heap.lt_size e) (Nat.le_trans I.ok.bsz z)) (Nat.lt_irrefl _)
 exfs:=λb hb hz=>(List.mem_cons.mp (I.stkSub b hz)).elim (hf b hb).2.1 (hf b hb).2.2.1
 funs:=I.stack
 frf:=I.stkFree
theorem wx {h₁:Heap} {tk:Nat} (I:Inv X pins σ H s) (hk:scope.kind=.function) (hcell:∀ y∈scope.names,y.2≠.cell)
  (hcl1:∀ y c,cl.lookup y=some c->X.env.cells.lookup y=some c) (hcl2:∀ y,(y,NameKind.free)∈scope.names->∃ c,cl.lookup y=some c) (hjs:eS X scope js)
  (hf:∀ b∈fp,ic X pins H b) (hlt:∀ b∈fp,b < s.heap.objs.size) {m:Str->Option Value} (hn:h₁.Ns s.heap.objs.size m) (hkeep:∀ b o,s.heap.get? b=some o->h₁.get? b=some o) :
  Inv (bc X scope cl (bF X x js) s H fp) [] (none::cw js σ) H {s with heap:=h₁,toks:=tk} where
 ok:=comp_ok I hk hcell hcl1 hcl2 hf hlt
 os:=rfl
 bare:=I.bare
 base:=Un.kept hkeep
 loc:=by
  refine ⟨m,hn,λi y v h1 h2 h3=>?_⟩
  cases i with
  | zero =>
   have z:(some none:Option (Option V))=some (some v):=h2
   cases z
  | succ k =>
   have h1':(js.map λj=>X.N.getD j "")[k]?=some y:=h1
   have h2':(js.map λj=>(σ[j]?).getD none)[k]?=some (some v):=h2
   rw [List.getElem?_map] at h1' h2'
   cases hj:js[k]? with
   | none=>rw [hj] at h1';cases h1'
   | some j =>
    rw [hj] at h1' h2'
    have e1:X.N.getD j ""=y:=Option.some.inj h1'
    have e2:(σ[j]?).getD none=some v:=Option.some.inj h2'
    obtain ⟨y',n1,n2,n3,n4⟩:=hjs.all j (List.mem_of_getElem? hj)
    have e3:y'=y:=by rw [<- e1,List.getD_eq_getElem?_getD,n1];rfl
    subst e3
    have e4:σ[j]?=some (some v):=by
     cases q:σ[j]? with
     | none=>rw [q] at e2;cases e2
     | some a=>rw [q] at e2;exact congrArg some e2
    obtain ⟨m0,_,hl⟩:=I.loc
    obtain ⟨u,r,l⟩:=hl j y' v n1 e4 (n2.elim (λz=>Or.inr (Or.inl z)) λz=>Or.inr (Or.inr z))
    refine ⟨u,r,.inr ⟨n4,?_⟩⟩
    rcases l with ⟨l,_⟩ | ⟨_,c,hc,hi⟩
    ·exfalso
     rcases n2 with z | z <;> (rw [z] at l;cases l)
    ·obtain ⟨c',hc'⟩:=hcl2 y' n3
     have e5:=hcl1 y' c' hc'
     rw [hc] at e5
     have e6:=Option.some.inj e5
     subst e6
     obtain ⟨o,ho,hd⟩:=hi
     exact ⟨c,hc',o,hkeep c o ho,hd⟩
 cell:=λy c h=>by
  obtain ⟨v,o,ho,hd⟩:=I.cell y c (hcl1 y c h)
  exact ⟨v,o,hkeep c o ho,hd⟩
 free:=I.hok.fresh (Nat.le_refl _)
 freeC:=λy c h=>I.freeC y c (hcl1 y c h)
 pin:=λp hp=>absurd (show p∈([]:List (Addr×Obj)) from hp) (by simp)
 hok:=I.hok.kept hkeep
 len:=by
  show (none::cw js σ).length=(bF X x js).length
  simp [cw,bF]
end
noncomputable def PIf (X:Cx) (ifs:List Expr) (t:TT):Prop :=
 ∀(
  pins:List (Addr×Obj)) (s:Shared) (σ:St) (H:Hp) (Q:Bool->Hp->Prop),Inv X pins σ H s->t σ H Q->
  wpAny (model X.prog X.w) X.A (forIn ifs true λc r=>if r=true then do let ok <- isTrue c X.env (eval c X.env);pure (ForInStep.yield ok) else pure (ForInStep.yield r)) (TP X pins σ Q) X.xe s
noncomputable def mK:TT:=λ_ H Q=>Q true H
theorem dB {X:Cx}:PIf X [] mK:=λ_ _ _ H _ I h=>wpAny_tests_nil ⟨H,I,h⟩
theorem pif_one {X:Cx} {c:Expr} {t:TT} (h:PT X c t):PIf X [c] t:=λpins s σ H Q I q=>wpAny_tests_one (h pins s σ H Q I q)
noncomputable def iA (wi:TI) (tc:TT) (te:TE) (js:List Nat):TE:=fun σ H Q=>wi σ H λJ H1=>∀ D,H1 D=none->
 ∃ W:Nat->Nat->Hp->Prop,(∃ m,W 0 m (upd H1 D (.lst [])))/\∀ i m H2,W i m H2->(J.stop i H2/\Q (.ref D) H2)\/
  (J.go i H2/\∀ v H3,J.yld i H2 v H3->tc (some v::cw js σ) H3 λb H4=>if b=true then te (some v::cw js σ) H4 λy H5 =>
   ∃ ys,H5 D=some (.lst ys)/\ys.length < sizeLine/\∃ m',m' < m/\W (i+1) m' (upd H5 D (.lst (ys++[y]))) else ∃ m',m' < m/\W (i+1) m' H4)
section
variable {X:Cx} {elt iter:Expr} {x:Str} {px pos:Pos} {ifs:List Expr} {scope:Scope} {cl:List (Str×Addr)} {wi:TI} {tc:TT} {te:TE} {js:List Nat}
theorem qP {use:Option (Value->Sem Unit)} {Qv:Value->Shared->Prop} {pins:List (Addr×Obj)} {s:Shared} {σ:St} {H:Hp} {Q:VK}
  (hc:X.calm=true) (hi:PI X (.Name x px) iter wi) (hk:scope.kind=.function) (hcell:∀ y∈scope.names,y.2≠.cell) (hx:(relabel scope X.env).names.lookup x=some .local)
  (hcl1:∀ y c,cl.lookup y=some c->X.env.cells.lookup y=some c) (hcl2:∀ y,(y,NameKind.free)∈scope.names->∃ c,cl.lookup y=some c) (hjs:eS X scope js) (hnd:(bF X x js).Nodup)
  (ht:∀ s' H' fp,PIf (bc X scope cl (bF X x js) s' H' fp) ifs tc) (he:∀ s' H' fp,PE (bc X scope cl (bF X x js) s' H' fp) elt te)
  (I:Inv X pins σ H s) (h:iA wi tc te js σ H Q)
  (fin:∀(D C:Addr) (H':Hp) (s':Shared),Inv X pins σ H' s'->ic X pins H' C->(∃ m,s'.heap.Ns C m)->Q (.ref D) H'->compPost (model X.prog X.w) X.A X.xe use Qv (.ref D) C (.ok .next) s') :
  wpAny (model X.prog X.w) X.A (eval iter X.env) (λxv s₁=>wpAny (model X.prog X.w) X.A (pyIter xv) (λit s₂=>wpAny (model X.prog X.w) X.A (newList []) (λacc s₃ =>
   wpAny (model X.prog X.w) X.A (newFunctionEnv scope X.env.globals cl [] X.env.qual none .none (some X.env)) (λcenv s₄ =>
    codeAny (model X.prog X.w) X.A (.compStart (.ListComp elt [⟨.Name x px,iter,ifs,0⟩] scope pos) 0 it acc {cenv with scope:=relabel scope X.env})
     (compPost (model X.prog X.w) X.A X.xe use Qv acc cenv.locals) s₄) X.xe s₃) X.xe s₂) X.xe s₁) X.xe s:=by
 refine thn (hi pins s σ H _ I h) λv s1 h1=>thn h1 λitv s2 h2=>?_
 obtain ⟨it,fp,tn,J,H2,e,I2,T,st2,f2,hW⟩:=h2
 subst e
 obtain ⟨W,⟨m0,w0⟩,turn⟩:=hW s2.heap.objs.size (I2.hok.fresh (Nat.le_refl _))
 have hlt2:∀ b∈fp,b < s2.heap.objs.size:=λb hb=>let ⟨_,e,_⟩:=T.obj _ _ st2 b hb;Heap.lt_size e
 have I3:Inv X pins σ (upd H2 s2.heap.objs.size (.lst [])) {s2 with heap:=s2.heap.push {cls:=.type "list",data:=.seq ([]:List Value).toArray} } :=
  I2.lnew (t':=s2.toks) (its:=[]) .nil (Nat.zero_le _)
 refine wpAny_newObj_type ?_
 have k23:∀ b o,s2.heap.get? b=some o->(s2.heap.push {cls:=.type "list",data:=.seq ([]:List Value).toArray}).get? b=some o:=λb o e=>Heap.get?_push_of_some _ e
 have sz3:(s2.heap.push {cls:=.type "list",data:=.seq ([]:List Value).toArray}).objs.size=s2.heap.objs.size+1:=Heap.size_push ..
 generalize hs3:({s2 with heap:=s2.heap.push {cls:=.type "list",data:=.seq ([]:List Value).toArray} }:Shared)=s3 at I3
 have hs3':s3.heap=s2.heap.push {cls:=.type "list",data:=.seq ([]:List Value).toArray}:=by rw [<- hs3]
 have hlt3:∀ b∈fp,b < s3.heap.objs.size:=λb hb=>by rw [hs3',sz3];exact Nat.lt_succ_of_lt (hlt2 b hb)
 have f3:∀ b∈fp,ic X pins (upd H2 s2.heap.objs.size (.lst [])) b:=λb hb=>⟨by rw [au (Nat.ne_of_lt (hlt2 b hb))];exact (f2 b hb).1,(f2 b hb).2⟩
 refine wpAny_newFunctionEnv hcell (by intro y hy;simp at hy) (λh₁ hns hsb=>?_) hk
 have k34:∀ b o,s3.heap.get? b=some o->h₁.get? b=some o:=λb o e=>hsb.extBut b o (Nat.ne_of_lt (Heap.lt_size e)) (Heap.get?_push_of_some _ e)
 have I4:=wx (x:=x) (js:=js) (tk:=s3.toks+([]:List (Str×Value)).length) I3 hk hcell hcl1 hcl2 hjs f3 hlt3 hns k34
 have st4:tn 0 h₁:=T.keep 0 _ _ st2 λb hb o e=>k34 b o (by rw [hs3'];exact k23 b o e)
 have stat:∀{H':Hp},(∀ b∈fp,H' b=none)->∀ b∈fp,ic (bc X scope cl (bF X x js) s3 (upd H2 s2.heap.objs.size (.lst [])) fp) [] H' b:=λhn b hb =>
  ⟨hn b hb,Nat.ne_of_lt (hlt3 b hb),λhz=>(List.mem_cons.mp (I3.stkSub b hz)).elim (f2 b hb).2.1 (f2 b hb).2.2.1,.inl hb,λy c q=>(f2 b hb).2.2.2.2.1 y c (hcl1 y c q),λp hp=>absurd (show p∈([]:List (Addr×Obj)) from hp) (by simp)⟩
 have back:∀{σ':St} {H':Hp} {s':Shared},Inv (bc X scope cl (bF X x js) s3 (upd H2 s2.heap.objs.size (.lst [])) fp) [] σ' H' s'->Inv X pins σ H' s':=λ{σ' H' s'} J' =>
  I3.call' (ch:=fp) J'.os J'.base J'.hok J'.bare λb hb=>⟨(f2 b hb).2.2.2.1,(f2 b hb).2.1,(f2 b hb).2.2.2.2.1,(f2 b hb).2.2.2.2.2⟩
 have loop:codeAny (model X.prog X.w) X.A (.compLoop (.ListComp elt [⟨.Name x px,iter,ifs,0⟩] scope pos) 0 (.ref it) (.ref s2.heap.objs.size) (compEnvC scope cl s3.heap.objs.size X.env))
   (compPost (model X.prog X.w) X.A X.xe use Qv (.ref s2.heap.objs.size) s3.heap.objs.size) {s3 with heap:=h₁,toks:=s3.toks+([]:List (Str×Value)).length}:=by
  refine codeAny_compLoop_tests (λn s'=>∃ i o H',Inv (bc X scope cl (bF X x js) s3 (upd H2 s2.heap.objs.size (.lst [])) fp) [] (o::cw js σ) H' s'/\tn i s'.heap/\(∀ b∈fp,H' b=none)/\W i n H') ?_ m0
   ⟨0,none,_,I4,st4,λb hb=>(f3 b hb).1,w0⟩
  rintro n s5 ⟨i,o,H5,I5,st5,fr5,w5⟩
  rcases turn i n H5 w5 with ⟨stop,q⟩ | ⟨go,step⟩
  ·refine thn (T.done (bc X scope cl (bF X x js) s3 (upd H2 s2.heap.objs.size (.lst [])) fp) rfl rfl rfl hc i [] s5 _ H5 _ I5 (stat fr5) st5 stop) λr s6 zz=>?_
   obtain ⟨hr,I6⟩:=zz
   subst hr
   exact fin _ _ H5 s6 (back I6) (I3.fpOk (Nat.le_refl _) I6.free) (let ⟨m,hm,_⟩:=I6.loc;⟨m,hm⟩) q
  ·refine thn (T.item (bc X scope cl (bF X x js) s3 (upd H2 s2.heap.objs.size (.lst [])) fp) rfl rfl rfl hc i [] s5 _ H5 _ I5 (stat fr5) st5 go) λr s6 zz=>?_
   obtain ⟨u,hr,h6⟩:=zz
   subst hr
   show wpAny _ _ (assign (.Name x px) _ u) _ _ s6
   intro Γ p hΓ
   have h6':=h6 Γ p hΓ
   obtain ⟨v,H6,I6,r6,y6,st6,fr6⟩:=h6'
   refine (?_:wpAny _ _ _ _ _ s6) Γ p hΓ
   have I6':=I6.pinned (stat fr6) (T.obj _ _ st6)
   have hg:PG (bc X scope cl (bF X x js) s3 (upd H2 s2.heap.objs.size (.lst [])) fp) (.Name x px) (jG 0):=aW (i:=0) hnd rfl (Or.inl hx) (.inr hx)
   refine wpAny_mono (hg _ s6 _ H6 v u (fun σ' H'=>σ'=some v::cw js σ/\H'=H6) I6' r6 ⟨rfl,rfl⟩) (λ_ s7 q7=>?_) (λ_ _ f=>False.elim f)
   obtain ⟨σ7,H7,I7,e7,e8⟩:=q7
   subst e7 e8
   refine wpAny_mono (ht s3 _ fp _ s7 _ H7 _ I7 (step v H7 y6)) (λok s8 q8=>?_) (λ_ _ f=>False.elim f)
   obtain ⟨H8,I8,q8⟩:=q8
   have again:∀{s9:Shared} {σ9:St} {H9:Hp} {m':Nat},Inv (bc X scope cl (bF X x js) s3 (upd H2 s2.heap.objs.size (.lst [])) fp) ([]++oP fp s6.heap) (some v::cw js σ) H9 s9->m' < n->W (i+1) m' H9->
     ∃ m,m < n/\∃ i o H',Inv (bc X scope cl (bF X x js) s3 (upd H2 s2.heap.objs.size (.lst [])) fp) [] (o::cw js σ) H' s9/\tn i s9.heap/\(∀ b∈fp,H' b=none)/\W i m H':=λ{s9 σ9 H9 m'} I9 hm w9=>by
    refine ⟨m',hm,i+1,some v,H9,I9.unpinned,T.keep _ _ _ st6 λb hb o e=>(I9.pin (b,o) (List.mem_append_right _ (List.mem_append_right _ (fe hb e)))).1,λb hb=>?_,w9⟩
    obtain ⟨o,e,d⟩:=T.obj _ _ st6 b hb
    exact (I9.pin (b,o) (List.mem_append_right _ (List.mem_append_right _ (fe hb e)))).2.1
   cases ok with
   | false =>
    rw [if_neg Bool.false_ne_true] at q8 ⊢
    obtain ⟨m',hm,w9⟩:=q8
    exact again (σ9:=[]) I8 hm w9
   | true =>
    rw [if_pos rfl] at q8 ⊢
    refine wpAny_mono (he s3 _ fp _ s8 _ H8 _ I8 q8) (λy s9 q9=>?_) (λ_ _ f=>False.elim f)
    obtain ⟨yv,H9,I9,r9,ys,hD,hl,m',hm,w9⟩:=q9
    refine wpAny_mono (bh (X:=bc X scope cl (bF X x js) s3 (upd H2 s2.heap.objs.size (.lst [])) fp) _ s9 _ H9 (.ref s2.heap.objs.size) [yv] (.ref s2.heap.objs.size) [y] (λ_ H'=>H'=upd H9 s2.heap.objs.size (.lst (ys++[yv]))) I9 rfl (.cons r9 .nil) ⟨_,ys,yv,rfl,rfl,hD,hl,rfl⟩) (λ_ s10 q10=>?_) (λ_ _ f=>False.elim f)
    obtain ⟨_,H10,I10,_,e10⟩:=q10
    subst e10
    exact again (σ9:=[]) I10 hm w9
 exact codeAny_compStart_list loop (T.self _ 0 _ _ _ st4 loop)
theorem pe_comp (hc:X.calm=true) (hi:PI X (.Name x px) iter wi) (hk:scope.kind=.function) (hcell:∀ y∈scope.names,y.2≠.cell) (hnames:∀ y∈scope.names,y.2=.local->scope.names.lookup y.1=some .local) (hx:(relabel scope X.env).names.lookup x=some .local)
  (hclos:closureFor scope X.env=pure cl) (hcl1:∀ y c,cl.lookup y=some c->X.env.cells.lookup y=some c) (hcl2:∀ y,(y,NameKind.free)∈scope.names->∃ c,cl.lookup y=some c) (hjs:eS X scope js) (hnd:(bF X x js).Nodup)
  (ht:∀ s' H' fp,PIf (bc X scope cl (bF X x js) s' H' fp) ifs tc) (he:∀ s' H' fp,PE (bc X scope cl (bF X x js) s' H' fp) elt te)
  (hs:∀ x,foldedSetIterable iter X.env x=pure x:=by intro _;rfl):PE X (.ListComp elt [⟨.Name x px,iter,ifs,0⟩] scope pos) (iA wi tc te js):=by
 intro pins s σ H Q I h
 rw [eval_ListComp]
 refine wpAny_comprehension_free (use:=none) rfl hs hclos hk hnames (qP hc hi hk hcell hx hcl1 hcl2 hjs hnd ht he I h λD C H' s' I' fC hC q=>?_)
 obtain ⟨m,hm⟩:=hC
 refine ⟨m,hm,λh' sb=>?_⟩
 obtain ⟨f0,f1,f2,f3,f4,f5⟩:=fC
 exact ⟨.ref D,H',I'.turned (t':=s'.toks) (λb o hb e=>(sb.2 b hb).trans e) f0 f1 f3 f4 f5,rfl,q⟩
noncomputable def sR (i:Nat) (te:TE):TS:=λD σ H=>te σ H λv H1=>D.nx (σ.set i (some v)) H1
theorem ps_setC {y:Str} {i:Nat} {py spos:Pos} (hN:X.N.Nodup) (hy:X.N[i]?=some y) (hyl:Loc X.env.scope y) (hyf:X.fn y=true\/X.env.scope.names.lookup y=some .local)
  (hsw:swapsWith (.ListComp elt [⟨.Name x px,iter,ifs,0⟩] scope pos) (some (.Name y py)) spos.line X.env=pure true)
  (hc:X.calm=true) (hi:PI X (.Name x px) iter wi) (hk:scope.kind=.function) (hcell:∀ y∈scope.names,y.2≠.cell) (hnames:∀ y∈scope.names,y.2=.local->scope.names.lookup y.1=some .local) (hx:(relabel scope X.env).names.lookup x=some .local)
  (hclos:closureFor scope X.env=pure cl) (hcl1:∀ y c,cl.lookup y=some c->X.env.cells.lookup y=some c) (hcl2:∀ y,(y,NameKind.free)∈scope.names->∃ c,cl.lookup y=some c) (hjs:eS X scope js) (hnd:(bF X x js).Nodup)
  (ht:∀ s' H' fp,PIf (bc X scope cl (bF X x js) s' H' fp) ifs tc) (he:∀ s' H' fp,PE (bc X scope cl (bF X x js) s' H' fp) elt te)
  (hs:∀ x,foldedSetIterable iter X.env x=pure x:=by intro _;rfl) :
  PS X (.Assign [.Name y py] (.ListComp elt [⟨.Name x px,iter,ifs,0⟩] scope pos) spos) (sR i (iA wi tc te js)):=by
 intro pins s σ H D I h
 rw [exec_Assign_Name_used _ _ _ _ hsw]
 refine wpAny_bind (wpAny_standAt (wpAny_bind ?_))
 show wpAny _ _ (do let _ <- comprehension (.ListComp elt [⟨.Name x px,iter,ifs,0⟩] scope pos) scope X.env _ (newList []) false (eval iter X.env) (some (assign (.Name y py) X.env))) _ _ s
 refine wpAny_bind (wpAny_mono (wpAny_comprehension_free (use:=some (assign (.Name y py) X.env)) (Q:=λ_ s'=>SP X pins D .next s') rfl hs hclos hk hnames
  (qP hc hi hk hcell hx hcl1 hcl2 hjs hnd ht he I h λD' C H' s' I' fC hC q=>?_)) (λ_ s' hq=>wpAny_pure (wpAny_pure hq)) λ_ _ e=>e)
 obtain ⟨m,o,es,ep,ho,hd,hr⟩:=hC
 obtain ⟨f0,f1,f2,f3,f4,f5⟩:=fC
 have Ip:Inv X (pins++[(C,o)]) σ H' s':=I'.pins_of λp hp=>(List.mem_append.mp hp).elim (λz=>I'.pin p (List.mem_append_right _ z)) λz=>by
  have e:p=(C,o):=by simpa using z
  subst e
  exact ⟨ho,f0,f1,f2,λv z=>by rw [hd] at z;cases z⟩
 have hg:PG X (.Name y py) (jG i):=aW hN hy hyl hyf
 refine thn (hg _ s' σ H' (.ref D') (.ref D') (fun σ' H''=>σ'=σ.set i (some (.ref D'))/\H''=H') Ip rfl ⟨rfl,rfl⟩) λ_ s'' q''=>?_
 obtain ⟨σ'',H'',I'',e1,e2⟩:=q''
 subst e1 e2
 have hp:=(I''.pin (C,o) (by simp)).1
 refine ⟨m,⟨o,es,ep,hp,hd,hr⟩,λh' sb=>?_⟩
 exact ⟨_,_,(I''.unpinned).turned (t':=s''.toks) (λb o hb e=>(sb.2 b hb).trans e) f0 f1 f3 f4 f5,q⟩
end
structure aE (K:PySem.W.Frag) (mg:Str->Option Value) (x:Str) (st:Stmt):Prop where
 ex:∃(f:Addr) (fd:FuncData),Fun K x x st f fd/\mg x=some (.ref f)
theorem aQ {K:PySem.W.Frag} {h:Heap} {mg:Str->Option Value} {x:Str} {st:Stmt} {f:Addr} {oc kV doc pm cdv ct:Value} {od an:Option Addr} {osl:Array (Option Value)} (X:K.In h) (G:h.Ns mainGlobals mg)
  (a:PySem.W.nsIn K mainGlobals x=some (some (.ref f)))
  (l:K.lookup f=some ⟨oc,od,.func (PySem.W.fnOf x x (eP st) (aY st) (ak st) .none kV doc pm an cdv ct),osl⟩)
  (c:PySem.W.codeIn K cdv x=true) (k:PySem.W.keepIn K (.ref f)=true):aE K mg x st :=
 ⟨_,_,CK l c k,PySem.W.mg_of X G a⟩
structure Def (P:Program) (w:World) (K:PySem.W.Frag) (mg:Str->Option Value) (base:Heap) (n:Nat) (x:Str) (ps:List Str) (sp:Sp):Prop where
 ex:∃(f:Addr) (fd:FuncData),lB P w K mg base CX0 n f fd ps sp/\Binds K fd ps []/\PySem.W.keepIn K (.ref f)=true/\mg x=some (.ref f)
section
variable {P:Program} {w:World} {K:PySem.W.Frag} {mg:Str->Option Value} {base:Heap}
theorem aO {x:Str} {st:Stmt} {N ps:List Str} {k:Nat} {sp:Sp} (T:aE K mg x st) (S:aG N ps (ak st))
  (bd:∀(kV doc pm:Value) (an:Option Addr) (cdv ct:Value) (us:List Value),us.length=ps.length->bindArgs (PySem.W.fnOf x x (eP st) (aY st) (ak st) .none kV doc pm an cdv ct) ⟨us,[]⟩=pure (ps.zip us))
  (len:∀ vs H Q E,sp vs H Q E->vs.length=ps.length)
  (body:∀(f:Addr) (cdv:Value) (A:Around) (outer:List Env) (s:Shared) (H:Hp) (vs:List V) (Q:VK) (E:XK),cY k (A.deeper (envOfC x (ak st) s.heap.objs.size f cdv))->sp vs H Q E->
   ∃ t,PSs (cM CX0 P w K mg base N x (ak st) f cdv A outer s H E).nox (aY st) t/\t {nx:=λ_ H'=>Q .non H',rt:=Q} (start N vs) H) :
  Def P w K mg base (k+1) x ps sp:=by
 obtain ⟨f,fd,F,m⟩:=T.ex
 exact ⟨f,fd,F.ok S len (body f),F.binds bd,F.kp,m⟩
end
section
variable {X:Cx} {n:Nat} {x:Str} {ps:List Str} {sp:Sp} {e a b:Expr} {es:List Expr} {t:TA} {ta tb:TE} {p pos:Pos}
theorem aD (D:Def X.prog X.w X.K X.mg X.base n x ps sp) (hr:cY n X.A) (hg:Gl X x) (ha:PA X (e::es) t) (hdb:(x == ("__debug__":Str))=false:=by decide)
  (he:starEach (e::es) X.env=(false,eval e X.env)::starEach es X.env:=by rfl) (hpl:(backTo pos (starEach es X.env)).any (·.1)=false:=by rfl) :
  PE X (.Call (.Name x p) (e::es) [] pos) (qe sp [] E0 t):=by
 obtain ⟨f,fd,F,b,kp,m⟩:=D.ex
 exact rM F hr hg m kp b .nil xP ha hdb he hpl
theorem bg:OpR X (binaryOp .Mult) (rI IntMulOk λi j=>.int (i*j)):=opI λ_ _ _ _ _ _ _ hc q=>PyProof.Rows.mul_int q hc
noncomputable def CDivK (_ j:Int):Prop:=j≠0/\j.natAbs.log2 < 9000
theorem kN:OpR X (binaryOp .FloorDiv) (rI CDivK λi j=>.int (i.fdiv j)):=opI λ_ _ _ _ _ _ _ hc q=>PyProof.Rows.floordiv_int hc.1 q (.inl (PyProof.noPylong_of_log2 hc.2))
theorem uR:gK X (.builtin "isinstance") (λxs H Q=>∃(y:V) (c:V) (cv t:Value) (k:Bool),xs=[y,c]/\(∀ u,RelV c u->u=cv)/\jz X.K H y t/\PySem.W.kitOne X.K t cv=some k/\Q (.bl k) H):=by
 intro pins s σ H xs us Q I r h
 obtain ⟨y,c,cv,t,k,rfl,hc,ty,kt,q⟩:=h
 obtain ⟨u,w',rfl,r1,r2⟩:=vals2 r
 have e:=hc _ r2
 subst e
 exact zv I r1 ty kt λtk=>⟨.bl k,H,I.tok tk,rfl,q⟩
end
open PySem.Calls PySem.W PySem.Builtin.Getset_descriptor
section
variable {prog:Program} {w:World} {A:Around} {E:Value->Shared->Prop} {s:Shared} {K:Frag} {x D:Addr}
noncomputable def Dq (x D:Addr) (h:Heap):Prop:=∃ ox,h.get? x=some ox/\ox.cls=.ref D
theorem Dq.type {M:Model} {h:Heap} (I:Dq x D h):Looks M h (typeOf (.ref x)) (.ref D):=by
 obtain ⟨ox,a,b⟩:=I
 exact b ▸ (Looks.ld a).andThen .now
end
section
variable {P:Program} {w:World} {H:Hp} {h:Heap} {a:Addr} {o:HO}
theorem cy.there (x:cy P w H h a o):∃ ob,h.get? a=some ob:=by
 cases o with
 | lst xs=>obtain ⟨_,_,_,_,e⟩:=x;exact ⟨_,e⟩
 | tup xs=>obtain ⟨_,_,_,⟨_,e,_⟩⟩:=x;exact ⟨_,e⟩
 | dK kvs=>obtain ⟨_,_,_,_,o,_,_,e,_⟩:=x;exact ⟨_,e⟩
 | dT kvs=>obtain ⟨_,_,_,_,o,_,_,e,_⟩:=x;exact ⟨_,e⟩
 | set S n=>obtain ⟨o,_,_,_,e,_⟩:=x;exact ⟨_,e⟩
 | ins C dx fs=>obtain ⟨_,_,_,e,_⟩:=x;exact ⟨_,e⟩
 | own y=>exact x
 | xd fs=>obtain ⟨_,⟨_,_,_,e,_⟩,_⟩:=x;exact ⟨_,e⟩
 | rng lo hi=>obtain ⟨_,_,_,e⟩:=x;exact ⟨_,e⟩
 | frz ob u=>obtain ⟨e,_⟩:=x;exact ⟨_,e⟩
 | tbl ps=>exact ⟨_,(show h.get? a=some _ from x)⟩
 | met f y=>exact ⟨_,(show h.get? a=some _ from x)⟩
 | ext φ=>obtain ⟨_,e,_⟩:=x;exact e
end
noncomputable def Flies (P:Program) (w:World) (outer:List Env) (H:Hp) (s:Shared) (ea:Addr) (C:Value) (H':Hp) (s':Shared):Prop:=∃(t:Addr) (B:Heap),
 s'.os=s.os/\AllBare s'.gens/\Un (frs outer) [] H H' s.heap s'.heap/\HOk P w H' s'.heap/\Heap.FlyingW B outer ea C (.ref t) s'.heap/\H' ea=none/\s.heap.get? ea=none/\
 ∀ b o,s'.heap.get? b=some o->b ∉ frs outer->((∃ u,H' b=some u)\/∃ o',s.heap.get? b=some o')->B.get? b=some o
noncomputable def CXr (P:Program) (w:World):CXT:=λouter H s E e s'=>∃(ea:Addr) (C:Value) (H':Hp),e=.ref ea/\Flies P w outer H s ea C H' s'/\E C none H'
theorem passr {P:Program} {w:World} {X:Cx}:Passes (CXr P w) X E0:=λ_ _ _ _ _ _ _ ⟨_,_,_,_,_,h⟩=>h.elim
section
variable {P:Program} {w:World} {K:PySem.W.Frag} {mg:Str->Option Value} {base:Heap} {N:List Str} {qual:Str} {scope:Scope} {f:Addr} {cd:Value} {A:Around} {outer:List Env} {s:Shared} {H:Hp} {E:XK}
theorem rG {pins:List (Addr×Obj)} {σ:St} {H1:Hp} {s₂:Shared} {h':Heap} {ea C:Addr} {vs:List Value} (I:Inv (cM (CXr P w) P w K mg base N qual scope f cd A outer s H E) pins σ H1 s₂)
  (hx:Heap.MadeExcOf s₂.heap h' ea (.ref C) vs) (q:E (.ref C) none H1):(cM (CXr P w) P w K mg base N qual scope f cd A outer s H E).xe (.ref ea) {s₂ with heap:=h' }:=by
 have hin:∀ en∈(envOfC qual scope s.heap.objs.size f cd::outer),∀ b,en.frame=some b->b∈frs (envOfC qual scope s.heap.objs.size f cd::outer):=λen he b hb=>List.mem_filterMap.mpr ⟨en,he,hb⟩
 show wpAny (model P w) (A.deeper (envOfC qual scope s.heap.objs.size f cd)) (leaving (envOfC qual scope s.heap.objs.size f cd) (.ref ea)) _ _ _
 refine wpAny_leaves_madeW (base:=PySem.W.hideAll s₂.heap (frs (envOfC qual scope s.heap.objs.size f cd::outer))) (h:=s₂.heap) I.ok.frames rfl (λb o z=>PySem.W.of_hideAll _ z) (PySem.W.funFrames_hide I.stack hin) hx λh'' t fl _ _ up=>?_
 have keepB:∀ b o,s₂.heap.get? b=some o->b ∉ frs (envOfC qual scope s.heap.objs.size f cd::outer)->h''.get? b=some o:=λb o e n=>fl.1 b o (PySem.W.hideAll_get _ e n)
 have notF:∀ b o,s.heap.get? b=some o->b ∉ frs outer->b ∉ frs (envOfC qual scope s.heap.objs.size f cd::outer):=λb o e n z =>
  (List.mem_cons.mp (I.stkSub b z)).elim (λz=>absurd (Nat.lt_of_lt_of_le (Heap.lt_size e) I.ok.above) (by rw [z];exact Nat.lt_irrefl _)) n
 have trk:∀ b u,H1 b=some u->b ∉ frs (envOfC qual scope s.heap.objs.size f cd::outer):=λb u e z=>by
  have:=I.stkFree b z
  rw [e] at this;cases this
 have ntrk:∀ b,s₂.heap.get? b=none->H1 b=none:=λb e=>by
  cases z:H1 b with
  | none=>rfl
  | some u=>obtain ⟨ob,e2⟩:=(I.hok b u z).there;rw [e] at e2;cases e2
 have hthere:∀ b o,s.heap.get? b=some o->∃ o',s₂.heap.get? b=some o':=λb o e=>I.base.there b o e (λz=>nomatch z)
 refine ⟨ea,.ref C,H1,rfl,⟨t,_,I.os,I.bare,⟨?_,?_,λb o e n z=>I.base.free b o e n z,?_,I.base.tups,I.base.frzs,I.base.tbls⟩,?_,fl,ntrk _ hx.new,?_,?_⟩,q⟩
 ·exact λb o e n hb z=>keepB b o (I.base.keep b o e n hb z) (notF b o e hb)
 ·intro b o e n hb z
  obtain ⟨sl,e1⟩:=I.base.slot b o e n hb z
  obtain ⟨_,o',e2,nf⟩:=I.ok.funs.mem hb
  have e3:some o'=some o:=e2.symm.trans e
  cases e3
  obtain ⟨sl',e4⟩:=up b _ (hx.keeps b _ e1) nf
  exact ⟨sl',e4⟩
 ·intro b o e z
  by_cases hb:b∈frs outer
  ·obtain ⟨sl,e1⟩:=I.base.slot b o e (I.ok.frf b hb) hb z
   obtain ⟨_,o',e2,nf⟩:=I.ok.funs.mem hb
   have e3:some o'=some o:=e2.symm.trans e
   cases e3
   obtain ⟨sl',e4⟩:=up b _ (hx.keeps b _ e1) nf
   exact ⟨_,e4⟩
  ·obtain ⟨o',e1⟩:=hthere b o e
   exact ⟨o',keepB b o' e1 (notF b o e hb)⟩
 ·intro b u e
  exact (I.hok b u e).stay (λc v hc e'=>keepB c v e' (hc.elim (λz=>by subst z;exact trk _ _ e) λz=>trk _ _ z)) (λ_ z=>z) λ_ _ z=>z
 ·cases z:s.heap.get? ea with
  | none=>rfl
  | some o=>obtain ⟨o',e⟩:=hthere ea o z;rw [hx.new] at e;cases e
 ·intro b o e n hb
  have key:∃ o2,s₂.heap.get? b=some o2/\b ∉ frs (envOfC qual scope s.heap.objs.size f cd::outer):=by
   rcases hb with ⟨u,hu⟩ | ⟨o',ho⟩
   ·obtain ⟨ob,e2⟩:=(I.hok b u hu).there
    exact ⟨ob,e2,trk b u hu⟩
   ·obtain ⟨o2,e2⟩:=hthere b o' ho
    exact ⟨o2,e2,notF b o' ho n⟩
  obtain ⟨o2,e2,n2⟩:=key
  have e3:=keepB b o2 e2 n2
  rw [e] at e3
  cases e3
  exact PySem.W.hideAll_get _ e2 n2
end
abbrev bmV:List Value:=[.type "ValueError",.type "Exception",.type "BaseException",.type "object"]
theorem exc_obj {K:Frag} {h:Heap} {C:Addr} {bmB:List Value} {newId:String} (X:K.In h) (q:excIn K C bmB newId=true) :
  ∃ bm N nm qn bs hd sn sub ab col dd k0 k1 k2 k3 k5 mN,h.get? C=some (excClassObj nm qn C N bs bm hd sn sub ab col dd k0 k1 k2 k3 k5 newId)/\h.Ns N mN/\mN "__init__"=none/\OwnTail h bmB bm:=by
 unfold excIn at q
 split at q
 ·rename_i d0 c0 sl0 lk
  split at q
  ·rename_i C1 bm1 j0 j1 j2 j3 n1 j5 em es
   simp only [Bool.not_eq_true',beq_iff_eq,Bool.and_eq_true] at q
   obtain ⟨⟨⟨⟨⟨e1,e2⟩,nodel⟩,tl⟩,ok⟩,ni⟩:=q
   subst e1 e2
   obtain ⟨nm1,bs1,mro1,ns1,qn1,hd1,sn1,sub1,ab1,col1,del1⟩:=c0
   dsimp only at em nodel ok ni
   subst em nodel
   have esl:sl0=#[j0,j1,j2,j3,some (.builtin n1),j5]:=by
    obtain ⟨l0⟩:=sl0
    simp only at es
    rw [es]
   subst esl
   exact ⟨_,_,_,_,_,_,_,_,_,_,_,_,_,_,_,_,_,X _ _ lk,.of_isNs (isNs_of_in X ok),nsMap_none_of_in X ok ni,tail_of_in X tl⟩
  ·cases q
 ·cases q
noncomputable def tRaise (C:Addr) (E:XK) (ta:TA):TS:=λ_ σ H=>ta σ H λvs H1=>vs.length<=sizeLine/\E (.ref C) none H1
section
variable {P:Program} {w:World} {K:Frag} {mg:Str->Option Value} {base:Heap} {N:List Str} {qual:Str} {scope:Scope} {f:Addr} {cd:Value} {A:Around} {outer:List Env} {s:Shared} {H:Hp} {E:XK}
theorem tS {x:Str} {C:Addr} {e₀:Expr} {es:List Expr} {ta:TA} {np cpos pos:Pos} (hg:Gl (cM (CXr P w) P w K mg base N qual scope f cd A outer s H E) x) (hm:mg x=some (.ref C)) (q:excIn K C bmV "ValueError.__new__"=true)
  (ha:PA (cM (CXr P w) P w K mg base N qual scope f cd A outer s H E) (e₀::es) ta) (hdb:(x == ("__debug__":Str))=false:=by decide)
  (he:starEach (e₀::es) (envOfC qual scope s.heap.objs.size f cd)=(false,eval e₀ (envOfC qual scope s.heap.objs.size f cd))::starEach es (envOfC qual scope s.heap.objs.size f cd):=by rfl)
  (hpl:(backTo cpos (starEach (e₀::es) (envOfC qual scope s.heap.objs.size f cd))).any (·.1)=false:=by rfl) :
  PS (cM (CXr P w) P w K mg base N qual scope f cd A outer s H E) (.Raise (some (.Call (.Name x np) (e₀::es) [] cpos)) none pos) (tRaise C E ta):=by
 intro pins s₁ σ H1 D I h
 obtain ⟨bm,N1,nm,qn,bs,hd,sn,sub,ab,col,dd,k0,k1,k2,k3,k5,mN,gC,nN,ni,T⟩:=exc_obj I.mod.kin q
 refine wpAny_Raise_call_subT (C:=C) (nm:=nm) (q:=qn) (N:=N1) (bs:=bs) (bm:=bm) (hdct:=hd) (sn:=sn) (sub:=sub) (ab:=ab) (col:=col) (dd:=dd) (k0:=k0) (k1:=k1) (k2:=k2) (k3:=k3) (k5:=k5) F.excBase_ValueError (mN:=mN)
  (T.hasType F.excBase_ValueError.hasBase) (I.ok.hd rfl) hpl ni (fu I hg hm ⟨rfl,?_⟩ hdb)
 have hA:=ha cpos pins s₁ σ H1 _ I h
 have he':starEach (e₀::es) (cM (CXr P w) P w K mg base N qual scope f cd A outer s H E).env=(false,eval e₀ (cM (CXr P w) P w K mg base N qual scope f cd A outer s H E).env)::starEach es (cM (CXr P w) P w K mg base N qual scope f cd A outer s H E).env:=he
 rw [he'] at hA ⊢
 refine Calls.evalArgs_plain (thn hA λus s₂ z=>?_)
 obtain ⟨vs,H2,I2,r,z,q2⟩:=z
 exact ⟨rfl,by rw [<- r.length];exact z,I2.bk _ _ gC,nN.keeps I2.bk,T.keeps I2.bk,λh' e hx=>rG I2 hx q2⟩
end
structure lC (P:Program) (w:World) (K:Frag) (mg:Str->Option Value) (base:Heap) (n:Nat) (x:Str) (ps:List Str) (sp:Sp):Prop where
 ex:∃(f:Addr) (fd:FuncData),lB P w K mg base (CXr P w) n f fd ps sp/\Binds K fd ps []/\keepIn K (.ref f)=true/\mg x=some (.ref f)
theorem nP {P:Program} {w:World} {K:Frag} {mg:Str->Option Value} {base:Heap} {x:Str} {st:Stmt} {N ps:List Str} {k:Nat} {sp:Sp} (T:aE K mg x st) (S:aG N ps (ak st))
  (bd:∀(kV doc pm:Value) (an:Option Addr) (cdv ct:Value) (us:List Value),us.length=ps.length->bindArgs (fnOf x x (eP st) (aY st) (ak st) .none kV doc pm an cdv ct) ⟨us,[]⟩=pure (ps.zip us))
  (len:∀ vs H Q E,sp vs H Q E->vs.length=ps.length)
  (body:∀(f:Addr) (cdv:Value) (A:Around) (outer:List Env) (s:Shared) (H:Hp) (vs:List V) (Q:VK) (E:XK),cY k (A.deeper (envOfC x (ak st) s.heap.objs.size f cdv))->sp vs H Q E->
   ∃ t,PSs (cM (CXr P w) P w K mg base N x (ak st) f cdv A outer s H E) (aY st) t/\t {nx:=λ_ H'=>Q .non H',rt:=Q} (start N vs) H) :
  lC P w K mg base (k+1) x ps sp:=by
 obtain ⟨f,fd,F,m⟩:=T.ex
 obtain ⟨oc,od,kV,doc,pm,an,cdv,ct,osl,rfl,lk,hcd⟩:=id F.ex
 exact ⟨f,_,fn_of lk hcd S len λA outer s H vs Q E hr h=>body f cdv A outer s H vs Q E hr h,F.binds bd,F.kp,m⟩
theorem pe_defX {X:Cx} {n:Nat} {x:Str} {ps:List Str} {sp:Sp} {e:Expr} {es:List Expr} {t:TA} {p pos:Pos} (D:lC X.prog X.w X.K X.mg X.base n x ps sp) (hr:cY n X.A) (hg:Gl X x) (ha:PA X (e::es) t)
  (hdb:(x == ("__debug__":Str))=false:=by decide) (he:starEach (e::es) X.env=(false,eval e X.env)::starEach es X.env:=by rfl) (hpl:(backTo pos (starEach es X.env)).any (·.1)=false:=by rfl) :
  PE X (.Call (.Name x p) (e::es) [] pos) (qe sp [] E0 t):=by
 obtain ⟨f,fd,F,b,kp,m⟩:=D.ex
 exact rM F hr hg m kp b .nil passr ha hdb he hpl
structure gn (K:Frag) (D:Addr):Prop where
 cl:∃ cd,clsIn K D=some cd
 ty:typeIn K (.ref D)=some (.type "type")
 hb:mroIn K D (.type "BaseException")=some true
theorem mW {M:Model} {A:Around} {E:Value->Shared->Prop} {s:Shared} {K:Frag} {e C D:Addr} {Q:Bool->Shared->Prop} (X:K.In s.heap) (I:Dq e C s.heap) (c:gn K D) {b:Bool} (hm:mroIn K C (.ref D)=some b) (hq:Q b s) :
  wpAny M A (excMatches (.ref e) (.ref D)) Q E s:=by
 obtain ⟨hh,g,d,t,os⟩:=s
 have l0:=I.type (M:=M)
 obtain ⟨ob,ho,hc⟩:=Option.map_eq_some_iff.mp c.ty
 have l1:Looks M hh (typeOf (.ref D)) (.type "type"):=hc ▸ (Looks.ld (X _ _ ho)).andThen .now
 have l2:Looks M hh (isType (.ref D)) true:=by
  obtain ⟨cd,hcd⟩:=c.cl
  unfold clsIn at hcd
  split at hcd
  ·rename_i c' d' cd' sl' lo
   intro A' Q' E' s' k q
   unfold isType loadHead
   exact wpAny_bind (wpAny_loadPart (k _ _ (X _ _ lo)) (wpAny_pure q))
  ·cases hcd
 have l3:=looks_mroIn (M:=M) X c.hb
 have l4:=looks_mroIn (M:=M) X hm
 have l5:Looks M hh (isInstance (.ref D) (.type "tuple")) false:=l1.andThen (Looks.of_pure tc_notTuple)
 have l6:Looks M hh (isExcClass (.ref D)) true:=l2.andThen (by exact l3)
 unfold excMatches
 refine wpAny_bind (l5.at ?_)
 rw [if_neg (by decide)]
 refine wpAny_bind (wpAny_pure ?_)
 simp only [List.forIn_cons,List.forIn_nil]
 refine wpAny_bind (wpAny_bind (wpAny_bind (l6.at ?_)))
 rw [if_neg (by decide)]
 refine wpAny_pure (wpAny_pure (wpAny_bind (l0.at (wpAny_bind (wpAny_bind (wpAny_bind (l4.at ?_)))))))
 cases b with
 | true=>exact wpAny_pure (wpAny_pure (wpAny_pure hq))
 | false=>exact wpAny_pure (wpAny_pure (wpAny_pure hq))
noncomputable def Cx.mark (X:Cx) (ea:Addr):Cx:={X with A:=X.A.mark (some (.ref ea)),calm:=false}
section
variable {X:Cx} {pins:List (Addr×Obj)} {σ:St} {H H':Hp} {s s':Shared}
theorem Inv.mark (I:Inv X pins σ H s) (ea:Addr):Inv (X.mark ea) pins σ H s :=
 ⟨⟨I.ok.mod,I.ok.kind,I.ok.glob,I.ok.blt,I.ok.above,I.ok.inj,I.ok.has,I.ok.cab,(λz=>by cases z),I.ok.frames,I.ok.stk,I.ok.exf,I.ok.bs,I.ok.bsz,I.ok.noex,I.ok.exfs,I.ok.funs,I.ok.frf⟩,
  I.os,I.bare,I.base,I.loc,I.cell,I.free,I.freeC,I.pin,I.hok,I.len⟩
theorem Inv.unmark {ea:Addr} (I:Inv (X.mark ea) pins σ H s) (ok:X.Ok):Inv X pins σ H s :=
 ⟨ok,I.os,I.bare,I.base,I.loc,I.cell,I.free,I.freeC,I.pin,I.hok,I.len⟩
theorem Inv.caught {ea:Addr} {C:Value} (I:Inv X pins σ H s) {t:Addr} {B:Heap} {h6:Heap} {tk:Nat} (ho:s'.os=s.os) (hg:AllBare s'.gens) (un:Un (frs X.stack) [] H H' s.heap s'.heap) (hok:HOk X.prog X.w H' s'.heap)
  (cov:∀ b o,s'.heap.get? b=some o->b ∉ frs X.stack->((∃ u,H' b=some u)\/∃ o',s.heap.get? b=some o')->B.get? b=some o) (st:B.StaysIn h6) (up:s'.heap.UpToSlots h6):Inv X pins σ H' {s' with heap:=h6,toks:=tk}:=by
 have fr:=I.stack
 have frf:∀ b u,H' b=some u->b ∉ frs X.stack:=λb u e z=>by
  obtain ⟨_,o,e2,_⟩:=fr.mem z
  have q:=un.free b o e2 (I.stkFree b z) (by simp)
  rw [e] at q;cases q
 have slotK:∀ b o,s.heap.get? b=some o->b∈frs X.stack->∃ sl,h6.get? b=some {o with slots:=sl}:=λb o e hb=>by
  obtain ⟨_,o',e2,nf⟩:=fr.mem hb
  have e3:some o'=some o:=e2.symm.trans e
  cases e3
  obtain ⟨sl,e4⟩:=un.slot b _ e (I.stkFree b hb) hb (by simp)
  obtain ⟨sl',e5⟩:=up b _ e4 nf
  exact ⟨sl',e5⟩
 have u6:Un (frs X.stack) [] H H' s.heap h6:=by
  refine ⟨λb o e n hb hx=>st b o (cov b o (un.keep b o e n hb hx) hb (.inr ⟨o,e⟩)),λb o e n hb hx=>slotK b o e hb,un.free,λb o e hx=>?_,un.tups,un.frzs,un.tbls⟩
  by_cases hb:b∈frs X.stack
  ·obtain ⟨sl,z⟩:=slotK b o e hb
   exact ⟨_,z⟩
  ·obtain ⟨o',z⟩:=un.there b o e hx
   exact ⟨o',st b o' (cov b o' z hb (.inr ⟨o,e⟩))⟩
 have k6:HOk X.prog X.w H' h6:=λb u e=>(hok b u e).stay (λc z hc q=>by
  have tr:∃ v,H' c=some v:=hc.elim (λk=>⟨u,by rw [k];exact e⟩) λk=>⟨_,k⟩
  obtain ⟨v,hv⟩:=tr
  exact st c z (cov c z q (frf c v hv) (.inl ⟨v,hv⟩))) (λ_ z=>z) λ_ _ z=>z
 exact I.call' (s':={s' with heap:=h6,toks:=tk}) (ch:=[]) ho u6 k6 hg λb hb=>nomatch hb
end
section
variable {X:Cx}
theorem sC {env:Env}:∀(names:List (Str×NameKind)) (acc:List (Str×Addr)),(∀ y,(y,NameKind.free)∈names->∃ c,env.cells.lookup y=some c)->
  ∃ cl:List (Str×Addr),(forIn names acc (λx r=>match x with
    | (name,kind)=>if (kind == NameKind.free)=true then do let a <- cellOf env name;pure (ForInStep.yield ((name,a)::r)) else pure (ForInStep.yield r)):Sem _)=pure cl/\
   (∀ y c,cl.lookup y=some c->acc.lookup y=some c\/env.cells.lookup y=some c)/\(∀ y,(y,NameKind.free)∈names->∃ c,cl.lookup y=some c)/\∀ y,(∃ c,acc.lookup y=some c)->∃ c,cl.lookup y=some c
 | [],acc,_=>⟨acc,rfl,λ_ _ h=>.inl h,(λ_ h=>nomatch h),λ_ h=>h⟩
 | (nm,kd)::r,acc,h=>by
  by_cases hk:kd=.free
  ·subst hk
   obtain ⟨c,hc⟩:=h nm List.mem_cons_self
   obtain ⟨cl,e,p1,p2,p3⟩:=sC r ((nm,c)::acc) λy hy=>h y (List.mem_cons_of_mem _ hy)
   refine ⟨cl,?_,λy d hd=>?_,λy hy=>?_,λy hy=>?_⟩
   ·rw [List.forIn_cons]
    have z:cellOf env nm=pure c:=by unfold cellOf;rw [hc]
    simp only [z,beq_self_eq_true,if_true]
    exact e
   ·rcases p1 y d hd with q | q
    ·rw [List.lookup_cons] at q
     cases hy:y == nm with
     | true =>
      rw [hy] at q
      have e1:=beq_iff_eq.mp hy
      subst e1
      cases q
      exact .inr hc
     | false=>rw [hy] at q;exact .inl q
    ·exact .inr q
   ·rcases List.mem_cons.mp hy with q | q
    ·cases q
     exact p3 nm ⟨c,by rw [List.lookup_cons,beq_self_eq_true]⟩
    ·exact p2 y q
   ·obtain ⟨d,hd⟩:=hy
    refine p3 y ?_
    rw [List.lookup_cons]
    cases y == nm with
    | true=>exact ⟨c,rfl⟩
    | false=>exact ⟨d,hd⟩
  ·obtain ⟨cl,e,p1,p2,p3⟩:=sC r acc λy hy=>h y (List.mem_cons_of_mem _ hy)
   refine ⟨cl,?_,p1,λy hy=>?_,p3⟩
   ·rw [List.forIn_cons]
    have z:(kd == NameKind.free)=false:=by simpa using hk
    simp only [z,Bool.false_eq_true,if_false]
    exact e
   ·rcases List.mem_cons.mp hy with q | q
    ·cases q;exact absurd rfl hk
    ·exact p2 y q
theorem sA {scope:Scope} {env:Env} (h:∀ y,(y,NameKind.free)∈scope.names->∃ c,env.cells.lookup y=some c) :
  ∃ cl,closureFor scope env=pure cl/\(∀ y c,cl.lookup y=some c->env.cells.lookup y=some c)/\∀ y,(y,NameKind.free)∈scope.names->∃ c,cl.lookup y=some c:=by
 obtain ⟨cl,e,p1,p2,_⟩:=sC (env:=env) scope.names [] h
 refine ⟨cl,?_,λy c hc=>(p1 y c hc).elim (λz=>by cases z) λz=>z,p2⟩
 unfold closureFor
 show (forIn scope.names [] _ >>= λs=>pure s)=pure cl
 rw [bind_pure]
 exact e
theorem nO {scope:Scope} {js:List Nat} {pins:List (Addr×Obj)} {σ:St} {H:Hp} {s:Shared} (I:Inv X pins σ H s) (hf:∀ y,(y,NameKind.free)∈scope.names->X.env.kindOf y=some .cell\/X.env.kindOf y=some .free) :
  ∀ y,(y,NameKind.free)∈scope.names->∃ c,X.env.cells.lookup y=some c:=λy hy=>I.ok.has y (hf y hy)
variable {elt iter:Expr} {x:Str} {px pos:Pos} {ifs:List Expr} {scope:Scope} {wi:TI} {tc:TT} {te:TE} {js:List Nat}
theorem eJ (hc:X.calm=true) (hi:PI X (.Name x px) iter wi) (hk:scope.kind=.function) (hcell:∀ y∈scope.names,y.2≠.cell) (hnames:∀ y∈scope.names,y.2=.local->scope.names.lookup y.1=some .local) (hx:(relabel scope X.env).names.lookup x=some .local)
  (hf:∀ p∈scope.names,p.2=.free->X.env.kindOf p.1=some .cell\/X.env.kindOf p.1=some .free) (hjs:eS X scope js) (hnd:(bF X x js).Nodup)
  (ht:∀ cl s' H' fp,PIf (bc X scope cl (bF X x js) s' H' fp) ifs tc) (he:∀ cl s' H' fp,PE (bc X scope cl (bF X x js) s' H' fp) elt te)
  (hs:∀ x,foldedSetIterable iter X.env x=pure x:=by intro _;rfl):PE X (.ListComp elt [⟨.Name x px,iter,ifs,0⟩] scope pos) (iA wi tc te js):=by
 intro pins s σ H Q I h
 obtain ⟨cl,e,p1,p2⟩:=sA (nO (js:=js) I λy hy=>hf (y,.free) hy rfl)
 exact pe_comp hc hi hk hcell hnames hx e p1 p2 hjs hnd (ht cl) (he cl) hs pins s σ H Q I h
theorem kJ {y:Str} {i:Nat} {py spos:Pos} (hN:X.N.Nodup) (hy:X.N[i]?=some y) (hyl:Loc X.env.scope y) (hyf:X.fn y=true\/X.env.scope.names.lookup y=some .local)
  (hsw:swapsWith (.ListComp elt [⟨.Name x px,iter,ifs,0⟩] scope pos) (some (.Name y py)) spos.line X.env=pure true)
  (hc:X.calm=true) (hi:PI X (.Name x px) iter wi) (hk:scope.kind=.function) (hcell:∀ y∈scope.names,y.2≠.cell) (hnames:∀ y∈scope.names,y.2=.local->scope.names.lookup y.1=some .local) (hx:(relabel scope X.env).names.lookup x=some .local)
  (hf:∀ p∈scope.names,p.2=.free->X.env.kindOf p.1=some .cell\/X.env.kindOf p.1=some .free) (hjs:eS X scope js) (hnd:(bF X x js).Nodup)
  (ht:∀ cl s' H' fp,PIf (bc X scope cl (bF X x js) s' H' fp) ifs tc) (he:∀ cl s' H' fp,PE (bc X scope cl (bF X x js) s' H' fp) elt te)
  (hs:∀ x,foldedSetIterable iter X.env x=pure x:=by intro _;rfl) :
  PS X (.Assign [.Name y py] (.ListComp elt [⟨.Name x px,iter,ifs,0⟩] scope pos) spos) (sR i (iA wi tc te js)):=by
 intro pins s σ H D I h
 obtain ⟨cl,e,p1,p2⟩:=sA (nO (js:=js) I λy hy=>hf (y,.free) hy rfl)
 exact ps_setC hN hy hyl hyf hsw hc hi hk hcell hnames hx e p1 p2 hjs hnd (ht cl) (he cl) hs pins s σ H D I h
end
theorem nR:∀{ns:List Int} {n:Int},n∈ns->WData.weight (.int n)<=WData.weightAll (ns.map WData.int)
 | [],_,h=>nomatch h
 | m::r,n,h=>by
  show _<=WData.weight (.int m)+1+WData.weightAll (r.map WData.int)
  rcases List.mem_cons.mp h with e | e
  ·subst e;omega
  ·have:=nR (ns:=r) e
   omega
theorem uV (n:Int):Builtin.Int.intBits n=WData.weight (.int n):=by
 show _=if n == 0 then 0 else n.natAbs.log2+1
 unfold Builtin.Int.intBits
 by_cases h:n=0
 ·subst h;rfl
 ·simp [h]
theorem tD {ns:List Int} (h:WData.layableAll [.list (ns.map .int)]=true):∀ n∈ns,Builtin.Int.intBits n<=1048576:=λn hn=>by
 have h1:WData.layable (.list (ns.map .int))=true:=by
  simpa [WData.layableAll] using h
 have h2:WData.weight (.list (ns.map .int))<=2 ^ 20:=by
  unfold WData.layable at h1
  rw [Bool.and_eq_true,Bool.and_eq_true] at h1
  exact of_decide_eq_true h1.2
 have h3:WData.weightAll (ns.map WData.int)<=2 ^ 20:=h2
 have h4:=nR hn
 rw [uV]
 omega
theorem yu {l:OpenLaw} {n k:Nat} {q:Program} {loose:List Str} {XP:(Str->Option Value)->Heap->Prop} {YP:World->Heap->Prop} {d:DefRec} {K:Params->Frag} {CX:CXT} {sp:Frag->Sp} {x:Str}
  (hn:l.most=some n) (hn2:n<=sizeLine) (hdf:d.params.defaults=[]) (hr:cY k callerA) (hY:∀(w:World) (h:Heap),YP w h->(K w.params).In h)
  (F:∀(w:World) (mg:Str->Option Value) (fa:Addr) (h:Heap),(K w.params).In h->h.Ns mainGlobals mg->mg d.name=some (.ref fa)->
   ∃ fd:FuncData,(∀(s:Shared) (u:Value),BindsTo s fd ⟨[u],[]⟩ [(x,u)])/\∀ base:Heap,(K w.params).In base->base.Ns mainGlobals mg->lB l.prog w (K w.params) mg base CX k fa fd [x] (sp (K w.params)))
  (hsp:∀(K:Frag) (H:Hp) (a:Addr) (ns:List Int),ns.length<=n->(∀ m∈ns,Builtin.Int.intBits m<=1048576)->Only H->SqL K H a (ns.map V.int)->sp K [.ref a] H (λv _=>v=.bl true) λ_ _ _=>False)
  (hCX:∀(H:Hp) (s:Shared) (e:Value) (s':Shared),CX [] H s (λ_ _ _=>False) e s'->False):WalkO q loose XP YP l.row.toRowW d [] (λf vs=>PySem.call f vs):=by
 intro w s₀ s₁ mg mb G Y fa o pm cd doc dV kV ho hd hcd hD hmg hg args vals as hpre hlay hrd hwl hlo
 obtain rfl:dV=.none:=Dflts.none hD hdf
 obtain rfl:kV=.none:=Dflts.noKw hD
 obtain ⟨a,vs,ns,rfl,rfl,hobj,hints,hlen⟩:=Att.yH hn hpre hwl
 have KX:=hY w _ Y
 obtain ⟨fd,hb,hF⟩:=F w mg fa _ KX G.T.g hmg
 have c:=Cr KX G.T.g G.T.b G.T.builtins G.T.nolimit hg hobj hints (Nat.le_trans hlen hn2) hr hF hb (λH hO hS=>hsp (K w.params) H a ns hlen (tD hlay) hO hS) λH e s'=>hCX H s₁ e s'
 refine enter_call (codeAny_mono c λr s' hq=>?_)
 obtain ⟨rfl,h2,h3,h4⟩:=hq
 exact ⟨.inl ⟨.bool true,.bool true,[],rfl,λ_=>rfl,.bool true,Att.yL l _,λ_=>⟨List.Pairwise.nil,λ_ hm=>(nomatch hm)⟩⟩,h2,h3,h4⟩
section
variable {κ:Type} [DecidableEq κ]
noncomputable def fP (kvs:List (κ×V)) (k:κ):Option V:=(kvs.find? λkv=>decide (kv.1=k)).map (·.2)
noncomputable def putK (kvs:List (κ×V)) (k:κ) (v:V):List (κ×V) :=
 if (kvs.any λkv=>decide (kv.1=k))=true then kvs.map (λkv=>if kv.1=k then (kv.1,v) else kv) else kvs++[(k,v)]
theorem cZ {p:κ×V} {r:List (κ×V)} {k:κ} (e:p.1=k):fP (p::r) k=some p.2:=by simp [fP,List.find?_cons,e]
theorem de {p:κ×V} {r:List (κ×V)} {k:κ} (e:¬p.1=k):fP (p::r) k=fP r k:=by simp [fP,List.find?_cons,e]
theorem iI (k:κ):∀ kvs:List (κ×V),(kvs.any λkv=>decide (kv.1=k))=(fP kvs k).isSome
 | []=>rfl
 | p::r=>by
  rw [List.any_cons]
  by_cases e:p.1=k
  ·simp only [cZ e,decide_eq_true e,Bool.true_or,Option.isSome_some]
  ·rw [de e,decide_eq_false e,Bool.false_or];exact iI k r
theorem sN (k j:κ) (y:V):∀ kvs:List (κ×V),fP (kvs.map λkv=>if kv.1=k then (kv.1,y) else kv) j=(fP kvs j).map λx=>if j=k then y else x
 | []=>rfl
 | p::r=>by
  have ih:=sN k j y r
  rw [List.map_cons]
  by_cases h:p.1=k
  ·rw [if_pos h]
   by_cases e:p.1=j
   ·rw [cZ (p:=(p.1,y)) e,cZ e,Option.map_some,if_pos (e.symm.trans h)]
   ·rw [de (p:=(p.1,y)) e,de e,ih]
  ·rw [if_neg h]
   by_cases e:p.1=j
   ·rw [cZ (p:=p) e,cZ e,Option.map_some,if_neg (λz=>h (e.trans z))]
   ·rw [de (p:=p) e,de e,ih]
theorem qd (k j:κ) (y:V):∀ kvs:List (κ×V),fP kvs k=none->fP (kvs++[(k,y)]) j=if j=k then some y else fP kvs j
 | [],_=>by
  by_cases e:k=j
  ·rw [if_pos e.symm];exact cZ (p:=(k,y)) e
  ·rw [if_neg (λz=>e z.symm)];exact de (p:=(k,y)) e
 | p::r,hn=>by
  rw [List.cons_append]
  have hk:¬p.1=k:=λz=>by rw [cZ z] at hn;cases hn
  rw [de hk] at hn
  have ih:=qd k j y r hn
  by_cases e:p.1=j
  ·rw [cZ e,cZ e,if_neg (λz=>hk (e.trans z))]
  ·rw [de e,de e,ih]
theorem sM (kvs:List (κ×V)) (k j:κ) (y:V):fP (putK kvs k y) j=if j=k then some y else fP kvs j:=by
 unfold putK
 by_cases a:(kvs.any λkv=>decide (kv.1=k))=true
 ·rw [if_pos a,sN]
  rw [iI] at a
  by_cases e:j=k
  ·obtain ⟨x,hx⟩:=Option.isSome_iff_exists.mp a
   rw [if_pos e,e,hx,Option.map_some,if_pos rfl]
  ·rw [if_neg e]
   cases fP kvs j with
   | none=>rfl
   | some x=>rw [Option.map_some,if_neg e]
 ·rw [if_neg a]
  refine qd k j y kvs ?_
  rw [iI] at a
  cases q:fP kvs k with
  | none=>rfl
  | some x=>rw [q] at a;exact (a rfl).elim
theorem mR (kvs:List (κ×V)) (k:κ) (v:V):(putK kvs k v).length<=kvs.length+1:=by
 unfold putK
 split
 ·rw [List.length_map];omega
 ·rw [List.length_append,List.length_cons,List.length_nil];omega
theorem Bo {kvs:List (κ×V)} {k:κ} (v:V) (h:fP kvs k=none):putK kvs k v=kvs++[(k,v)]:=by
 unfold putK
 rw [iI,h]
 exact if_neg (by decide)
theorem jB.isSome_eq {o:Option V} {u:Option Value} (r:jB o u):o.isSome=u.isSome:=by
 cases o with
 | none=>cases u with
  | none=>rfl
  | some _=>exact (show False from r).elim
 | some _=>cases u with
  | none=>exact (show False from r).elim
  | some _=>rfl
theorem KV.val {kvs:List (κ×V)} {vs:List (κ×Value)} (r:KV kvs vs) (k:κ):jB (fP kvs k) (valueAt vs k):=by
 unfold KV at r
 induction r with
 | nil=>exact True.intro
 | @cons p q ps qs h t ih =>
  obtain ⟨h1,h2⟩:=h
  by_cases e:p.1=k
  ·have e':q.1=k:=h1.symm.trans e
   have b:valueAt (q::qs) k=some q.2:=by simp [valueAt,List.find?_cons,e']
   rw [cZ e,b];exact h2
  ·have e':¬q.1=k:=λz=>e (h1.trans z)
   have b:valueAt (q::qs) k=valueAt qs k:=by simp [valueAt,List.find?_cons,e']
   rw [de e,b];exact ih
theorem KV.any {kvs:List (κ×V)} {vs:List (κ×Value)} (r:KV kvs vs) (k:κ):(kvs.any λkv=>decide (kv.1=k))=vs.any λkv=>decide (kv.1=k):=by
 unfold KV at r
 induction r with
 | nil=>rfl
 | cons h t ih=>rw [List.any_cons,List.any_cons,ih,h.1]
theorem KV.repl {kvs:List (κ×V)} {vs:List (κ×Value)} (r:KV kvs vs) (k:κ) {y:V} {u:Value} (ry:RelV y u) :
  KV (kvs.map λkv=>if kv.1=k then (kv.1,y) else kv) (vs.map λkv=>if kv.1=k then (kv.1,u) else kv):=by
 unfold KV at r ⊢
 induction r with
 | nil=>exact .nil
 | @cons p q ps qs h t ih =>
  rw [List.map_cons,List.map_cons]
  refine .cons ?_ ih
  obtain ⟨h1,h2⟩:=h
  by_cases e:p.1=k
  ·rw [if_pos e,if_pos (h1.symm.trans e)];exact ⟨h1,ry⟩
  ·rw [if_neg e,if_neg (λz=>e (h1.trans z))];exact ⟨h1,h2⟩
theorem KV.put {kvs:List (κ×V)} {vs:List (κ×Value)} (r:KV kvs vs) (k:κ) {y:V} {u:Value} (ry:RelV y u):KV (putK kvs k y) (stored vs k u):=by
 unfold putK stored
 rw [r.any k]
 by_cases e:(vs.any λkv=>decide (kv.1=k))=true
 ·rw [if_pos e,if_pos e];exact r.repl k ry
 ·rw [if_neg e,if_neg e];exact Paired.snoc r ⟨rfl,ry⟩
theorem KV.length {kvs:List (κ×V)} {vs:List (κ×Value)} (r:KV kvs vs):kvs.length=vs.length:=Paired.length r
end
theorem yb {P:Program} {w:World} {k:Key} {u:Value} (r:RelV (kV k) u):(cW P w).is k u=true:=by
 cases k with
 | inl i=>obtain ⟨t,e⟩:=(show ∃ t,u=Value.int i t from r);subst e;exact uA P w i t
 | inr x=>obtain ⟨t,e⟩:=(show ∃ t,u=Value.str x t from r);subst e;exact uw P w x t
theorem qM {P:Program} {w:World}:∀{ks:List Key} {us:List Value},Vals (ks.map kV) us->ItemsAre (cW P w) ks us
 | [],_,r=>by rw [List.map_nil] at r;cases r;exact .nil
 | k::ks,_,r=>by
  rw [List.map_cons] at r
  cases r with
  | cons h t=>exact .cons (yb h) (qM t)
noncomputable abbrev KT (H:Hp):List (List Key×V)->List (List Key×Addr×Value)->Prop:=Paired λp q=>p.1=q.1/\H q.2.1=some (.tup (p.1.map kV))/\RelV p.2 q.2.2
theorem KT.val {H:Hp} {kvs:List (List Key×V)} {xs:List (List Key×Addr×Value)} (r:KT H kvs xs) (k:List Key):jB (fP kvs k) ((atKey xs k).map (·.2)):=by
 induction r with
 | nil=>exact True.intro
 | @cons p q ps qs h t ih =>
  obtain ⟨h1,_,h2⟩:=h
  by_cases e:p.1=k
  ·have e':q.1=k:=h1.symm.trans e
   have b:atKey (q::qs) k=some q.2:=by simp [atKey,List.find?_cons,e']
   rw [cZ e,b];exact h2
  ·have e':¬q.1=k:=λz=>e (h1.trans z)
   have b:atKey (q::qs) k=atKey qs k:=by simp [atKey,List.find?_cons,e']
   rw [de e,b];exact ih
theorem KT.repl {H:Hp} {kvs:List (List Key×V)} {xs:List (List Key×Addr×Value)} (r:KT H kvs xs) (k:List Key) {y:V} {u:Value} (ry:RelV y u) :
  KT H (kvs.map λkv=>if kv.1=k then (kv.1,y) else kv) (xs.map (putAt k u)):=by
 induction r with
 | nil=>exact .nil
 | @cons p q ps qs h t ih =>
  rw [List.map_cons,List.map_cons]
  refine .cons ?_ ih
  obtain ⟨h1,h2,h3⟩:=h
  unfold putAt
  by_cases e:p.1=k
  ·rw [if_pos e,if_pos (h1.symm.trans e)];exact ⟨h1,h2,ry⟩
  ·rw [if_neg e,if_neg (λz=>e (h1.trans z))];exact ⟨h1,h2,h3⟩
theorem KT.put {H:Hp} {kvs:List (List Key×V)} {xs:List (List Key×Addr×Value)} (r:KT H kvs xs) (k:List Key) {b:Addr} {y:V} {u:Value} (hb:H b=some (.tup (k.map kV))) (ry:RelV y u) :
  KT H (putK kvs k y) (storedH xs k b u):=by
 have e:(kvs.any λkv=>decide (kv.1=k))=(atKey xs k).isSome:=by
  rw [iI,(r.val k).isSome_eq,Option.isSome_map]
 unfold putK storedH
 rw [e]
 by_cases q:(atKey xs k).isSome=true
 ·rw [if_pos q,if_pos q];exact r.repl k ry
 ·rw [if_neg q,if_neg q];exact Paired.snoc r ⟨rfl,hb,ry⟩
theorem KT.keeps {H H':Hp} {kvs:List (List Key×V)} {xs:List (List Key×Addr×Value)} (r:KT H kvs xs) (ht:∀ b ys,H b=some (.tup ys)->H' b=some (.tup ys)):KT H' kvs xs :=
 Paired.mapP r λ_ _ z=>⟨z.1,ht _ _ z.2.1,z.2.2⟩
section
variable {P:Program} {w:World} {H:Hp} {h:Heap} {a:Addr}
theorem rd_of {u:HO} (ok:HOk P w H h) (e:Rd H a u):cy P w H h a u:=e.ok ok
theorem yh {kvs:List (Key×V)} (ok:HOk P w H h) (e:Rd H a (.dK kvs)):kvs.length<=sizeLine/\(a == sysModules)=false/\∃ vs,KV kvs vs/\h.DictOf (cW P w) a vs :=
 show cy P w H h a (.dK kvs) from rd_of ok e
theorem dk_of {kvs:List (Key×V)} (ok:HOk P w H h) (e:H a=some (.dK kvs)):kvs.length<=sizeLine/\(a == sysModules)=false/\∃ vs,KV kvs vs/\h.DictOf (cW P w) a vs:=yh ok (.inl e)
theorem rY {ks:List Key} (ok:HOk P w H h) (e:H a=some (.tup (ks.map kV))):(tupleKind (cW P w)).is h ks a:=by
 obtain ⟨_,its,r,o,h1,h2,n,h3⟩:=(show cy P w H h a (.tup (ks.map kV)) from ok a _ e)
 exact ⟨o,its.toArray,n,h1,h2,h3,by simpa using qM r⟩
theorem yg {kvs:List (List Key×V)} (ok:HOk P w H h) (e:Rd H a (.dT kvs)):kvs.length<=sizeLine/\(a == sysModules)=false/\
  ∃ xs,KT H kvs xs/\h.DictOfH (tupleKind (cW P w)) a xs:=by
 obtain ⟨z,y,xs,r,o,es,ep,h1,h2,h3,h4,h5⟩:=(show cy P w H h a (.dT kvs) from rd_of ok e)
 refine ⟨z,y,xs,r,o,es,ep,h1,h2,h3,h4,λx hx=>?_,h5⟩
 have all:∀{l:List (List Key×V)} {m:List (List Key×Addr×Value)},KT H l m->∀ x∈m,(tupleKind (cW P w)).is h x.1 x.2.1:=by
  intro l m q
  induction q with
  | nil=>intro x hx;exact nomatch hx
  | @cons p q ps qs hq t ih =>
   intro x hx
   rcases List.mem_cons.mp hx with e | hx
   ·subst e
    exact rY ok (by rw [<- hq.1];exact hq.2.1)
   ·exact ih x hx
 exact all r x hx
theorem dt_of {kvs:List (List Key×V)} (ok:HOk P w H h) (e:H a=some (.dT kvs)):kvs.length<=sizeLine/\(a == sysModules)=false/\
  ∃ xs,KT H kvs xs/\h.DictOfH (tupleKind (cW P w)) a xs:=yg ok (.inl e)
end
noncomputable def pZ (H:Hp) (a:Addr) (y:V) (r:Option V):Prop :=
 (∃ kvs k,Rd H a (.dK kvs)/\y=kV k/\r=fP kvs k)\/∃ kvs k b,Rd H a (.dT kvs)/\y=.ref b/\H b=some (.tup (k.map kV))/\r=fP kvs k
noncomputable def Dx (H:Hp) (a:Addr) (y v:V) (H':Hp):Prop :=
 (∃ kvs k,H a=some (.dK kvs)/\y=kV k/\kvs.length < sizeLine/\H'=upd H a (.dK (putK kvs k v)))\/
 ∃ kvs k b,H a=some (.dT kvs)/\y=.ref b/\H b=some (.tup (k.map kV))/\kvs.length < sizeLine/\H'=upd H a (.dT (putK kvs k v))
theorem pZ.t {H:Hp} {a b:Addr} {kvs:List (List Key×V)} {k:List Key} (e:H a=some (.dT kvs)) (eb:H b=some (.tup (k.map kV))):pZ H a (.ref b) (fP kvs k):=.inr ⟨kvs,k,b,.inl e,rfl,eb,rfl⟩
theorem Dx.t {H:Hp} {a b:Addr} {kvs:List (List Key×V)} {k:List Key} {v:V} (e:H a=some (.dT kvs)) (eb:H b=some (.tup (k.map kV))) (hl:kvs.length < sizeLine) :
  Dx H a (.ref b) v (upd H a (.dT (putK kvs k v))):=.inr ⟨kvs,k,b,e,rfl,eb,hl,rfl⟩
section
variable {X:Cx} {pins:List (Addr×Obj)} {σ:St} {H:Hp} {s:Shared} {a:Addr} {y v:V} {u r:Value} {o:Option V} {A:Around} {E:Value->Shared->Prop}
theorem Inv.big (I:Inv X pins σ H s):sysModules < s.heap.objs.size:=by
 have h:mainGlobals < s.heap.objs.size:=(I.mod.glob.keeps I.bk).lt
 exact Nat.lt_trans (by decide) h
theorem zF {Q:Value->Shared->Prop} (hu:A.units+1 < cLine) (I:Inv X pins σ H s) (g:pZ H a y (some v)) (ry:RelV y u) (h:∀ w' s',Inv X pins σ H s'->RelV v w'->Q w' s') :
  wpAny (model X.prog X.w) A (getItem (.ref a) u) Q E s:=by
 rcases g with ⟨kvs,k,e,ey,l⟩ | ⟨kvs,k,b,e,ey,eb,l⟩
 ·subst ey
  obtain ⟨z,hd,vs,rel,dd⟩:=yh I.hok e
  obtain ⟨w',hw,rw'⟩:=jB.some_of (v:=v) (o:=valueAt vs k) (by rw [l];exact rel.val k)
  exact wpAny_getItem_of (yb ry) dd.mapOf hw (h w' _ (I.tok _) rw')
 ·subst ey
  cases (show u=Value.ref b from ry)
  obtain ⟨z,hd,xs,rel,dd⟩:=yg I.hok e
  obtain ⟨w',hw,rw'⟩:=jB.some_of (v:=v) (o:=(atKey xs k).map (·.2)) (by rw [l];exact rel.val k)
  obtain ⟨p,hp,hp2⟩:=Option.map_eq_some_iff.mp hw
  refine wpAny_getItem_heap (tupleKind_room_in1 hu) (rY I.hok eb) dd hp ?_
  rw [hp2]
  exact h w' _ (I.tok _) rw'
theorem d_notIn {Q:Value->Shared->Prop} (hu:A.units+1 < cLine) (I:Inv X pins σ H s) (g:pZ H a y o) (ry:RelV y u) (h:∀ s',Inv X pins σ H s'->Q (.bool (!o.isSome)) s') :
  wpAny (model X.prog X.w) A (compareOp .NotIn u (.ref a)) Q E s:=by
 rcases g with ⟨kvs,k,e,ey,l⟩ | ⟨kvs,k,b,e,ey,eb,l⟩
 ·subst ey
  obtain ⟨z,hd,vs,rel,dd⟩:=yh I.hok e
  refine wpAny_notIn_of (yb ry) hd dd.mapOf ?_
  rw [<- (rel.val k).isSome_eq,<- l]
  exact h _ (I.tok _)
 ·subst ey
  cases (show u=Value.ref b from ry)
  obtain ⟨z,hd,xs,rel,dd⟩:=yg I.hok e
  refine wpAny_notIn_heap (tupleKind_room_in1 hu) (rY I.hok eb) hd dd ?_
  have q:=(rel.val k).isSome_eq
  rw [Option.isSome_map] at q
  rw [<- q,<- l]
  exact h _ (I.tok _)
theorem yl {h':Heap} {t':Nat} {ob:HO} (I:Inv X pins σ H s) (mu:Mut (H a)) (hs:Heap.SameBut a s.heap h') (he:∃ q,h'.get? a=some q) (new:cy X.prog X.w (upd H a ob) h' a ob) :
  Inv X pins σ (upd H a ob) {s with heap:=h',toks:=t' } :=
 I.write (x:=a) (e:=a) mu (.inl rfl) (λb q hb z=>(hs.2 b hb).trans z) he new
theorem dk_new {P:Program} {w:World} {H':Hp} {h':Heap} {kvs:List (Key×V)} {vs:List (Key×Value)} (z:kvs.length<=sizeLine) (hd:(a == sysModules)=false) (rel:KV kvs vs) (dd:h'.DictOf (cW P w) a vs) :
  cy P w H' h' a (.dK kvs):=⟨z,hd,vs,rel,dd⟩
theorem zE {H':Hp} {Q:Unit->Shared->Prop} (hu:A.units+1 < cLine) (I:Inv X pins σ H s) (g:Dx H a y v H') (ry:RelV y u) (rv:RelV v r) (h:∀ s',Inv X pins σ H' s'->Q () s') :
  wpAny (model X.prog X.w) A (setItem (.ref a) u r) Q E s:=by
 rcases g with ⟨kvs,k,e,ey,l,eH⟩ | ⟨kvs,k,b,e,ey,eb,l,eH⟩
 ·subst ey eH
  obtain ⟨z,hd,vs,rel,dd⟩:=dk_of I.hok e
  have hz:vs.length<=sizeLine:=by rw [<- rel.length];exact z
  have hl:(putK kvs k v).length<=sizeLine:=by have:=mR kvs k v;omega
  refine wpAny_setItem_pairs (hsz:=hz) (yb ry) dd λh' dd' hs=>h _ ?_
  have he:∃ q,h'.get? a=some q:=let ⟨q,_,_,hq,_⟩:=dd';⟨q,hq⟩
  exact yl I (by rw [e];exact True.intro) hs he (dk_new hl hd (rel.put k rv) dd')
 ·subst ey eH
  cases (show u=Value.ref b from ry)
  obtain ⟨z,hd,xs,rel,dd⟩:=dt_of I.hok e
  have hz:xs.length<=sizeLine:=by rw [<- Paired.length rel];exact z
  have hl:(putK kvs k v).length<=sizeLine:=by have:=mR kvs k v;omega
  refine wpAny_setItem_heap (hsz:=hz) (tupleKind_room_in1 hu) (rY I.hok eb) dd λh' dd' hs=>h _ ?_
  obtain ⟨q,es,ep,hq,h2,h3,h4,_,h5⟩:=dd'
  refine yl I (by rw [e];exact True.intro) hs ⟨q,hq⟩ ⟨hl,hd,_,(rel.put k eb rv).keeps λc ys ec=>?_,q,es,ep,hq,h2,h3,h4,h5⟩
  rw [au (xW ec e (λz=>nomatch z))]
  exact ec
end
section
variable {X:Cx} {pins:List (Addr×Obj)} {σ:St} {H:Hp} {s:Shared} {a:Addr} {kvs:List (Key×V)} {k:Key} {u:Value} {A:Around} {E:Value->Shared->Prop}
end
noncomputable def NoSl (i:Expr):Prop:=∀ ov iv,subscripted i false ov iv=operate [ov,iv] (getItem ov iv)
theorem subD_of {prog:Program} {w:World} {A:Around} {E:Value->Shared->Prop} {s:Shared} {env:Env} {value slice:Expr} {pos:Pos} {T id:String} {Q:Value->Shared->Prop}
  (hl:typeLookup (.type T) "__getitem__"=pure (some (.builtin id))) (hs:NoSl slice)
  (h:wpAny (model prog w) A (eval value env) (λo s₁=>wpAny (model prog w) A (eval slice env) (λi s₂=>s₂.TypeIs o T/\wpAny (model prog w) A (getItem o i) Q E s₂) E s₁) E s) :
  wpAny (model prog w) A (eval (.Subscript value slice pos) env) Q E s:=by
 refine Subscript_ (wpAny_mono h (λo s₁ h₁=>wpAny_mono h₁ (λi s₂ h₂=>?_) λ_ _ x=>x) λ_ _ x=>x)
 obtain ⟨hT,h₂⟩:=h₂
 unfold subscriptTail
 refine wpAny_bind ?_
 rw [getitemInPython_of_ne hT.not_modules]
 refine wpAny_bind (wpAny_specialOf hT hl ?_)
 have fin:wpAny (model prog w) A (subscripted slice false o i) (λr s₃=>wpAny (model prog w) A (letTemporaryGo value o r >>= λ_=>pure r) Q E s₃) E s₂:=by
  rw [hs o i]
  exact wpAny_operating (wpAny_mono h₂ (λr s₃ h₃=>wpAny_bind (wpAny_letTemporaryGo (wpAny_pure h₃))) λ_ _ x=>x)
 first
  | exact wpAny_pure (wpAny_bind fin)
  | exact wpAny_bind (wpAny_pure (wpAny_bind fin))
  | exact wpAny_bind fin
theorem uL {X:Cx} {pins:List (Addr×Obj)} {σ:St} {H:Hp} {s:Shared} {a:Addr} {y:V} {o:Option V} (I:Inv X pins σ H s) (g:pZ H a y o):s.TypeIs (.ref a) "dict":=by
 rcases g with ⟨kvs,k,e,_,_⟩ | ⟨kvs,k,b,e,_,_,_⟩
 ·obtain ⟨_,_,vs,_,dd⟩:=yh I.hok e
  exact dd.typeIs
 ·obtain ⟨_,_,xs,_,dd⟩:=yg I.hok e
  exact dd.typeIs
noncomputable def tDGet (td ty:TE):TE:=fun σ H Q=>td σ H λx H1=>ty σ H1 λy H2=>∃ a v,x=.ref a/\pZ H2 a y (some v)/\Q v H2
noncomputable def tDNotIn (ty td:TE):TE:=fun σ H Q=>ty σ H λy H1=>td σ H1 λx H2=>∃ a o,x=.ref a/\pZ H2 a y o/\Q (.bl (!o.isSome)) H2
noncomputable def sDPut (td ty tv:TE):TS:=λD σ H=>tv σ H λv H1=>td σ H1 λx H2=>ty σ H2 λy H3=>∃ a H4,x=.ref a/\Dx H3 a y v H4/\D.nx σ H4
section
variable {X:Cx} {o i e value:Expr} {pos pos' tpos:Pos} {td ty tv:TE}
theorem pe_dget (hu:X.A.units+1 < cLine) (ho:PE X o td) (hi:PE X i ty) (hs:NoSl i):PE X (.Subscript o i pos) (tDGet td ty):=by
 intro pins s σ H Q I h
 refine subD_of PySem.F.slot_dict_getitem.lookup hs (thn (ho pins s σ H _ I h) λu s1 zz=>?_)
 obtain ⟨x,H1,I1,rx,q1⟩:=zz
 refine thn (hi pins s1 σ H1 _ I1 q1) λiv s2 zz=>?_
 obtain ⟨y,H2,I2,ry,a,v,ex,g,q2⟩:=zz
 subst ex
 obtain rfl:u=Value.ref a:=rx
 exact ⟨uL I2 g,zF hu I2 g ry λw' s3 I3 rw'=>⟨v,H2,I3,rw',q2⟩⟩
theorem yM (hu:X.A.units+1 < cLine) (hi:PE X i ty) (ho:PE X o td):PC X .NotIn i o (tDNotIn ty td):=by
 intro pins s σ H Q I h
 refine thn (hi pins s σ H _ I h) λiv s1 zz=>?_
 obtain ⟨y,H1,I1,ry,q1⟩:=zz
 refine thn (ho pins s1 σ H1 _ I1 q1) λu s2 zz=>?_
 obtain ⟨x,H2,I2,rx,a,ov,ex,g,q2⟩:=zz
 subst ex
 obtain rfl:u=Value.ref a:=rx
 exact d_notIn hu I2 g ry λs3 I3=>⟨.bl (!ov.isSome),H2,I3,rfl,q2⟩
theorem ps_dput (hu:X.A.units+1 < cLine) (ho:PE X o td) (hi:PE X i ty) (hv:PE X value tv) (hs:swapsWith value (some (.Subscript o i pos')) pos.line X.env=pure false) :
  PS X (.Assign [.Subscript o i pos'] value pos) (sDPut td ty tv):=by
 intro pins s σ H D I h
 refine wpAny_Assign_Subscript (thn (hv pins s σ H _ I h) λr s1 zz=>?_) hs
 obtain ⟨v,H1,I1,rv,q1⟩:=zz
 refine thn (ho pins s1 σ H1 _ I1 q1) λu s2 zz=>?_
 obtain ⟨x,H2,I2,rx,q2⟩:=zz
 refine thn (hi pins s2 σ H2 _ I2 q2) λiv s3 zz=>?_
 obtain ⟨y,H3,I3,ry,a,H4,ex,g,q3⟩:=zz
 subst ex
 obtain rfl:u=Value.ref a:=rx
 exact zE hu I3 g ry rv λs4 I4=>⟨σ,H4,I4,q3⟩
end
theorem CV {P:Program} {w:World} {H:Hp} (h:Heap) (hb:sysModules < h.objs.size):cy P w H (h.push {cls:=.type "dict",data:=.dict #[] }) h.objs.size (.dK []) :=
 ⟨Nat.zero_le _,beq_eq_false_iff_ne.mpr (Ne.symm (Nat.ne_of_lt hb)),[],.nil,Heap.DictOf.new h⟩
theorem CU {P:Program} {w:World} {H:Hp} (h:Heap) (hb:sysModules < h.objs.size):cy P w H (h.push {cls:=.type "dict",data:=.dict #[] }) h.objs.size (.dT []) :=
 ⟨Nat.zero_le _,beq_eq_false_iff_ne.mpr (Ne.symm (Nat.ne_of_lt hb)),[],.nil,_,#[],0,Heap.get?_push_size _ rfl,⟨rfl,rfl,rfl⟩,rfl,rfl,List.nodup_nil⟩
noncomputable def Av:TE:=λ_ H Q=>∀ p,H p=none->Q (.ref p) (upd H p (.dK []))
noncomputable def tDNewT:TE:=λ_ H Q=>∀ p,H p=none->Q (.ref p) (upd H p (.dT []))
section
variable {X:Cx} {pos:Pos}
theorem Bx:PE X (.Dict [] [] pos) Av:=λpins s σ H Q I h =>
 wpAny_Dict_empty ⟨.ref s.heap.objs.size,_,I.laid (a:=s.heap.objs.size) (o:=.dK []) (t':=s.toks) (λ_ _ q=>Heap.get?_push_of_some _ q) (Nat.le_refl _) (CV s.heap I.big),rfl,h _ (I.hok.fresh (Nat.le_refl _))⟩
theorem Bw:PE X (.Dict [] [] pos) tDNewT:=λpins s σ H Q I h =>
 wpAny_Dict_empty ⟨.ref s.heap.objs.size,_,I.laid (a:=s.heap.objs.size) (o:=.dT []) (t':=s.toks) (λ_ _ q=>Heap.get?_push_of_some _ q) (Nat.le_refl _) (CU s.heap I.big),rfl,h _ (I.hok.fresh (Nat.le_refl _))⟩
end
section
variable {X:Cx} {pins:List (Addr×Obj)} {σ:St} {H:Hp} {s:Shared} {a:Addr} {y d:V} {u r:Value} {o:Option V} {A:Around} {E:Value->Shared->Prop}
end
section
variable {X:Cx} {o e f:Expr} {apos cpos:Pos} {td ty tx:TE}
end
section
variable {X:Cx} {pins:List (Addr×Obj)} {σ:St} {H:Hp} {s:Shared} {a:Addr} {kvs:List (Key×V)} {A:Around} {E:Value->Shared->Prop}
end
section
variable {X:Cx} {pins:List (Addr×Obj)} {σ:St} {H:Hp} {s:Shared} {a:Addr} {y:V} {u:Value} {A:Around} {E:Value->Shared->Prop}
end
section
variable {prog:Program} {w:World} {A:Around} {E:Value->Shared->Prop} {s:Shared} {R:Result->Shared->Prop} {l it S:Addr} {items:Array Value}
end
structure bw (P:Program) (w:World) (K:PySem.W.Frag) (mg:Str->Option Value) (base:Heap) (C:Addr) (m:Str) (k:Nat) (ps:List Str) (sp:Sp):Prop where
 cl:Cls K C
 ex:∃(f:Addr) (fd:FuncData),Meth K C m f/\lB P w K mg base CX0 k f fd ps sp/\Binds K fd ps []
section
variable {X:Cx} {o e:Expr} {es:List Expr} {ta te:TE} {t:TA} {m x:Str} {k:Nat} {p pos apos p2 pos2:Pos} {C:Addr}
noncomputable def tMethD (X:Cx) (k:Nat) (m:Str) (ta:TE) (t:TA):TE:=fun σ H Q=>ta σ H λx H1=>∃(a C dx:Addr) (fs:List (Str×V)) (ps:List Str) (sp:Sp),x=.ref a/\H1 a=some (.ins C dx fs)/\fs.lookup m=none/\
 bw X.prog X.w X.K X.mg X.base C m k ps sp/\t σ H1 λvs H2=>sp (.ref a::vs) H2 Q E0
theorem cT {pl:Sem Bool} (he:PE X o ta) (hr:cY k X.A)
  (ht:eval (.Call (.Attribute o m apos) [] [] pos) X.env=(do
   let ov <- eval o X.env
   standAt apos.atName
   let (f,first) <- holding [ov] (getMethod ov m pl)
   callWith pos f first (backTo pos (starEach [] X.env)) (backToKw pos (keywordEach [] X.env))):=by rfl) :
  PE X (.Call (.Attribute o m apos) [] [] pos) (tMethD X k m ta jH):=by
 intro pins s σ H Q I h
 refine PySem.W.methodCall_KW (pl:=pl) (thn (he pins s σ H _ I h) λu s1 zz=>?_) ht
 obtain ⟨y,H1,I1,ry,a,C,dx,fs,ps,sp,ey,ea,lo,M,q⟩:=zz
 subst ey
 have eu:u=Value.ref a:=ry
 subst eu
 obtain ⟨f,fd,hm,G,hb⟩:=M.ex
 refine wk I1 ea M.cl hm lo ?_
 exact PySem.W.callWith_K0 (first:=[.ref a]) I1.kIn hm.kp (vL (us:=[.ref a]) (vs:=[.ref a]) G hr hb .nil xP I1 (.cons rfl .nil) q)
structure Mk0 (K:PySem.W.Frag) (C:Addr):Prop where
 makes:PySem.W.makesIn K C=true
 init:PySem.W.findIn K (.ref C) "__init__"=some (some (.builtin "object.__init__"))
 kp:PySem.W.keepIn K (.ref C)=true
noncomputable def tMakeN (C:Addr):TE:=λ_ H Q=>∀ a dx,H a=none->H dx=none->dx≠a->Q (.ref a) (upd (upd H dx (.own a)) a (.ins C dx []))
theorem tT (M:Mk0 X.K C) (hg:Gl X x) (hm:X.mg x=some (.ref C)) (hdb:(x == ("__debug__":Str))=false:=by decide):PE X (.Call (.Name x p) [] [] pos) (tMakeN C):=by
 intro pins s σ H Q I h
 refine wpAny_Call_Name_kw (fu I hg hm ?_ hdb)
 refine PySem.W.callWith_K0 I.kIn M.kp (wpAny_call ?_)
 have Y:=PySem.W.makes_of (M:=model X.prog X.w) I.kIn M.makes
 refine zo I.kIn M.makes M.init (λself=>PySem.W.Looks.of_pure (PySem.W.oi_bind self)) ?_
 have I2:=Inv.made (C:=C) I
 have e2:((s.heap.push PySem.W.emptyDict).push (PySem.W.instObj C s.heap.objs.size)).get? (s.heap.objs.size+1)=some (PySem.W.instObj C s.heap.objs.size):=by
  have z:=Heap.get?_push_size (s.heap.push PySem.W.emptyDict) (o:=PySem.W.instObj C s.heap.objs.size) rfl
  rwa [Heap.size_push] at z
 have t1:PySem.W.Looks (model X.prog X.w) ((s.heap.push PySem.W.emptyDict).push (PySem.W.instObj C s.heap.objs.size)) (typeOf (.ref (s.heap.objs.size+1))) (.ref C):=(PySem.W.Looks.ld e2).andThen .now
 have t2:PySem.W.Looks (model X.prog X.w) ((s.heap.push PySem.W.emptyDict).push (PySem.W.instObj C s.heap.objs.size)) (isInstance (.ref (s.heap.objs.size+1)) (.type "object")) true :=
  t1.andThen (Y.top.keeps λb q z=>Heap.get?_push_of_some _ (Heap.get?_push_of_some _ z))
 have z:=h (s.heap.objs.size+1) s.heap.objs.size (I.hok.fresh (Nat.le_succ _)) (I.hok.fresh (Nat.le_refl _)) (Nat.ne_of_lt (Nat.lt_succ_self _))
 refine codeAny_call_builtin PySem.W.oi_plain PySem.W.entry_oi (PySem.W.check_slot (i:="object.__init__") (owner:="object") (n:="__init__") (self:=.ref (s.heap.objs.size+1)) (rest:=[]) (kw:=[]) PySem.W.oi_kind PySem.W.oi_split t2 (PySem.W.oi_args _) ?_)
 rw [PySem.W.oi_run]
 exact wpAny_pure (And.intro rfl ⟨V.ref (s.heap.objs.size+1),_,I2,rfl,z⟩)
end
end L2
namespace Mine
open PySem
inductive W5 where
 | more | less | greater | lesser | leads
noncomputable def W5.str:W5->Str
 | .more=>"more" | .less=>"less" | .greater=>"greater" | .lesser=>"lesser" | .leads=>"leads"
inductive Tr where
 | never | always | lp | lq
 | no (t:Tr)
 | fold (w:W5) (a b:Tr)
noncomputable def Tr.size:Tr->Nat
 | .no t=>t.size+1
 | .fold _ a b=>a.size+b.size+1
 | _=>1
theorem Tr.size_pos:∀ t:Tr,1<=t.size
 | .never | .always | .lp | .lq=>Nat.le_refl _
 | .no _=>Nat.le_add_left _ _
 | .fold _ _ _=>Nat.le_add_left _ _
noncomputable def Tr.post:Tr->List Tr
 | .no t=>t.post++[.no t]
 | .fold w a b=>a.post++b.post++[.fold w a b]
 | t=>[t]
theorem fE:∀ t:Tr,t.post.length=t.size
 | .no t=>by simp [Tr.post,Tr.size,fE t]
 | .fold w a b=>by simp [Tr.post,Tr.size,fE a,fE b];omega
 | .never=>rfl
 | .always=>rfl
 | .lp=>rfl
 | .lq=>rfl
end Mine
namespace L2
open PySem PySem.Spec PyProof.Rows
mutual
noncomputable def Dat (K:PySem.W.Frag) (H:Hp):PyData->V->Prop
 | .none,v=>v=.non
 | .bool b,v=>v=.bl b
 | .int i,v=>v=.int i
 | .str x,v=>v=.str x
 | .tuple ds,v=>∃ a xs,v=.ref a/\SqT K H a xs/\DatAll K H ds xs
 | .list _,_=>False
 | .dict _,_=>False
noncomputable def DatAll (K:PySem.W.Frag) (H:Hp):List PyData->List V->Prop
 | [],xs=>xs=[]
 | d::ds,xs=>∃ x r,xs=x::r/\Dat K H d x/\DatAll K H ds r
end
structure Tst (H H':Hp):Prop where
 t:∀ b xs,H b=some (.tup xs)->H' b=some (.tup xs)
 f:∀ b o u,H b=some (.frz o u)->H' b=some (.frz o u)
theorem aJ.ts {H H':Hp} (e:aJ H H'):Tst H H':=⟨λb xs h=>e b _ h,λb o u h=>e b _ h⟩
theorem cA {H:Hp} {l:Addr} {xs:List V} {o:HO} (e:H l=some (.lst xs)):Tst H (upd H l o) :=
 ⟨λb ys h=>by rw [au (xW h e (by intro z;cases z))];exact h,λb o u h=>by rw [au (xW h e (by intro z;cases z))];exact h⟩
theorem SqT.ts {K:PySem.W.Frag} {H H':Hp} {a:Addr} {xs:List V} (h:SqT K H a xs) (e:Tst H H'):SqT K H' a xs:=by
 rcases h with (h | ⟨o,h⟩) | h
 ·exact .inl (.inl (e.t _ _ h))
 ·exact .inl (.inr ⟨o,e.f _ _ _ h⟩)
 ·exact .inr h
mutual
theorem Dat.ts {K:PySem.W.Frag} {H H':Hp} (e:Tst H H'):∀{d:PyData} {v:V},Dat K H d v->Dat K H' d v
 | .none,_,h=>h
 | .bool _,_,h=>h
 | .int _,_,h=>h
 | .str _,_,h=>h
 | .tuple _,_,⟨a,xs,h1,h2,h3⟩=>⟨a,xs,h1,h2.ts e,DatAll.ts e h3⟩
 | .list _,_,h=>h
 | .dict _,_,h=>h
theorem DatAll.ts {K:PySem.W.Frag} {H H':Hp} (e:Tst H H'):∀{ds:List PyData} {xs:List V},DatAll K H ds xs->DatAll K H' ds xs
 | [],_,h=>h
 | _::_,_,⟨x,r,h1,h2,h3⟩=>⟨x,r,h1,Dat.ts e h2,DatAll.ts e h3⟩
end
theorem DatAll.len {K:PySem.W.Frag} {H:Hp}:∀{ds:List PyData} {xs:List V},DatAll K H ds xs->xs.length=ds.length
 | [],_,h=>by subst h;rfl
 | _::_,_,⟨x,r,h1,_,h3⟩=>by subst h1;simp [h3.len]
theorem DatAll.get {K:PySem.W.Frag} {H:Hp}:∀{ds:List PyData} {xs:List V} {i:Nat} {d:PyData},DatAll K H ds xs->ds[i]?=some d->∃ x,xs[i]?=some x/\Dat K H d x
 | [],_,_,_,_,e=>by cases e
 | _::_,_,0,_,⟨x,r,h1,h2,_⟩,e=>by subst h1;cases e;exact ⟨x,rfl,h2⟩
 | _::_,_,i+1,_,⟨x,r,h1,_,h3⟩,e=>by
  subst h1
  obtain ⟨y,e1,e2⟩:=h3.get (i:=i) (by simpa using e)
  exact ⟨y,by simpa using e1,e2⟩
theorem DatAll.get' {K:PySem.W.Frag} {H:Hp} {ds:List PyData} {xs:List V} {i:Nat} {x:V} (h:DatAll K H ds xs) (e:xs[i]?=some x):∃ d,ds[i]?=some d/\Dat K H d x:=by
 have hl:=h.len
 have hi:=(List.getElem?_eq_some_iff.mp e).1
 have hd:ds[i]?=some (ds[i]'(by omega)):=List.getElem?_eq_getElem (by omega)
 obtain ⟨y,e1,e2⟩:=h.get hd
 rw [e] at e1
 cases e1
 exact ⟨_,hd,e2⟩
theorem DatAll.append {K:PySem.W.Frag} {H:Hp}:∀{ds es:List PyData} {xs ys:List V},DatAll K H ds xs->DatAll K H es ys->DatAll K H (ds++es) (xs++ys)
 | [],_,_,_,h,g=>by subst h;exact g
 | _::_,_,_,_,⟨x,r,h1,h2,h3⟩,g=>by subst h1;exact ⟨x,_,rfl,h2,h3.append g⟩
theorem DatAll.snoc {K:PySem.W.Frag} {H:Hp} {ds:List PyData} {xs:List V} {d:PyData} {x:V} (h:DatAll K H ds xs) (g:Dat K H d x):DatAll K H (ds++[d]) (xs++[x]):=h.append ⟨x,[],rfl,g,rfl⟩
mutual
theorem Dat.reads {X:Cx} {pins:List (Addr×Obj)} {σ:St} {H:Hp} {s:Shared} (I:Inv X pins σ H s):∀(d:PyData) {v:V} {u:Value},Dat X.K H d v->RelV v u->∃ as,Reads s.heap u d as
 | .none,_,_,h,r=>by
  cases (show _=V.non from h)
  cases (show _=Value.none from r)
  exact ⟨[],.none⟩
 | .bool b,_,_,h,r=>by
  cases (show _=V.bl b from h)
  cases (show _=Value.bool b from r)
  exact ⟨[],.bool b⟩
 | .int i,_,_,h,r=>by
  cases (show _=V.int i from h)
  obtain ⟨t,q⟩:=(show ∃ t,_=Value.int i t from r)
  cases q
  exact ⟨[],.int i t⟩
 | .str x,_,_,h,r=>by
  cases (show _=V.str x from h)
  obtain ⟨t,q⟩:=(show ∃ t,_=Value.str x t from r)
  cases q
  exact ⟨[],.str x t⟩
 | .tuple ds,_,_,⟨a,xs,h1,h2,h3⟩,r=>by
  cases h1
  cases (show _=Value.ref a from r)
  obtain ⟨its,rv,⟨o,ho,hc,n,hd⟩,_⟩:=I.tuple h2
  obtain ⟨as,ra⟩:=DatAll.reads I ds h3 rv
  exact ⟨as,.tuple ho hc hd (by simpa using ra)⟩
 | .list _,_,_,h,_=>False.elim h
 | .dict _,_,_,h,_=>False.elim h
theorem DatAll.reads {X:Cx} {pins:List (Addr×Obj)} {σ:St} {H:Hp} {s:Shared} (I:Inv X pins σ H s):∀(ds:List PyData) {xs:List V} {us:List Value},DatAll X.K H ds xs->Vals xs us->∃ as,ReadsAll s.heap us ds as
 | [],_,_,h,r=>by
  cases (show _=([]:List V) from h)
  cases r
  exact ⟨[],.nil⟩
 | d::ds,_,_,⟨x,t,h1,h2,h3⟩,r=>by
  cases h1
  cases r with
  | cons r1 r2 =>
   obtain ⟨as,a1⟩:=Dat.reads I d h2 r1
   obtain ⟨bs,b1⟩:=DatAll.reads I ds h3 r2
   exact ⟨as++bs,.cons a1 b1⟩
end
noncomputable def Du (K:PySem.W.Frag) (H:Hp) (d:PyData) (v:V):Prop:=Dat K H d v\/∃ ds a xs,d=.list ds/\v=.ref a/\SqL K H a xs/\DatAll K H ds xs
theorem Du.reads {X:Cx} {pins:List (Addr×Obj)} {σ:St} {H:Hp} {s:Shared} {d:PyData} {v:V} {u:Value} (I:Inv X pins σ H s) (h:Du X.K H d v) (r:RelV v u):∃ as,Reads s.heap u d as:=by
 rcases h with h | ⟨ds,a,xs,rfl,rfl,h2,h3⟩
 ·exact Dat.reads I d h r
 ·cases (show _=Value.ref a from r)
  obtain ⟨its,rv,⟨o,n,ho,hc,_,hd⟩,_⟩:=I.list h2
  obtain ⟨as,ra⟩:=DatAll.reads I ds h3 rv
  exact ⟨a::as,.list ho hc hd (by simpa using ra)⟩
section
variable {X:Cx}
theorem uU {bs:List Bool}:∀{us:List Value},Vals (bs.map V.bl) us->LSm.BoolsAre us bs:=by
 induction bs with
 | nil=>intro us r;cases r;exact .nil
 | cons b r ih =>
  intro us q
  cases q with
  | cons a t =>
   cases (show _=Value.bool b from a)
   exact .cons b (ih t)
theorem uS (hc:X.calm=true):gK X (.builtin "all") (λxs H Q=>∃(l:Addr) (bs:List Bool),xs=[.ref l]/\SqL X.K H l (bs.map V.bl)/\Q (.bl (bs.all id)) H):=by
 intro pins s σ H xs us Q I r h
 obtain ⟨l,bs,rfl,hq,q⟩:=h
 obtain ⟨u,rfl,rx⟩:=vals1 r
 cases rx
 obtain ⟨its,rv,pl,_⟩:=I.list hq
 have hl:=pl.isList
 have hb:=uU rv
 have hlt:l < s.heap.objs.size:=by obtain ⟨_,e,_⟩:=hl;exact Heap.lt_size e
 refine call_all_walk (wpAny_pyIter_list hl ?_)
 refine ⟨s.heap.objs.size,[s.heap.objs.size,l],[s.heap.objs.size],its.toArray.size,_,_,λi=>(bs[i]?).getD true,rfl,Walks.list (A:=X.A.in1) (I.ok.hd hc) _ l (Nat.ne_of_lt hlt) its.toArray,
  ⟨⟨_,Heap.get?_push_size _ rfl,rfl,rfl⟩,hl.push _⟩,λi v s' Q' E' hP hQ=>?_,λh' tk hk=>?_⟩
 ·obtain ⟨b,e,rfl⟩:=hb.get i v (by simpa using hP)
  simp only [e,Option.getD_some] at hQ
  exact wpAny_truthy_bool hQ
 ·have e:((List.range its.toArray.size).all λi=>(bs[i]?).getD true)=bs.all id:=by
   rw [List.size_toArray,hb.length];exact LSm.range_all bs
  rw [e]
  exact ⟨.bl _,H,I.kept (t':=tk) (LSm.kept_iter hk),rfl,q⟩
theorem Di (hc:X.calm=true):gK X (.builtin "any") (λxs H Q=>∃(l:Addr) (bs:List Bool),xs=[.ref l]/\SqL X.K H l (bs.map V.bl)/\Q (.bl (bs.any id)) H):=by
 intro pins s σ H xs us Q I r h
 obtain ⟨l,bs,rfl,hq,q⟩:=h
 obtain ⟨u,rfl,rx⟩:=vals1 r
 cases rx
 obtain ⟨its,rv,pl,_⟩:=I.list hq
 have hl:=pl.isList
 have hb:=uU rv
 have hlt:l < s.heap.objs.size:=by obtain ⟨_,e,_⟩:=hl;exact Heap.lt_size e
 refine call_any_walk (wpAny_pyIter_list hl ?_)
 refine ⟨s.heap.objs.size,[s.heap.objs.size,l],[s.heap.objs.size],its.toArray.size,_,_,λi=>(bs[i]?).getD false,rfl,Walks.list (A:=X.A.in1) (I.ok.hd hc) _ l (Nat.ne_of_lt hlt) its.toArray,
  ⟨⟨_,Heap.get?_push_size _ rfl,rfl,rfl⟩,hl.push _⟩,λi v s' Q' E' hP hQ=>?_,λh' tk hk=>?_⟩
 ·obtain ⟨b,e,rfl⟩:=hb.get i v (by simpa using hP)
  simp only [e,Option.getD_some] at hQ
  exact wpAny_truthy_bool hQ
 ·have e:((List.range its.toArray.size).any λi=>(bs[i]?).getD false)=bs.any id:=by
   rw [List.size_toArray,hb.length];exact LSm.range_any bs
  rw [e]
  exact ⟨.bl _,H,I.kept (t':=tk) (LSm.kept_iter hk),rfl,q⟩
end
section
variable {X:Cx} {K:PySem.W.Frag}
theorem jq (e:X.K=K):IxR X (rIxT K):=e ▸ az
theorem Cw (e:X.K=K):IxR X (rIxL K):=e ▸ aU
theorem zM (e:X.K=K):gK X (.builtin "isinstance") (λxs H Q=>∃(y:V) (c:V) (cv t:Value) (k:Bool),xs=[y,c]/\(∀ u,RelV c u->u=cv)/\jz K H y t/\PySem.W.kitOne K t cv=some k/\Q (.bl k) H):=e ▸ uR
end
theorem yf {α:Type} [DecidableEq α] {f:α->PyData} (h:∀ a b,PyData.eqv (f a) (f b)=decide (a=b)):∀ L M:List α,PyData.eqvAll (L.map f) (M.map f)=decide (L=M)
 | [],[]=>by simp [PyData.eqvAll]
 | [],_::_=>by simp [PyData.eqvAll]
 | _::_,[]=>by simp [PyData.eqvAll]
 | a::r,b::t=>by
  simp only [List.map_cons,PyData.eqvAll,h a b,yf h r t]
  by_cases h1:a=b <;> by_cases h2:r=t <;> simp [h1,h2]
structure fg (K:PySem.W.Frag) (mg:Str->Option Value) (x:Str) (ns:List Int):Prop where
 ex:∃ a,mg x=some (.ref a)/\∀ H,SqT K H a (ns.map V.int)
theorem je {K:PySem.W.Frag} {h:Heap} {mg:Str->Option Value} {x:Str} {a:Addr} {od:Option Addr} {its:Array Value} {n:Nat} {osl:Array (Option Value)} {ns:List Int} (X:K.In h) (G:h.Ns mainGlobals mg)
  (e:PySem.W.nsIn K mainGlobals x=some (some (.ref a))) (l:K.lookup a=some ⟨.type "tuple",od,.seq its n,osl⟩) (hz:its.size<=sizeLine) (v:Vals (ns.map V.int) its.toList):fg K mg x ns :=
 ⟨a,PySem.W.mg_of X G e,λ_=>.inr ⟨_,its,n,l,rfl,rfl,hz,v⟩⟩
theorem yB {K:PySem.W.Frag} {h:Heap} {mg:Str->Option Value} {x:Str} {v:Value} {n:Int} (X:K.In h) (G:h.Ns mainGlobals mg) (e:PySem.W.nsIn K mainGlobals x=some (some v)) (q:∃ t,v=.int n t):∃ t,mg x=some (.int n t):=by
 obtain ⟨t,rfl⟩:=q
 exact ⟨t,PySem.W.mg_of X G e⟩
end L2
namespace Mine
namespace Lo
noncomputable def gc (a b:Int):Int:=(Int.gcd a b:Nat)
theorem qO (a b:Int):0<=gc a b:=Int.natCast_nonneg _
theorem gc_pos {a b:Int} (h:b≠0):0 < gc a b:=by
 have:=Int.gcd_pos_of_ne_zero_right a h
 unfold gc;omega
theorem yd {a:Int} (h:0<=a):gc a 0=a:=by
 unfold gc;rw [Int.gcd_zero_right];omega
theorem zD (a b:Int):gc a.natAbs b.natAbs=gc a b:=by
 unfold gc Int.gcd;simp
theorem ye (g l:Int):gc l (g.fmod l)=gc g l:=by
 unfold gc
 congr 1
 rw [Int.fmod_def]
 rw [Int.gcd_comm g l]
 have:g - l*g.fdiv l=g+l*(-(g.fdiv l)):=by rw [Int.mul_neg];omega
 rw [this]
 exact Int.gcd_add_mul_left_right ..
theorem gE (a b:Int):gc a b∣a:=Int.gcd_dvd_left ..
theorem ix (a b:Int):gc a b∣b:=Int.gcd_dvd_right ..
theorem CJ (f t b:Int):gc (f*t) (f*b)=f.natAbs*gc t b:=by
 unfold gc
 rw [Int.gcd_mul_left]
 rfl
theorem gc_le {t b:Int} (hb:b≠0):(gc t b).natAbs<=b.natAbs:=by
 have h:=Int.gcd_dvd_right (a:=t) (b:=b)
 have:=Nat.le_of_dvd (by omega) (Int.natAbs_dvd_natAbs.mpr h)
 unfold gc;exact this
end Lo
namespace Ln
end Ln
open PySem L2
noncomputable def Sm (x:Int):Prop:=x.natAbs < 2 ^ 200
noncomputable abbrev bits (x:Int):Nat:=Builtin.Int.intBits x
theorem nQ {x:Int} {m:Nat} (h:x.natAbs < 2 ^ m):bits x<=m:=intBits_le_iff.mpr h
theorem mulS {a b:Int} (ha:Sm a) (hb:Sm b):IntMulOk a b:=IntMulOk.of_le (m:=200) (n:=200) (nQ ha) (nQ hb) (by decide)
theorem qj {x:Int} (h:x.natAbs<=10 ^ 50):Sm x:=Nat.lt_of_le_of_lt h (by decide +kernel)
theorem sm_mod {x m:Int} (h0:0 < m) (h:m<=10 ^ 40):Sm (x % m):=by
 have h1:=Int.emod_nonneg x (show m≠0 by omega)
 have h2:=Int.emod_lt_of_pos x h0
 exact qj (by omega)
theorem bK (i:Int):(if i < 0 then -i else i)=(i.natAbs:Int):=by split <;> omega
theorem zN {ns:List Int} {i:Int} (h0:0<=i) (h:i < (ns.length:Int)):∃ v:Int,atI (ns.map V.int) i=some (.int v)/\v∈ns:=by
 have hi:i.toNat < ns.length:=by omega
 have ek:i=((i.toNat:Nat):Int):=by omega
 have q:atI (ns.map V.int) ((i.toNat:Nat):Int)=some (.int ns[i.toNat]):=dD (by rw [List.getElem?_map,List.getElem?_eq_getElem hi] <;> rfl)
 rw [<- ek] at q
 exact ⟨_,q,List.getElem_mem hi⟩
structure Scr (K:PySem.W.Frag) (H:Hp) (a:Addr) (ns:List Int):Prop where
 sq:(∃ o,H a=some (.frz o (.lst (ns.map V.int))))\/∃(o:Obj) (its:Array Value) (n:Nat),K.lookup a=some o/\o.cls=.type "list"/\o.dict=none/\o.data=.seq its n/\its.size<=sizeLine/\Vals (ns.map V.int) its.toList
 few:ns.length<=63
 bit:∀ n∈ns,bits n<=1048576
theorem Scr.l {K:PySem.W.Frag} {H:Hp} {a:Addr} {ns:List Int} (S:Scr K H a ns):SqL K H a (ns.map V.int):=S.sq.elim (λh=>.inl (.inr h)) .inr
theorem Scr.ts {K:PySem.W.Frag} {H H':Hp} {a:Addr} {ns:List Int} (S:Scr K H a ns) (e:Tst H H'):Scr K H' a ns:=⟨S.sq.elim (λ⟨o,h⟩=>.inl ⟨o,e.f _ _ _ h⟩) .inr,S.few,S.bit⟩
theorem scr_of {K:PySem.W.Frag} {H:Hp} {a:Addr} {ns:List Int} (O:Only H) (h:SqL K H a (ns.map V.int)) (few:ns.length<=63) (bit:∀ n∈ns,bits n<=1048576):Scr K H a ns:=by
 refine ⟨?_,few,bit⟩
 rcases h with (h | h) | h
 ·exfalso
  rcases O a with z | ⟨o,xs,z⟩
  ·rw [h] at z;cases z
  ·rw [h] at z;cases z
 ·exact .inl h
 ·exact .inr h
theorem aq {H:Hp} {p:Addr} (h:H p=none) (o:HO):aJ H (upd H p o):=λb u q=>by rw [au (aB q h)];exact q
theorem aT {H H':Hp} {l:Addr} (e:aJ H H') (h:H l=none) (o:HO):aJ H (upd H' l o):=λb u q=>by rw [au (aB q h)];exact e b u q
section
variable {K:PySem.W.Frag} {H H':Hp} {a:Addr} {v e:V} {p q m h:Int} {s:St4} {L:List St4}
end
mutual
theorem CP:∀ d:PyData,d.canLay0=true->PyData.eqv d d=true
 | .none,_=>by simp [PyData.eqv]
 | .bool _,_=>by simp [PyData.eqv]
 | .int _,_=>by simp [PyData.eqv]
 | .str _,_=>by simp [PyData.eqv]
 | .list xs,h=>by simp only [PyData.eqv];exact jb xs (by simpa [PyData.canLay0] using h)
 | .tuple xs,h=>by simp only [PyData.eqv];exact jb xs (by simpa [PyData.canLay0] using h)
 | .dict _,h=>by simp [PyData.canLay0] at h
theorem jb:∀ xs:List PyData,PyData.canLayAll0 xs=true->PyData.eqvAll xs xs=true
 | [],_=>by simp [PyData.eqvAll]
 | x::xs,h=>by
  have h':x.canLay0=true/\PyData.canLayAll0 xs=true:=by simpa [PyData.canLayAll0] using h
  simp [PyData.eqvAll,CP x h'.1,jb xs h'.2]
end
noncomputable def fixO:HO->Bool
 | .tup _=>true
 | .ins _ _ _=>true
 | .own _=>true
 | .frz _ _=>true
 | _=>false
noncomputable def Kp (H H':Hp):Prop:=∀ b o,H b=some o->fixO o=true->H' b=some o
theorem Kp.trans {H H1 H2:Hp} (a:Kp H H1) (b:Kp H1 H2):Kp H H2:=λc o h f=>b c o (a c o h f) f
theorem Kp.of {H H':Hp} (e:aJ H H'):Kp H H':=λb o h _=>e b o h
theorem kp_new {H:Hp} {p:Addr} (h:H p=none) (o:HO):Kp H (upd H p o):=Kp.of (λb u z=>by rw [au (aB z h)];exact z)
theorem gQ {H:Hp} {l:Addr} {o u:HO} (h:H l=some o) (f:fixO o=false):Kp H (upd H l u):=λb z hb fz=>by
 rw [au (xW hb h λe=>by rw [e,f] at fz;cases fz)]
 exact hb
theorem Ct {K:PySem.W.Frag} {t:Value}:PySem.W.kitOne K t t=some true:=by unfold PySem.W.kitOne;rw [if_pos (beq_self_eq_true t)]
noncomputable def SB (c:V) (H H':Hp):Prop:=∀ b o,H b=some o->V.ref b≠c->H' b=some o
theorem SB.refl (c:V) (H:Hp):SB c H H:=λ_ _ h _=>h
theorem SB.trans {c:V} {H H1 H2:Hp} (a:SB c H H1) (b:SB c H1 H2):SB c H H2:=λd o h n=>b d o (a d o h n) n
theorem SB.kp {c:V} {H H':Hp} (e:SB c H H') (hc:∀ a o,c=.ref a->H a=some o->fixO o=false):Kp H H':=λb o h f=>e b o h λz=>by
 rw [hc b o z.symm h] at f
 cases f
theorem sb_upd {a:Addr} (H:Hp) (u:HO):SB (.ref a) H (upd H a u):=λb o h n=>by
 rw [au λz=>n (by rw [z])]
 exact h
inductive Tu (H:Hp):Addr->Tr->Prop where
 | never {a}:H a=some (.tup [.str "never"])->Tu H a .never
 | always {a}:H a=some (.tup [.str "always"])->Tu H a .always
 | lp {a}:H a=some (.tup [.str "p"])->Tu H a .lp
 | lq {a}:H a=some (.tup [.str "q"])->Tu H a .lq
 | no {a b t}:H a=some (.tup [.str "not",.ref b])->Tu H b t->Tu H a (.no t)
 | fold {a b d w x y}:H a=some (.tup [.str (W5.str w),.ref b,.ref d])->Tu H b x->Tu H d y->Tu H a (.fold w x y)
theorem Tu.to {H H':Hp} {a:Addr} {t:Tr} (h:Tu H a t) (e:Kp H H'):Tu H' a t:=by
 induction h with
 | never h=>exact .never (e _ _ h rfl)
 | always h=>exact .always (e _ _ h rfl)
 | lp h=>exact .lp (e _ _ h rfl)
 | lq h=>exact .lq (e _ _ h rfl)
 | no h _ ih=>exact .no (e _ _ h rfl) ih
 | fold h _ _ i1 i2=>exact .fold (e _ _ h rfl) i1 i2
structure CCs where
 (ne al le no mo ls gr lr ld:Addr)
noncomputable def CCs.fold (c:CCs):W5->Addr
 | .more=>c.mo | .less=>c.ls | .greater=>c.gr | .lesser=>c.lr | .leads=>c.ld
noncomputable def kX (x:V):List (Str×V):=[("name",x)]
noncomputable def mV (x:V):List (Str×V):=[("part",x)]
noncomputable def pS (x y:V):List (Str×V):=[("one",x),("other",y)]
inductive Ob (c:CCs) (H:Hp):Addr->Tr->Prop where
 | never {a dx}:H a=some (.ins c.ne dx [])->Ob c H a .never
 | always {a dx}:H a=some (.ins c.al dx [])->Ob c H a .always
 | lp {a dx}:H a=some (.ins c.le dx (kX (.str "p")))->Ob c H a .lp
 | lq {a dx}:H a=some (.ins c.le dx (kX (.str "q")))->Ob c H a .lq
 | no {a dx b t}:H a=some (.ins c.no dx (mV (.ref b)))->Ob c H b t->Ob c H a (.no t)
 | fold {a dx b d w x y}:H a=some (.ins (c.fold w) dx (pS (.ref b) (.ref d)))->Ob c H b x->Ob c H d y->Ob c H a (.fold w x y)
theorem Ob.to {c:CCs} {H H':Hp} {a:Addr} {t:Tr} (h:Ob c H a t) (e:Kp H H'):Ob c H' a t:=by
 induction h with
 | never h=>exact .never (e _ _ h rfl)
 | always h=>exact .always (e _ _ h rfl)
 | lp h=>exact .lp (e _ _ h rfl)
 | lq h=>exact .lq (e _ _ h rfl)
 | no h _ ih=>exact .no (e _ _ h rfl) ih
 | fold h _ _ i1 i2=>exact .fold (e _ _ h rfl) i1 i2
inductive bO {α β:Type} (R:α->β->Prop):List α->List β->Prop where
 | nil:bO R [] []
 | cons {a b as bs}:R a b->bO R as bs->bO R (a::as) (b::bs)
theorem bO.imp {α β:Type} {R R':α->β->Prop} (f:∀ a b,R a b->R' a b) {as:List α} {bs:List β} (h:bO R as bs):bO R' as bs:=by
 induction h with
 | nil=>exact .nil
 | cons r _ ih=>exact .cons (f _ _ r) ih
theorem bO.app {α β:Type} {R:α->β->Prop} {as cs:List α} {bs ds:List β} (h:bO R as bs) (k:bO R cs ds):bO R (as++cs) (bs++ds):=by
 induction h with
 | nil=>exact k
 | cons r _ ih=>exact .cons r ih
theorem bO.rev {α β:Type} {R:α->β->Prop} {as:List α} {bs:List β} (h:bO R as bs):bO R as.reverse bs.reverse:=by
 induction h with
 | nil=>exact .nil
 | cons r _ ih=>rw [List.reverse_cons,List.reverse_cons];exact ih.app (.cons r .nil)
theorem bO.len {α β:Type} {R:α->β->Prop} {as:List α} {bs:List β} (h:bO R as bs):as.length=bs.length:=by
 induction h with
 | nil=>rfl
 | cons _ _ ih=>rw [List.length_cons,List.length_cons,ih]
theorem bO.get {α β:Type} {R:α->β->Prop} {as:List α} {bs:List β} (h:bO R as bs):∀(i:Nat) (a:α),as[i]?=some a->∃ b,bs[i]?=some b/\R a b:=by
 induction h with
 | nil=>intro i a z;cases z
 | cons r _ ih =>
  intro i x z
  cases i with
  | zero=>cases z;exact ⟨_,rfl,r⟩
  | succ i=>exact ih i x z
theorem bO.last {α β:Type} {R:α->β->Prop} {as:List α} {bs:List β} (h:bO R as bs) (n:as≠[]):∃ as' a bs' b,as=as'++[a]/\bs=bs'++[b]/\R a b/\bO R as' bs':=by
 have h':=h.rev
 have n':as.reverse≠[]:=λz=>n (List.reverse_eq_nil_iff.mp z)
 have e1:as=as.reverse.reverse:=(List.reverse_reverse _).symm
 have e2:bs=bs.reverse.reverse:=(List.reverse_reverse _).symm
 rw [e1,e2]
 revert h' n'
 generalize as.reverse=u
 generalize bs.reverse=v
 intro h' n'
 cases h' with
 | nil=>exact absurd rfl n'
 | cons r k=>exact ⟨_,_,_,_,List.reverse_cons,List.reverse_cons,r,k.rev⟩
theorem qi {α:Type} (ys:List α) (a:α):(ys++[a])[(ys++[a]).length - 1]?=some a:=by simp
noncomputable abbrev ObV (c:CCs) (H:Hp) (v:V) (t:Tr):Prop:=∃ a,v=.ref a/\Ob c H a t
theorem ObV.to {c:CCs} {H H':Hp} (e:Kp H H') (v:V) (t:Tr) (h:ObV c H v t):ObV c H' v t:=by
 obtain ⟨a,r,o⟩:=h
 exact ⟨a,r,o.to e⟩
noncomputable def Tr.kids:Tr->List Tr
 | .no t=>[t]
 | .fold _ a b=>[a,b]
 | _=>[]
noncomputable def bC (ts:List Tr):Nat:=(ts.map Tr.size).sum
theorem jh (a b:List Tr):bC (a++b)=bC a+bC b:=by simp [bC]
theorem qI (t:Tr):bC t.kids+1=t.size:=by cases t <;> simp [bC,Tr.kids,Tr.size]
theorem Bs (t:Tr):t.post.reverse=t::(t.kids.reverse.flatMap λx=>x.post.reverse):=by
 cases t <;> simp [Tr.post,Tr.kids]
inductive Pc where
 | w (x:Str)
 | t (t:Tr)
noncomputable def Tr.pieces:Tr->List Pc
 | .never=>[.w "never"]
 | .always=>[.w "always"]
 | .lp=>[.w "p"]
 | .lq=>[.w "q"]
 | .no t=>[.w "not",.t t]
 | .fold w a b=>[.w "(",.t a,.w w.str,.t b,.w ")"]
inductive PcV (c:CCs) (H:Hp):V->Pc->Prop where
 | w (x:Str):PcV c H (.str x) (.w x)
 | t {a:Addr} {t:Tr}:Ob c H a t->PcV c H (.ref a) (.t t)
end Mine
namespace L2
open PySem PySem.Spec PyProof.Rows
structure bz (K:PySem.W.Frag) (C:Addr) (m qual:Str) (st:Stmt):Prop where
 cl:Cls K C
 ex:∃(f:Addr) (fd:FuncData),Meth K C m f/\Fun K m qual st f fd
section
variable {P:Program} {w:World} {K:PySem.W.Frag} {mg:Str->Option Value} {base:Heap}
theorem cq {C:Addr} {m qual:Str} {st:Stmt} {N ps:List Str} {k:Nat} {sp:Sp} (T:bz K C m qual st) (S:aG N ps (ak st))
  (bd:∀(kV doc pm:Value) (an:Option Addr) (cdv ct:Value) (us:List Value),us.length=ps.length->bindArgs (PySem.W.fnOf m qual (eP st) (aY st) (ak st) .none kV doc pm an cdv ct) ⟨us,[]⟩=pure (ps.zip us))
  (len:∀ vs H Q E,sp vs H Q E->vs.length=ps.length)
  (body:∀(f:Addr) (cdv:Value) (A:Around) (outer:List Env) (s:Shared) (H:Hp) (vs:List V) (Q:VK) (E:XK),cY k (A.deeper (envOfC qual (ak st) s.heap.objs.size f cdv))->sp vs H Q E->
   ∃ t,PSs (cM CX0 P w K mg base N qual (ak st) f cdv A outer s H E).nox (aY st) t/\t {nx:=λ_ H'=>Q .non H',rt:=Q} (start N vs) H) :
  bw P w K mg base C m (k+1) ps sp:=by
 obtain ⟨f,fd,hm,G⟩:=T.ex
 exact ⟨T.cl,f,fd,hm,G.ok S len (body f),G.binds bd⟩
structure MkF (K:PySem.W.Frag) (mg:Str->Option Value) (x:Str) (C:Addr) (qual:Str) (st:Stmt):Prop where
 cl:Cls K C
 mg_:mg x=some (.ref C)
 ex:∃(f:Addr) (fd:FuncData),Mk K C f/\Fun K "__init__" qual st f fd
structure pI (P:Program) (w:World) (K:PySem.W.Frag) (mg:Str->Option Value) (base:Heap) (x:Str) (C:Addr) (k:Nat) (ps:List Str) (sp:Sp):Prop where
 mg_:mg x=some (.ref C)
 ex:∃(f:Addr) (fd:FuncData),Mk K C f/\lB P w K mg base CX0 k f fd ps sp/\Binds K fd ps []
theorem Cj {C:Addr} {x qual:Str} {st:Stmt} {N ps:List Str} {k:Nat} {sp:Sp} (T:MkF K mg x C qual st) (S:aG N ps (ak st))
  (bd:∀(kV doc pm:Value) (an:Option Addr) (cdv ct:Value) (us:List Value),us.length=ps.length->bindArgs (PySem.W.fnOf "__init__" qual (eP st) (aY st) (ak st) .none kV doc pm an cdv ct) ⟨us,[]⟩=pure (ps.zip us))
  (len:∀ vs H Q E,sp vs H Q E->vs.length=ps.length)
  (body:∀(f:Addr) (cdv:Value) (A:Around) (outer:List Env) (s:Shared) (H:Hp) (vs:List V) (Q:VK) (E:XK),cY k (A.deeper (envOfC qual (ak st) s.heap.objs.size f cdv))->sp vs H Q E->
   ∃ t,PSs (cM CX0 P w K mg base N qual (ak st) f cdv A outer s H E).nox (aY st) t/\t {nx:=λ_ H'=>Q .non H',rt:=Q} (start N vs) H) :
  pI P w K mg base x C (k+1) ps sp:=by
 obtain ⟨f,fd,hm,G⟩:=T.ex
 exact ⟨T.mg_,f,fd,hm,G.ok S len (body f),G.binds bd⟩
end
section
variable {X:Cx} {x:Str} {C:Addr} {k:Nat} {ps:List Str} {sp:Sp} {e:Expr} {es:List Expr} {t:TA} {p pos:Pos}
theorem oQ (M:pI X.prog X.w X.K X.mg X.base x C k ps sp) (hr:cY (k+1) X.A) (hg:Gl X x) (ha:PA X (e::es) t) (hdb:(x == ("__debug__":Str))=false:=by decide)
  (he:starEach (e::es) X.env=(false,eval e X.env)::starEach es X.env:=by rfl) (hpl:(backTo pos (starEach es X.env)).any (·.1)=false:=by rfl) :
  PE X (.Call (.Name x p) (e::es) [] pos) (tMake C sp [] E0 t):=by
 obtain ⟨f,fd,hm,G,hb⟩:=M.ex
 exact pe_make hm G hr hg M.mg_ hb .nil xP ha hdb he hpl
end
end L2
namespace Mine
open PySem L2
noncomputable def CCs.of (c:CCs):Tr->Addr
 | .never=>c.ne
 | .always=>c.al
 | .lp=>c.le
 | .lq=>c.le
 | .no _=>c.no
 | .fold w _ _=>c.fold w
theorem qF (x:V):(kX x).lookup ("name":Str)=some x:=by unfold kX;rw [List.lookup_cons,beq_self_eq_true]
theorem qE (x:V):(mV x).lookup ("part":Str)=some x:=by unfold mV;rw [List.lookup_cons,beq_self_eq_true]
theorem uB (x y:V):(pS x y).lookup ("one":Str)=some x:=by unfold pS;rw [List.lookup_cons,beq_self_eq_true]
theorem oZ (x y:V):(pS x y).lookup ("other":Str)=some y:=by
 unfold pS
 rw [List.lookup_cons,show (("other":Str) == ("one":Str))=false by decide +kernel]
 show List.lookup ("other":Str) [("other",y)]=some y
 rw [List.lookup_cons,beq_self_eq_true]
noncomputable abbrev NoF (m:Str):Prop:=m≠"name"/\m≠"part"/\m≠"one"/\m≠"other"
theorem ff {m a:Str} {x:V} {r:List (Str×V)} (h:m≠a) (k:r.lookup m=none):((a,x)::r).lookup m=none:=by
 rw [List.lookup_cons,beq_eq_false_iff_ne.mpr h]
 exact k
theorem Ob.cls {c:CCs} {H:Hp} {a:Addr} {t:Tr} (h:Ob c H a t):∃ dx fs,H a=some (.ins (c.of t) dx fs)/\∀ m,NoF m->fs.lookup m=none:=by
 cases h with
 | never h=>exact ⟨_,_,h,λm _=>rfl⟩
 | always h=>exact ⟨_,_,h,λm _=>rfl⟩
 | lp h=>exact ⟨_,_,h,λm n=>ff n.1 rfl⟩
 | lq h=>exact ⟨_,_,h,λm n=>ff n.1 rfl⟩
 | no h _=>exact ⟨_,_,h,λm n=>ff n.2.1 rfl⟩
 | fold h _ _=>exact ⟨_,_,h,λm n=>ff n.2.2.1 (ff n.2.2.2 rfl)⟩
structure Fx (K:PySem.W.Frag) (c:CCs):Prop where
 cl:∀ t,Cls K (c.of t)
 ha:∀ t,PySem.W.findIn K (.ref (c.of t)) "__class__"=some (some (.builtin "object.__class__"))
 hm:∀ t,PySem.W.mroIn K (c.of t) (.type "object")=some true
 ks:∀ t,PySem.W.kitOne K (.ref (c.of t)) (.type "str")=some false
 hn:PySem.W.specialIn K (.builtin "object.__class__") "__get__"=some (some (.builtin "getset_descriptor.__get__"))
 tk:PySem.W.takesIn K (.builtin "object.__class__")=some true
 nName:eR K c.le "name"
 nPart:eR K c.no "part"
 nOne:∀ w,eR K (c.fold w) "one"
 nOther:∀ w,eR K (c.fold w) "other"
theorem Fx.ty {K:PySem.W.Frag} {c:CCs} (T:Fx K c) {H:Hp} {a:Addr} {t:Tr} (h:Ob c H a t):jz K H (.ref a) (.ref (c.of t)):=by
 obtain ⟨dx,fs,e,_⟩:=h.cls
 exact .ins e (T.cl t) (T.ha t) T.hn T.tk (T.hm t)
noncomputable def Tr.word:Tr->Str
 | .never=>"never"
 | .always=>"always"
 | .lp=>"p"
 | .lq=>"q"
 | .no _=>"not"
 | .fold u _ _=>u.str
noncomputable def rg (c:CCs) (t:Tr):Sp:=λvs H Q _=>∃ a,vs=[.ref a]/\Ob c H a t/\∀ l us,H l=none->bO (ObV c H) us t.kids->Q (.ref l) (upd H l (.lst us))
noncomputable def kr (c:CCs) (t:Tr):Sp:=λvs H Q _=>∃ a,vs=[.ref a]/\Ob c H a t/\∀ l us,H l=none->bO (PcV c H) us t.pieces->Q (.ref l) (upd H l (.lst us))
noncomputable def eB (c:CCs) (t:Tr):Sp:=λvs H Q _=>∃ a:Addr,vs=[.ref a]/\Ob c H a t/\Q (.str t.word) H
noncomputable def rh (c:CCs) (t:Tr):Sp:=λvs H Q _=>∃ a,vs=[.ref a]/\Ob c H a t/\t.size<=1000/\∀ l us H',aJ H H'->H l=none->H' l=some (.lst us)->bO (ObV c H') us t.post->Q (.ref l) H'
noncomputable def jg (C:Addr) (fl:V->List (Str×V)):Sp:=λvs H Q _=>∃(a dx:Addr) (x:V),vs=[.ref a,x]/\H a=some (.ins C dx [])/\Q .non (upd H a (.ins C dx (fl x)))
noncomputable def rj (C:Addr):Sp:=λvs H Q _=>∃(a dx:Addr) (x y:V),vs=[.ref a,x,y]/\H a=some (.ins C dx [])/\Q .non (upd H a (.ins C dx (pS x y)))
theorem Bp (x y:V):iu "other" y (iu "one" x [])=pS x y:=by
 show (if ("one":Str)="other" then [(("one":Str),y)] else (("one":Str),x)::iu "other" y [])=_
 rw [if_neg (by decide +kernel)]
 rfl
noncomputable def W5.cls:W5->Str
 | .more=>"More" | .less=>"Less" | .greater=>"Greater" | .lesser=>"Lesser" | .leads=>"Leads"
theorem iJ {H:Hp} {l p:Addr} {o:HO} (h:upd H l o p=none):H p=none:=by
 by_cases e:p=l
 ·subst e;rw [ae] at h;cases h
 ·rw [au e] at h;exact h
theorem hG {H:Hp} {C z dz:Addr} {fs:List (Str×V)} (hz:H z=none) (hd:H dz=none) (ne:dz≠z):aJ H (upd (upd (upd H dz (.own z)) z (.ins C dz [])) z (.ins C dz fs)):=λb o h=>by
 rw [au (aB h hz),au (aB h hz),au (aB h hd)]
 exact h
theorem zp {c:CCs} {H:Hp} {z dz b d:Addr} {u:W5} {t t':Tr} {Q:VK} (hz:H z=none) (hd:H dz=none) (ne:dz≠z) (o:Ob c H b t) (o':Ob c H d t') (q:∀ e H',aJ H H'->Ob c H' e (.fold u t t')->Q (.ref e) H') :
  Q (.ref z) (upd (upd (upd H dz (.own z)) z (.ins (c.fold u) dz [])) z (.ins (c.fold u) dz (pS (.ref b) (.ref d)))):=by
 have sm:=hG (C:=c.fold u) (fs:=pS (.ref b) (.ref d)) hz hd ne
 exact q z _ sm (.fold ae (o.to (Kp.of sm)) (o'.to (Kp.of sm)))
theorem uH:∀ ts:List Tr,(ts.flatMap λx=>x.post.reverse).length=bC ts
 | []=>rfl
 | t::r=>by
  rw [List.flatMap_cons,List.length_append,List.length_reverse,fE,uH r]
  simp [bC]
theorem yG (ts:List Tr):bC ts.reverse=bC ts:=by simp [bC]
theorem qG:∀ ts:List Tr,ts.length<=bC ts
 | []=>Nat.le_refl _
 | t::r=>by
  have h:=qG r
  have p:=t.size_pos
  have e:bC (t::r)=t.size+bC r:=by simp [bC]
  rw [e,List.length_cons];omega
theorem kT (t:Tr):t.kids.length<=2:=by cases t <;> simp [Tr.kids]
theorem drop_at {α:Type} {xs:List α} {i:Nat} {x:α} (h:xs[i]?=some x):xs.drop i=x::xs.drop (i+1):=by
 obtain ⟨hi,e⟩:=List.getElem?_eq_some_iff.mp h
 rw [List.drop_eq_getElem_cons hi,e]
theorem ite_yes {a b:Str} {A B:Prop} (h:a=b) (k:A):if decide (V.str a=V.str b)=true then A else B:=by
 rw [decide_eq_true (congrArg V.str h),if_pos rfl]
 exact k
theorem ite_no {a b:Str} {A B:Prop} (h:a≠b) (k:B):if decide (V.str a=V.str b)=true then A else B:=by
 rw [decide_eq_false (λz=>h (V.str.inj z)),if_neg Bool.false_ne_true]
 exact k
theorem Scr.to {K:PySem.W.Frag} {H H':Hp} {a:Addr} {ns:List Int} (h:Scr K H a ns) (e:aJ H H'):Scr K H' a ns:=h.ts e.ts
end Mine
namespace L2
open PySem PySem.Spec PyProof.Rows
namespace HT
variable {prog:Program} {w:World} {A:Around} {E:Value->Shared->Prop} {s:Shared}
theorem we {t sl:Addr} {items:Array Value} {vl vu:Value} {lo hi:Option Int} {Q:Value->Shared->Prop} (ht:IsTup s.heap t items) (hs:s.heap.IsSliceOf sl vl vu .none) (pl:IsPart vl lo) (pu:IsPart vu hi)
  (h0:_root_.HT.sIx items.size 0 lo=0) (h1:_root_.HT.sIx items.size items.size hi=items.size) (h:Q (.ref t) s):wpAny (model prog w) A (getItem (.ref t) (.ref sl)) Q E s:=by
 obtain ⟨os,hos,hcs,hds⟩:=id hs
 have hTs:s.TypeIs (.ref sl) "slice":=⟨os,hos,hcs⟩
 unfold getItem
 try with_reducible refine wpAny_holding ?_
 first | refine wpAny_bind (wpAny_pure ?_) | skip
 refine wpAny_bind (wpAny_sequenceKey ht.typeIs (by decide) ?_)
 refine wpAny_bind (wpAny_callSpecial?_slot (name:=Str.ofString "__getitem__") ht.typeIs PyProof.Rows.slot_tuple_getitem
  (wpAny_call_entry PyProof.Rows.slot_tuple_getitem ht.typeIs PyProof.Rows.entry_tuple_getitem ?_ (PyProof.Rows.args_tuple_getitem _ _)))
 show wpAny _ _ (Builtin.Tuple.tupleItemsOf (.ref t) >>= _) _ _ s
 refine wpAny_bind (PyProof.Rows.tupleItemsOf_ ht ?_)
 refine wpAny_bind (wpAny_typeOf hTs ?_)
 rw [if_pos (by decide)]
 refine wpAny_bind (_root_.HT.gW hs pl pu ?_)
 have yes:(((_root_.HT.sIx items.size 0 lo:Nat):Int) == 0 && (1:Int) == 1 && (_root_.HT.sIx items.size items.size hi - _root_.HT.sIx items.size 0 lo) == items.size)=true:=by rw [h0,h1];simp
 show wpAny _ _ (if (((_root_.HT.sIx items.size 0 lo:Nat):Int) == 0 && (1:Int) == 1 && (_root_.HT.sIx items.size items.size hi - _root_.HT.sIx items.size 0 lo) == items.size)=true then _ else _) _ _ s
 rw [if_pos yes]
 unfold Builtin.Tuple.tupleIsExact
 refine wpAny_bind (wpAny_bind (wpAny_typeOf ht.typeIs (wpAny_pure ?_)))
 rw [if_pos (by decide)]
 exact wpAny_bind (wpAny_rule (wpAny_pure ⟨_,rfl,wpAny_pure h⟩))
end HT
section
variable {X:Cx}
noncomputable def rSlA (K:PySem.W.Frag):V->Option Int->Option Int->Hp->VK->Prop:=λx lo hi H Q=>∃(a:Addr) (xs:List V),x=.ref a/\SqT K H a xs/\(_root_.HT.sIx xs.length 0 lo=0->_root_.HT.sIx xs.length xs.length hi=xs.length->Q (.ref a) H)/\
 (¬ (_root_.HT.sIx xs.length 0 lo=0/\_root_.HT.sIx xs.length xs.length hi=xs.length)->∀ p,H p=none->Q (.ref p) (upd H p (.tup (sv xs lo hi))))
theorem sl_tupA:SlR X (rSlA X.K):=by
 intro pins s σ H x v vl vu lo hi sl Q I rx hs pl pu h
 obtain ⟨a,xs,rfl,hx,q1,q2⟩:=h
 by_cases hw:_root_.HT.sIx xs.length 0 lo=0/\_root_.HT.sIx xs.length xs.length hi=xs.length
 ·cases rx
  obtain ⟨its,r,ht,hz⟩:=I.tuple hx
  have hlen:its.toArray.size=xs.length:=by rw [List.size_toArray];exact r.length.symm
  refine ⟨"tuple",_,PyProof.Rows.slot_tuple_getitem.lookup,ht.typeIs,?_⟩
  exact HT.we ht hs pl pu (by rw [hlen];exact hw.1) (by rw [hlen];exact hw.2) ⟨.ref a,H,I,rfl,q1 hw.1 hw.2⟩
 ·exact sl_tup pins s σ H (.ref a) v vl vu lo hi sl Q I rx hs pl pu ⟨a,xs,rfl,hx,hw,q2 hw⟩
end
end L2
namespace Mine
open PySem L2
theorem uv {a b:Int} (h:Builtin.Int.intBits a<=64):IntMulOk a b:=.of_left h
theorem word_at (m:Int) (h0:0<=m) (h:m < 5):∃ u:W5,atI [V.str "more",.str "less",.str "greater",.str "lesser",.str "leads"] m=some (.str u.str):=by
 have hm:m=0\/m=1\/m=2\/m=3\/m=4:=by omega
 rcases hm with rfl | rfl | rfl | rfl | rfl
 ·exact ⟨.more,rfl⟩
 ·exact ⟨.less,rfl⟩
 ·exact ⟨.greater,rfl⟩
 ·exact ⟨.lesser,rfl⟩
 ·exact ⟨.leads,rfl⟩
theorem oG {H:Hp} {C z dz:Addr} (hz:H z=none) (hd:H dz=none):aJ H (upd (upd H dz (.own z)) z (.ins C dz [])):=λb o h=>by
 rw [au (aB h hz),au (aB h hd)]
 exact h
noncomputable abbrev TuV (H:Hp) (v:V) (t:Tr):Prop:=∃ a,v=.ref a/\Tu H a t
theorem Tu.parts {H:Hp} {a:Addr} {t:Tr} (h:Tu H a t):∃ us,H a=some (.tup (.str t.word::us))/\bO (TuV H) us t.kids:=by
 cases h with
 | never e=>exact ⟨[],e,.nil⟩
 | always e=>exact ⟨[],e,.nil⟩
 | lp e=>exact ⟨[],e,.nil⟩
 | lq e=>exact ⟨[],e,.nil⟩
 | no e h=>exact ⟨_,e,.cons ⟨_,rfl,h⟩ .nil⟩
 | fold e h h'=>exact ⟨_,e,.cons ⟨_,rfl,h⟩ (.cons ⟨_,rfl,h'⟩ .nil)⟩
theorem Tu.mk {H:Hp} {a:Addr} {us:List V}:∀ t:Tr,H a=some (.tup (.str t.word::us))->bO (TuV H) us t.kids->Tu H a t
 | .never,e,.nil=>.never e
 | .always,e,.nil=>.always e
 | .lp,e,.nil=>.lp e
 | .lq,e,.nil=>.lq e
 | .no _,e,.cons ⟨_,r,h⟩ .nil=>by subst r;exact .no e h
 | .fold _ _ _,e,.cons ⟨_,r,h⟩ (.cons ⟨_,r',h'⟩ .nil)=>by subst r;subst r';exact .fold e h h'
theorem gS {σ:St} {H:Hp} {A B:Hp->Prop} (h:A H):mK σ H λb H4=>if b=true then A H4 else B H4:=by
 show if true=true then A H else B H
 rw [if_pos rfl]
 exact h
theorem Cu {t x:Tr} (h:x∈t.kids):x.size < t.size:=by
 cases t with
 | no t =>
  have e:x=t:=by simpa [Tr.kids] using h
  subst e
  exact Nat.lt_succ_self _
 | fold w a b =>
  have e:x=a\/x=b:=by simpa [Tr.kids] using h
  show x.size < a.size+b.size+1
  rcases e with rfl | rfl <;> omega
 | _=>simp [Tr.kids] at h
end Mine
namespace L2
open PySem PySem.Spec PyProof.Rows
end L2
namespace Mine
open PySem L2
noncomputable def spLaw (K:PySem.W.Frag):Sp:=λvs H Q _=>∃(a:Addr) (ns:List Int),vs=[.ref a]/\Scr K H a ns/\∀ H',Q (.bl true) H'
theorem jt {wi:TI} {tc:TT} {te:TE} {js:List Nat} {σ:St} {H:Hp} {Q:VK} (h:wi σ H λJ H1=>iA (λ_ H R=>R J H) tc te js σ H1 Q):iA wi tc te js σ H Q:=h
theorem mj {K:PySem.W.Frag} {wi:TI} {te:TE} {js:List Nat} {σ:St} {H0:Hp} {Q:VK} {xs:List V} (Src:Addr->Hp->Prop) (hwi:∀ R:It->Hp->Prop,(∀ l H,Src l H->R (Itl K l) H)->wi σ H0 R) (hsrc:∀ l H,Src l H->H l=some (.lst xs)) (hx:xs.length<=1000)
  (Pv:Addr->Addr->Nat->List V->Hp->Prop) (h0:∀ l H D,Src l H->H D=none->Pv l D 0 [] (upd H D (.lst [])))
  (hs:∀ l D i v ys H',xs[i]?=some v->l≠D->H' l=some (.lst xs)->H' D=some (.lst ys)->Pv l D i ys H'->∀ N:VK,(∀ y H'',H'' l=some (.lst xs)->H'' D=some (.lst ys)->Pv l D (i+1) (ys++[y]) (upd H'' D (.lst (ys++[y])))->N y H'')->te (some v::cw js σ) H' N)
  (hd:∀ l D ys H',H' l=some (.lst xs)->H' D=some (.lst ys)->Pv l D xs.length ys H'->Q (.ref D) H'):iA wi mK te js σ H0 Q:=by
 refine hwi _ λl H src=>?_
 intro D hD
 have e:=hsrc l H src
 have nl:l≠D:=aB e hD
 refine ⟨λi m H'=>m=xs.length - i/\i<=xs.length/\H' l=some (.lst xs)/\∃ ys,ys.length=i/\H' D=some (.lst ys)/\Pv l D i ys H',⟨xs.length,rfl,Nat.zero_le _,by rw [au nl];exact e,[],rfl,ae,h0 l H D src hD⟩,?_⟩
 rintro i m H2 ⟨rfl,hi,e2,ys,hy,eD,p⟩
 by_cases hlt:i < xs.length
 ·refine .inr ⟨⟨xs,xs[i],SqL.of e2,by simp [hlt]⟩,λv H3 y=>?_⟩
  obtain ⟨eh,y⟩:=y
  subst eh
  refine gS ?_
  refine hs l D i v ys _ (y xs (SqL.of e2)) nl e2 eD p _ λy H5 z1 z2 z3=>?_
  exact ⟨ys,z2,Nat.lt_of_le_of_lt (show ys.length<=1000 by omega) (by decide),xs.length - (i+1),by omega,rfl,hlt,by rw [au nl];exact z1,ys++[y],by rw [List.length_append,hy];rfl,ae,z3⟩
 ·have ei:i=xs.length:=by omega
  subst ei
  exact .inl ⟨⟨xs,SqL.of e2,Nat.le_refl _⟩,hd l D ys H2 e2 eD p⟩
theorem comp_map {α:Type} {K:PySem.W.Frag} {wi:TI} {te:TE} {js:List Nat} {σ:St} {H:Hp} {Q:VK} {xs:List V} {ts:List α} {R:Hp->V->α->Prop} (g:α->V) (hR:∀ H H' v t,aJ H H'->R H v t->R H' v t) (Src:Addr->Hp->Prop)
  (hwi:∀ R:It->Hp->Prop,(∀ l H,Src l H->R (Itl K l) H)->wi σ H R) (hsrc:∀ l H',Src l H'->H' l=some (.lst xs)/\aJ H H') (hx:xs.length<=1000) (o:bO (R H) xs ts)
  (hs:∀ v t H' (N:VK),t∈ts->R H' v t->(∀ H'',aJ H' H''->N (g t) H'')->te (some v::cw js σ) H' N) (hd:∀ D H',aJ H H'->H D=none->H' D=some (.lst (ts.map g))->Q (.ref D) H'):iA wi mK te js σ H Q:=by
 refine mj Src hwi (λl H src=>(hsrc l H src).1) hx (λl D i ys H'=>H D=none/\aJ H H'/\ys=(ts.take i).map g) (λl H' D src hD=>⟨(hsrc l H' src).2.free hD,(hsrc l H' src).2.trans (aq hD _),rfl⟩) (λl D i v ys H' hv nl el eD h N hN=>?_) (λl D ys H' el eD h=>?_)
 ·obtain ⟨hD,sm,rfl⟩:=h
  obtain ⟨t,ht,hr⟩:=o.get i v hv
  refine hs v t H' N (List.mem_of_getElem? ht) (hR _ _ _ _ sm hr) λH'' s2=>hN _ _ (s2 _ _ el) (s2 _ _ eD) ⟨hD,λd u z=>?_,?_⟩
  ·rw [au (aB z hD)]
   exact s2 _ _ (sm _ _ z)
  ·rw [List.take_add_one,ht,List.map_append]
   rfl
 ·obtain ⟨hD,sm,rfl⟩:=h
  refine hd D H' sm hD ?_
  rw [o.len,List.take_length] at eD
  exact eD
noncomputable abbrev Rw:=List Key
noncomputable def dU (x:Str) (is:List Nat):Rw:=.inr x::is.map λi:Nat=>.inl (i:Int)
noncomputable def idx (rs:List Rw) (r:Rw):Option Nat:=match rs with
 | []=>none
 | x::t=>if x=r then some 0 else (idx t r).map (·+1)
noncomputable def aP (rs:List Rw) (r:Rw):List Rw×Nat:=match idx rs r with
 | some i=>(rs,i)
 | none=>(rs++[r],rs.length)
theorem idx_lt:∀{rs:List Rw} {r:Rw} {i:Nat},idx rs r=some i->i < rs.length
 | [],_,_,h=>by cases h
 | x::t,r,i,h=>by
  unfold idx at h
  split at h
  ·cases h;simp
  ·cases e:idx t r with
   | none=>rw [e] at h;cases h
   | some j=>rw [e] at h;cases h;have:=idx_lt e;simp;omega
theorem wj:∀{rs:List Rw} {r:Rw} {i:Nat},idx rs r=some i->rs[i]?=some r
 | [],_,_,h=>by cases h
 | x::t,r,i,h=>by
  unfold idx at h
  split at h
  ·rename_i z;cases h;simp [z]
  ·cases e:idx t r with
   | none=>rw [e] at h;cases h
   | some j=>rw [e] at h;cases h;have:=wj e;simpa using this
theorem uD:∀{rs:List Rw} {r:Rw},idx rs r=none->r ∉ rs
 | [],r,_=>by simp
 | x::t,r,h=>by
  unfold idx at h
  by_cases z:x=r
  ·rw [if_pos z] at h;cases h
  ·rw [if_neg z] at h
   cases e:idx t r with
   | none =>
        intro m; rcases List.mem_cons.mp m with m | m; · exact z m.symm
        ·exact uD e m
   | some j=>rw [e] at h;cases h
theorem idx_app {rs:List Rw} {r s:Rw}:idx (rs++[r]) s=match idx rs s with | some i=>some i | none=>if r=s then some rs.length else none:=by
 induction rs with
 | nil =>
  show (if r=s then some 0 else (idx [] s).map (·+1))=if r=s then some 0 else none
  rfl
 | cons x t ih =>
  show (if x=s then some 0 else (idx (t++[r]) s).map (·+1))=_
  by_cases z:x=s
  ·rw [if_pos z]
   show _=match (if x=s then some 0 else (idx t s).map (·+1)) with | some i=>some i | none=>_
   rw [if_pos z]
  ·rw [if_neg z,ih]
   show _=match (if x=s then some 0 else (idx t s).map (·+1)) with | some i=>some i | none=>if r=s then some (t.length+1) else none
   rw [if_neg z]
   cases idx t s with
   | some i=>rfl
   | none =>
    show (if r=s then some t.length else none).map (·+1)=if r=s then some (t.length+1) else none
    split <;> rfl
theorem hZ (rs:List Rw) (r:Rw):(aP rs r).1.length<=rs.length+1:=by
 unfold aP
 cases idx rs r <;> simp
noncomputable def Tr.putR:Tr->List Rw->List Rw×Nat
 | .no t,rs=>aP (t.putR rs).1 (dU "not" [(t.putR rs).2])
 | .fold w a b,rs=>aP (b.putR (a.putR rs).1).1 (dU w.str [(a.putR rs).2,(b.putR (a.putR rs).1).2])
 | .never,rs=>aP rs (dU "never" [])
 | .always,rs=>aP rs (dU "always" [])
 | .lp,rs=>aP rs (dU "p" [])
 | .lq,rs=>aP rs (dU "q" [])
noncomputable def Tr.rows (t:Tr):List Rw:=(t.putR []).1
theorem hX:∀(t:Tr) (rs:List Rw),(t.putR rs).1.length<=rs.length+t.size
 | .no t,rs=>by
  have:=hX t rs
  have:=hZ (t.putR rs).1 (dU "not" [(t.putR rs).2])
  simp only [Tr.putR,Tr.size];omega
 | .fold w a b,rs=>by
  have:=hX a rs
  have:=hX b (a.putR rs).1
  have:=hZ (b.putR (a.putR rs).1).1 (dU w.str [(a.putR rs).2,(b.putR (a.putR rs).1).2])
  simp only [Tr.putR,Tr.size];omega
 | .never,rs=>hZ _ _
 | .always,rs=>hZ _ _
 | .lp,rs=>hZ _ _
 | .lq,rs=>hZ _ _
noncomputable def tO (s:List Rw×List Nat) (x:Tr):Option (List Rw×List Nat) :=
 if s.2.length < x.kids.length then none else
  some ((aP s.1 (dU x.word (s.2.take x.kids.length).reverse)).1,(aP s.1 (dU x.word (s.2.take x.kids.length).reverse)).2::s.2.drop x.kids.length)
noncomputable def pO:List Rw×List Nat->List Tr->Option (List Rw×List Nat)
 | s,[]=>some s
 | s,t::r=>(tO s t).bind λs'=>pO s' r
theorem jj:∀(t:Tr) (rs:List Rw) (st:List Nat) (r:List Tr),pO (rs,st) (t.post++r)=pO ((t.putR rs).1,(t.putR rs).2::st) r
 | .no t,rs,st,r=>by
  show pO (rs,st) (t.post++[.no t]++r)=_
  rw [List.append_assoc,jj t rs st]
  rfl
 | .fold w a b,rs,st,r=>by
  show pO (rs,st) (a.post++b.post++[.fold w a b]++r)=_
  rw [List.append_assoc,List.append_assoc,jj a rs st,jj b _ _]
  rfl
 | .never,rs,st,r=>rfl
 | .always,rs,st,r=>rfl
 | .lp,rs,st,r=>rfl
 | .lq,rs,st,r=>rfl
theorem AY (t:Tr):pO ([],[]) t.post=some (t.rows,[(t.putR []).2]):=by
 have h:=jj t [] [] []
 rw [List.append_nil] at h
 rw [h]
 rfl
theorem yJ {s Z:List Rw×List Nat} {t:Tr} {r:List Tr} (h:pO s (t::r)=some Z):∃ s',tO s t=some s'/\pO s' r=some Z:=by
 unfold pO at h
 cases e:tO s t with
 | none=>rw [e] at h;cases h
 | some s'=>rw [e] at h;exact ⟨s',rfl,h⟩
theorem AX {s s':List Rw×List Nat} {x:Tr} (h:tO s x=some s'):x.kids.length<=s.2.length/\s'=((aP s.1 (dU x.word (s.2.take x.kids.length).reverse)).1,(aP s.1 (dU x.word (s.2.take x.kids.length).reverse)).2::s.2.drop x.kids.length):=by
 unfold tO at h
 split at h
 ·cases h
 ·exact ⟨by omega,(Option.some.inj h).symm⟩
theorem uQ {K:PySem.W.Frag} {H:Hp} {a b:Addr} {xs ys:List V} {Q:VK} (ea:H a=some (.tup xs)) (eb:H b=some (.tup ys)) (nx:xs≠[]) (hz:xs.length+ys.length<=sizeLine) (h:∀ p H',aJ H H'->H' p=some (.tup (xs++ys))->Q (.ref p) H'):rCatT K (.ref a) (.ref b) H Q:=by
 refine ⟨a,b,xs,ys,rfl,rfl,SqT.of ea,SqT.of eb,nx,hz,λz=>?_,λ_ p hp=>h p _ (aq hp _) ae⟩
 refine h a H (aJ.refl _) ?_
 rw [z,List.append_nil]
 exact ea
noncomputable abbrev RwV (H:Hp) (v:V) (r:Rw):Prop:=∃ a,v=.ref a/\H a=some (.tup (r.map kV))
theorem RwV.to {H H':Hp} (e:Kp H H') (v:V) (r:Rw) (h:RwV H v r):RwV H' v r:=by
 obtain ⟨a,z,o⟩:=h
 exact ⟨a,z,e _ _ o rfl⟩
theorem rC (x:Str) (is:List Nat):(dU x is).map kV=V.str x::is.map λi:Nat=>V.int (i:Int):=by
 unfold dU
 rw [List.map_cons,List.map_map]
 rfl
noncomputable def PlO (kvs:List (Rw×V)) (rs:List Rw):Prop:=kvs.length=rs.length/\∀ k,fP kvs k=(idx rs k).map λi:Nat=>V.int (i:Int)
theorem PlO.nil:PlO [] []:=⟨rfl,λ_=>rfl⟩
theorem PlO.put {kvs:List (Rw×V)} {rs:List Rw} {r:Rw} (h:PlO kvs rs) (n:idx rs r=none):PlO (putK kvs r (.int (rs.length:Int))) (rs++[r]):=by
 have hv:fP kvs r=none:=by rw [h.2 r,n];rfl
 refine ⟨by rw [Bo _ hv,List.length_append,List.length_append,h.1];rfl,λk=>?_⟩
 rw [sM,idx_app]
 by_cases e:k=r
 ·subst e
  rw [if_pos rfl,n]
  show _=(if k=k then some rs.length else none).map _
  rw [if_pos rfl];rfl
 ·rw [if_neg e,h.2 k]
  cases idx rs k with
  | some i=>rfl
  | none =>
   show _=(if r=k then some rs.length else none).map _
   rw [if_neg λz=>e z.symm]
noncomputable def nX (c:CCs):Sp:=λvs H Q _=>∃(a:Addr) (t:Tr),vs=[.ref a]/\Ob c H a t/\t.size<=1000/\∀ l us H',aJ H H'->H l=none->H' l=some (.lst us)->bO (RwV H') us t.rows->Q (.ref l) H'
end Mine
namespace L2
open PySem PySem.Spec PyProof.Rows
section
variable {X:Cx} {pins:List (Addr×Obj)} {σ:St} {H H':Hp} {s s':Shared} {h':Heap}
theorem Inv.turnedL {t':Nat} {fp:List Addr} (I:Inv X pins σ H s) (kp:∀ b o,b ∉ fp->s.heap.get? b=some o->h'.get? b=some o) (hf:∀ b∈fp,ic X pins H b):Inv X pins σ H {s with heap:=h',toks:=t' }:=by
 have far:∀ b u,H b=some u->b ∉ fp:=λb u e z=>by
  have:=(hf b z).1
  rw [e] at this;cases this
 refine I.step (ch:=fp) (g':=s.gens) (d':=s.drawn) (λb hb=>⟨(hf b hb).2.2.2.1,(hf b hb).2.1,(hf b hb).2.2.2.2.1,(hf b hb).2.2.2.2.2⟩) (λb o _ _ hc e _=>kp b o hc e) (λb o _ _ hc e _=>⟨o.slots,kp b o hc e⟩) (λ_ _ _ _ n=>n)
  (λb o hc e=>⟨o,kp b o hc e⟩) (λ_ _ e=>e) (λ_ _ _ e=>e) (λb ps e=>⟨#[],by rw [e];simp⟩) (λm hm=>?_) (λb u e=>?_) I.bare
 ·obtain ⟨o,es,ep,ho,r⟩:=hm
  exact ⟨o,es,ep,kp _ o (λz=>(hf _ z).2.1 rfl) ho,r⟩
 ·exact (I.hok b u e).stay (λc v hc q=>kp c v (hc.elim (λz=>by rw [z];exact far b u e) λz=>far c _ z) q) (λ_ q=>q) λ_ _ q=>q
theorem Inv.trackO {a:Addr} {o:HO} (I:Inv X pins σ H s) (n:H a=none) (new:X.s₀.heap.get? a=none) (hL:a≠X.env.locals) (hc:∀ x c,X.env.cells.lookup x=some c->c≠a) (hp:∀ p∈X.pn++pins,p.1≠a)
  (p:cy X.prog X.w (upd H a o) s.heap a o):Inv X pins σ (upd H a o) s :=
 ⟨I.ok,I.os,I.bare,⟨I.base.keep,I.base.slot,λb o e z hx=>by rw [au (λq=>by rw [q,new] at e;cases e)];exact I.base.free b o e z hx,I.base.there,
   λb xs e=>by have q:=I.base.tups b xs e;rw [au (aB q n)];exact q,λb o u e=>by have q:=I.base.frzs b o u e;rw [au (aB q n)];exact q,
   λb ps e=>by obtain ⟨m,q⟩:=I.base.tbls b ps e;exact ⟨m,by rw [au (aB q n)];exact q⟩⟩,
  I.loc,I.cell,by rw [au (Ne.symm hL)];exact I.free,λx c e=>by rw [au (hc x c e)];exact I.freeC x c e,
  λq hq=>by obtain ⟨a1,a2,a3⟩:=I.pin q hq;exact ⟨a1,by rw [au (hp q hq)];exact a2,a3⟩,
  λb u e=>by
   by_cases hb:b=a
   ·subst hb
    rw [ae] at e
    cases e
    exact p
   ·rw [au hb] at e
    exact (I.hok b u e).stay (λ_ _ _ z=>z) (λc z=>by rw [au (aB z n)];exact z) λc xs z=>by rw [au (aB z n)];exact z,
  I.len⟩
end
noncomputable def ItT (go:Nat->Hp->Prop) (src:Nat->Hp->List V->Prop) (n:Nat->Hp->Prop):It :=
 ⟨go,λi H v H'=>∃(T:Addr) (vs:List V),H T=none/\v=.ref T/\H'=upd H T (.tup vs)/\src i H vs,n⟩
theorem lE {X:Cx} {elts:List Expr} {kk:Nat} {tpos:Pos} {I₀:Addr} {fp' wr fp:List Addr} {n:Nat} {Pt:Nat->Array Value->Prop} {St:Nat->Heap->Prop} {Mid:Nat->Addr->Heap->Prop} (W:WalksT X.prog X.w X.A I₀ fp' wr n Pt St Mid)
  {pins:List (Addr×Obj)} {s:Shared} {σ:L2.St} {H:Hp} {E:Value->Shared->Prop} {i:Nat} {vs:List V} {src:Nat->Hp->List V->Prop} {tn:Nat->Heap->Prop} (I:Inv X pins σ H s) (hf:∀ b∈fp,ic X pins H b) (hob:∀ b∈fp,∃ o,s.heap.get? b=some o) (hw:∀ b∈wr,b∈fp) (hi:i < n) (st:St i s.heap)
  (hv:∀ vals,Pt i vals->Vals vs vals.toList) (hz:vs.length<=sizeLine) (hsrc:src i H vs) (htn:∀ h,St (i+1) h->tn (i+1) h) {gop stp:Nat->Hp->Prop} :
  wpAny (model X.prog X.w) X.A (pyNext (.ref I₀)) (λr s1=>∃ u,r=some u/\
   wpAny (model X.prog X.w) X.A (letOwnedTupleGo (.Tuple elts kk tpos) (.ref I₀) u) (λ_ s2=>∃ x H',Inv X pins σ H' s2/\RelV x u/\(ItT gop src stp).yld i H x H'/\tn (i+1) s2.heap/\∀ b∈fp,H' b=none) E s1) E s:=by
 refine W.item i s _ _ hi st λT vals h1 tk hP hT hTup hM kp=>?_
 refine ⟨.ref T,rfl,W.go elts kk tpos i T {s with heap:=h1,toks:=tk} _ _ hM λh2 hst kp2=>?_⟩
 have I1:Inv X pins σ H {s with heap:=h2,toks:=tk}:=I.turnedL (λb o hb e=>kp2 b o (λz=>hb (hw b z)) (kp b o (λz=>hb (hw b z)) e)) hf
 have nT:H T=none:=I.hok.fresh hT
 have tup:h2.IsTuple T vals:=by
  obtain ⟨o,e,r⟩:=hTup
  exact ⟨o,kp2 T o (W.apart i T h1 hM) e,r⟩
 have new:X.s₀.heap.get? T=none:=by
  cases z:X.s₀.heap.get? T with
  | none=>rfl
  | some o=>exact absurd (Nat.lt_of_lt_of_le (Heap.lt_size z) (Nat.le_trans I.sz hT)) (Nat.lt_irrefl _)
 refine ⟨.ref T,upd H T (.tup vs),I1.trackO nT new (Nat.ne_of_gt (Nat.lt_of_lt_of_le I.lt hT)) (λx c e z=>?_) (λp hp z=>?_) ⟨hz,vals.toList,hv vals hP,(by rw [Array.toArray_toList];exact tup)⟩,rfl,⟨T,vs,nT,rfl,rfl,hsrc⟩,htn _ hst,λb hb=>?_⟩
 ·obtain ⟨v,o,ho,_⟩:=I.cell x c e
  exact absurd (Nat.lt_of_lt_of_le (Heap.lt_size ho) (by rw [z];exact hT)) (Nat.lt_irrefl _)
 ·exact absurd (Nat.lt_of_lt_of_le (Heap.lt_size (I.pin p hp).1) (by rw [z];exact hT)) (Nat.lt_irrefl _)
 ·have e0:=(hf b hb).1
  obtain ⟨o,ho⟩:=hob b hb
  have bT:b≠T:=λz=>absurd (Nat.lt_of_lt_of_le (Heap.lt_size ho) (by rw [z];exact hT)) (Nat.lt_irrefl _)
  rw [au bT]
  exact e0
noncomputable def srcE (K:PySem.W.Frag) (a:Addr):Nat->Hp->List V->Prop:=λi H vs=>∃ x,vs=[.int i,x]/\∀ xs,SqL K H a xs->xs[i]?=some x
noncomputable def ItE (K:PySem.W.Frag) (a:Addr):It:=ItT (λi H=>∃ xs x,SqL K H a xs/\xs[i]?=some x) (srcE K a) λi H=>∃ xs,SqL K H a xs/\xs.length<=i
theorem cU {h:Heap} {a b:Addr} {its:Array Value} {o:Obj} {T:String} (l:h.IsList a its) (e:h.get? b=some o) (c:o.cls=.type T) (n:T≠"list"):a≠b:=λz=>by
 obtain ⟨o',e',c',_⟩:=l
 rw [z,e] at e'
 cases e'
 rw [c] at c'
 exact n (Value.type.inj c')
theorem yz {P:Program} {w:World} {K:PySem.W.Frag} {elts:List Expr} {kk:Nat} {tpos:Pos} (a e it:Addr) (hei:e≠it) :
  Turn P w K (.Tuple elts kk tpos) (ItE K a) [e,it] e (λi h=>(∃ old,IsEnum h e it i old)/\h.IsListIter it a i) where
 mem:=by simp
 obj:=λi h st b hb=>by
  obtain ⟨⟨old,he⟩,o,ho,_,hd⟩:=st
  rcases List.mem_cons.mp hb with rfl | hb
  ·exact ⟨_,he,λv z=>by cases z⟩
  ·rw [List.mem_singleton.mp hb]
   exact ⟨o,ho,λv z=>by rw [hd] at z;cases z⟩
 keep:=λi h h' st k=>by
  obtain ⟨⟨old,he⟩,l⟩:=st
  exact ⟨⟨old,k e (by simp) _ he⟩,l.at λo z=>k it (by simp) o z⟩
 item:=by
  intro X hP hw hK hc i pins s σ H E I hf st hg
  subst hP hw hK
  obtain ⟨xs,x,hq,hx⟩:=hg
  obtain ⟨its,rv,p,hz⟩:=I.list hq
  obtain ⟨u,hu,ru⟩:=rv.get hx
  obtain ⟨⟨old,he⟩,hit⟩:=st
  have hL:=p.isList
  have ne1:a≠e:=cU hL he rfl (by decide)
  have ne2:a≠it:=by
   obtain ⟨o,ho,hc',_⟩:=id hit
   exact cU hL ho hc' (by decide)
  have W:=WalksT.enumerateD (A:=X.A) (Draws.list (prog:=X.prog) (w:=X.w) (A:=X.A.in1) (I.ok.hd hc) it a ne2 its.toArray) e hei (by simp;exact ⟨hei,Ne.symm ne1⟩) (by simp)
  refine lE (fp:=[e,it]) (vs:=[.int i,x]) (src:=srcE X.K a) (tn:=λi h=>(∃ old,IsEnum h e it i old)/\h.IsListIter it a i) W I hf (λb hb=>?_) (λb hb=>hb) (by have:=(List.getElem?_eq_some_iff.mp hu).1;simpa using this) ⟨⟨old,he⟩,hit,hL⟩ (λvals hP=>?_) (by show 2<=sizeLine;decide) ⟨x,rfl,λys hy=>by rw [I.list_inj hy hq];exact hx⟩ λh st=>⟨?_,st.2.1⟩
  ·rcases List.mem_cons.mp hb with rfl | hb
   ·exact ⟨_,he⟩
   ·rw [List.mem_singleton.mp hb]
    obtain ⟨o,ho,_⟩:=id hit
    exact ⟨o,ho⟩
  ·obtain ⟨t,y,hy,rfl⟩:=hP
   have ey:y=u:=by
    have:its[i]?=some y:=by simpa using hy
    rw [hu] at this
    exact (Option.some.inj this).symm
   subst ey
   exact .cons ⟨t,rfl⟩ (.cons ru .nil)
  ·obtain ⟨old',z⟩:=st.1
   exact ⟨old',z⟩
 done:=by
  intro X hP hw hK hc i pins s σ H E I hf st hg
  subst hP hw hK
  obtain ⟨xs,hq,hx⟩:=hg
  obtain ⟨its,rv,p,hz⟩:=I.list hq
  obtain ⟨⟨old,he⟩,hit⟩:=st
  have hl:=rv.length
  obtain ⟨f0,f1,f2,f3,f4,f5⟩:=hf it (by simp)
  exact wpAny_pyNext_enum_end (I.ok.hd hc) he hit p.isList (by simp;omega) λh' eb=>⟨rfl,I.turned (t':=s.toks) (λb o hb e=>eb b o hb e) f0 f1 f3 f4 f5⟩
 self:=λ_ _ _ _ _ st h=>by
  obtain ⟨⟨old,he⟩,_⟩:=st
  exact wpAny_pyIter_enum he h
section
variable {X:Cx}
noncomputable def iEnum (K:PySem.W.Frag) (tl:TE):TI:=fun σ H R=>tl σ H λx H1=>∃ a,x=.ref a/\(∃ xs,SqL K H1 a xs)/\R (ItE K a) H1
theorem nK {elts:List Expr} {kk:Nat} {tpos p pos:Pos} {e:Expr} {te:TE} (hg:Gl X "enumerate") (hm:X.mg "enumerate"=none) (he:PE X e te)
  (hs:starEach [e] X.env=[(false,eval e X.env)]:=by rfl):PI X (.Tuple elts kk tpos) (.Call (.Name "enumerate" p) [e] [] pos) (iEnum X.K te):=by
 intro pins s σ H R I h
 have b1:bootBuiltins "enumerate"=some (.type "enumerate"):=by decide +kernel
 refine wpAny_Call_Name_kw (jU I hg hm b1 ?_ (by decide) (by decide))
 refine PyProof.Rows.callWith_type1 ?_ hs (by rfl)
 rw [hs]
 refine Calls.spliced_cons (thn (he pins s σ H _ I h) λu s1 zz=>?_)
 obtain ⟨y,H1,I1,ry,a,ey,⟨xs,hq⟩,q⟩:=zz
 subst ey
 have eu:u=Value.ref a:=ry
 subst eu
 refine Calls.spliced_nil ?_
 obtain ⟨its,rv,pl,hz⟩:=I1.list hq
 refine call_enumerate_list pl.isList λh' e1 e2 e3 kp=>?_
 have I2:Inv X pins σ H1 {s1 with heap:=h' }:=I1.kept (t':=s1.toks) kp
 refine wpAny_pyIter_enum (s:={s1 with heap:=h' }) e1 ?_
 refine ⟨_,[s1.heap.objs.size+1,s1.heap.objs.size],_,ItE X.K a,H1,rfl,I2,yz a _ _ (Nat.ne_of_gt (Nat.lt_succ_self _)),⟨⟨_,e1⟩,e2⟩,λb hb=>?_,q⟩
 have nb:s1.heap.objs.size<=b:=by
  rcases List.mem_cons.mp hb with rfl | hb
  ·exact Nat.le_succ _
  ·rw [List.mem_singleton.mp hb];exact Nat.le_refl _
 exact I1.fpOk nb (I1.hok.fresh nb)
end
theorem kW {K:PySem.W.Frag} {a:Addr} {xs:List V} {g:TG} {tb:TS} {D:Ends} {σ:St} {H:Hp} (Pv:Nat->St->Hp->Prop) (h0:Pv 0 σ H) (hl:∀ i σ H,i<=xs.length->Pv i σ H->SqL K H a xs)
  (hs:∀ i x T σ H,xs[i]?=some x->Pv i σ H->H T=none->g (.ref T) σ (upd H T (.tup [.int i,x])) fun σ2 H2=>tb {D with nx:=Pv (i+1),ct:=Pv (i+1),bk:=D.nx} σ2 H2) (hd:∀ σ H,Pv xs.length σ H->D.nx σ H) :
  ∃ W:Nat->Nat->St->Hp->Prop,(∃ m,W 0 m σ H)/\∀ i m σ H,W i m σ H->
   ((ItE K a).stop i H/\D.nx σ H)\/((ItE K a).go i H/\∃ N:St->Hp->Prop,(∀ σ' H',N σ' H'->∃ m',m' < m/\W (i+1) m' σ' H')/\∀ x H',(ItE K a).yld i H x H'->g x σ H' fun σ2 H2=>tb {D with nx:=N,ct:=N,bk:=D.nx} σ2 H2):=by
 refine ⟨λi m σ H=>m=xs.length - i/\i<=xs.length/\Pv i σ H,⟨xs.length,by simp,Nat.zero_le _,h0⟩,?_⟩
 rintro i m σ H ⟨rfl,hi,p⟩
 have q:=hl i σ H hi p
 by_cases hlt:i < xs.length
 ·refine .inr ⟨⟨xs,xs[i],q,by simp [hlt]⟩,Pv (i+1),fun σ' H' p'=>⟨xs.length - (i+1),by omega,rfl,hlt,p'⟩,λx H' y=>?_⟩
  obtain ⟨T,vs,nT,rfl,rfl,x,rfl,hx⟩:=y
  exact hs i x T σ H (hx xs q) p nT
 ·have e:i=xs.length:=by omega
  subst e
  exact .inl ⟨⟨xs,q,Nat.le_refl _⟩,hd σ H p⟩
open PySem.AutoSeq1
noncomputable abbrev vA (t:Addr):Obj:={cls:=.type "tuple_iterator",data:=.fields #[.ref t,.int 0 0] }
section
variable {prog:Program} {w:World} {A:Around} {E:Value->Shared->Prop} {s:Shared}
theorem oS {it t:Addr} {i:Nat} {ys:Array Value} {x:Value} {Q:Value->Shared->Prop} (st:s.heap.IsTupleIter it t i) (tp:s.heap.IsTuple t ys) (e:ys[i]?=some x)
  (k:∀ h',h'.IsTupleIter it t (i+1)->Heap.SameBut it s.heap h'->Q x {s with heap:=h' }):wpAny (model prog w) A (Builtin.SmallTypes.nextOf (.ref it)) Q E s:=by
 obtain ⟨ob,gb,cb,db⟩:=id st;obtain ⟨ot,gt,_,nt,dt⟩:=tp
 unfold Builtin.SmallTypes.nextOf;refine wpAny_bind (wpAny_callSpecial?_slot (name:=Str.ofString "__next__") st.typeIs F.slot_tuple_iterator_next (wpAny_call_entry F.slot_tuple_iterator_next st.typeIs F.entry_tuple_iterator_next ?_ (F.args_tuple_iterator_next_1 _)))
 show wpAny _ _ (field (.ref it) 0 >>= _) _ _ s;refine wpAny_bind (wpAny_field gb db (x:=.ref t) rfl ?_)
 show wpAny _ _ (if (Value.ref t == Value.none)=true then _ else _) _ _ s;rw [if_neg (show ¬ ((Value.ref t == Value.none)=true) from Bool.false_ne_true)]
 show wpAny _ _ (field (.ref it) 1 >>= _) _ _ s;refine wpAny_bind (wpAny_field gb db (x:=.int i 0) rfl ?_)
 show wpAny _ _ (seqItems? (.ref t) >>= _) _ _ s;refine wpAny_bind (wpAny_seqItems gt dt ?_)
 simp only [Int.toNat_natCast,e];refine wpAny_bind (wpAny_setField gb db (by simp) (wpAny_pure ⟨x,rfl,wpAny_pure (k _ ?_ (Heap.SameBut.update ..))⟩))
 exact ⟨_,Heap.get?_update_self _ gb (Obj.isFreed_of_fields (Obj.data_mapFields db _)),(Obj.cls_mapFields ..).trans cb,by rw [Obj.data_mapFields db];simp [rawInt]⟩
theorem pP {it t:Addr} {i:Nat} {ys:Array Value} {Q:Value->Shared->Prop} (hd:A.handled=none) (st:s.heap.IsTupleIter it t i) (tp:s.heap.IsTuple t ys) (e:ys[i]?=none)
  (k:∀ h' x,Heap.ExtBut it s.heap h'->(∃ o,h'.get? x=some o/\o.cls=.type "StopIteration")->E (.ref x) {s with heap:=h' }):wpAny (model prog w) A (Builtin.SmallTypes.nextOf (.ref it)) Q E s:=by
 obtain ⟨ob,gb,cb,db⟩:=id st;obtain ⟨ot,gt,_,nt,dt⟩:=tp
 unfold Builtin.SmallTypes.nextOf;refine wpAny_bind (wpAny_callSpecial?_slot (name:=Str.ofString "__next__") st.typeIs F.slot_tuple_iterator_next (wpAny_call_entry F.slot_tuple_iterator_next st.typeIs F.entry_tuple_iterator_next ?_ (F.args_tuple_iterator_next_1 _)))
 show wpAny _ _ (field (.ref it) 0 >>= _) _ _ s;refine wpAny_bind (wpAny_field gb db (x:=.ref t) rfl ?_)
 show wpAny _ _ (if (Value.ref t == Value.none)=true then _ else _) _ _ s;rw [if_neg (show ¬ ((Value.ref t == Value.none)=true) from Bool.false_ne_true)]
 show wpAny _ _ (field (.ref it) 1 >>= _) _ _ s;refine wpAny_bind (wpAny_field gb db (x:=.int i 0) rfl ?_)
 show wpAny _ _ (seqItems? (.ref t) >>= _) _ _ s;refine wpAny_bind (wpAny_seqItems gt dt ?_)
 simp only [Int.toNat_natCast,e];refine wpAny_bind (wpAny_rule (wpAny_bind (wpAny_setField gb db (by simp) ?_)))
 show wpAny _ _ (newExc (.type "StopIteration") [] >>= _) _ _ _;refine wpAny_bind ?_;simp only [newExc,newTuple]
 refine wpAny_bind (wpAny_newObj_type ?_ (by size_fits));refine wpAny_bind (m:=firstArgMember _ _) (wpAny_of_eq (a:=Value.none) (by first | rfl | (simp only [firstArgMember];rfl)) ?_);refine wpAny_newObj_type ?_ (by size_fits)
 simp only [raiseNew];refine wpAny_bind (wpAny_handled ?_);first | rw [show A.in1.handled=none from hd] | rw [hd]
 refine wpAny_bind (wpAny_pure (wpAny_throw ?_));exact k _ _ (((Heap.SameBut.update ..).extBut.push _).push _) ⟨_,Heap.get?_push_size _ rfl,rfl⟩
end
section
variable {X:Cx}
end
noncomputable def srcZ (K:PySem.W.Frag) (a b:Addr):Nat->Hp->List V->Prop:=λi H vs=>∃ x y,vs=[x,y]/\(∀ xs,SqL K H a xs->xs[i]?=some x)/\∀ ys,SqL K H b ys->ys[i]?=some y
noncomputable def ItZ (K:PySem.W.Frag) (a b:Addr):It:=ItT (λi H=>∃ xs ys x y,SqL K H a xs/\SqL K H b ys/\xs[i]?=some x/\ys[i]?=some y) (srcZ K a b) λi H=>∃ xs ys,SqL K H a xs/\SqL K H b ys/\(xs.length<=i\/ys.length<=i)
structure ZOwn (z TI TO i1 i2:Addr):Prop where
 a1:TI≠z
 a2:TO≠z
 a3:i1≠z
 a4:i2≠z
 a5:TI≠TO
 a6:TI≠i1
 a7:TI≠i2
 a8:TO≠i1
 a9:TO≠i2
 a10:i1≠i2
noncomputable def tnZ (a b z TI TO i1 i2:Addr) (i:Nat) (h:Heap):Prop:=IsZip h z TI TO .none/\IsPair h TI (.ref i1) (.ref i2)/\(∃ u v,IsPair h TO u v)/\h.IsListIter i1 a i/\h.IsListIter i2 b i
theorem Af {h:Heap} {a b z TI TO i1 i2:Addr} {i:Nat} {xs ys:Array Value} (o:ZOwn z TI TO i1 i2) (st:tnZ a b z TI TO i1 i2 i h) (la:h.IsList a xs) (lb:h.IsList b ys):ZipApart z TI TO i1 i2 a b:=by
 obtain ⟨hz,hTI,⟨u,v,hTO⟩,h1,h2⟩:=st
 obtain ⟨o1,g1,c1,_⟩:=h1
 obtain ⟨o2,g2,c2,_⟩:=h2
 refine ⟨o.a1,o.a2,o.a3,o.a4,o.a5,o.a6,o.a7,o.a8,o.a9,o.a10,?_,?_,?_,?_,?_,?_,?_,?_⟩
 all_goals first
  | exact cU la hz rfl (by decide)
  | exact cU la hTO rfl (by decide)
  | exact cU la g1 c1 (by decide)
  | exact cU la g2 c2 (by decide)
  | exact cU lb hz rfl (by decide)
  | exact cU lb hTO rfl (by decide)
  | exact cU lb g1 c1 (by decide)
  | exact cU lb g2 c2 (by decide)
theorem zobj {h:Heap} {a b z TI TO i1 i2:Addr} {i:Nat} (st:tnZ a b z TI TO i1 i2 i h):∀ c∈[z,TI,TO,i1,i2],∃ o,h.get? c=some o/\∀ v,o.data≠.cell v:=by
 intro c hc
 obtain ⟨hz,hTI,⟨u,v,hTO⟩,⟨o1,g1,_,d1⟩,⟨o2,g2,_,d2⟩⟩:=st
 simp only [List.mem_cons,List.not_mem_nil,or_false] at hc
 rcases hc with rfl | rfl | rfl | rfl | rfl
 ·exact ⟨_,hz,λv z=>by cases z⟩
 ·exact ⟨_,hTI,λv z=>by cases z⟩
 ·exact ⟨_,hTO,λv z=>by cases z⟩
 ·exact ⟨_,g1,λv z=>by rw [d1] at z;cases z⟩
 ·exact ⟨_,g2,λv z=>by rw [d2] at z;cases z⟩
theorem Aj {P:Program} {w:World} {K:PySem.W.Frag} {elts:List Expr} {kk:Nat} {tpos:Pos} (a b z TI TO i1 i2:Addr) (own:ZOwn z TI TO i1 i2) :
  Turn P w K (.Tuple elts kk tpos) (ItZ K a b) [z,TI,TO,i1,i2] z (tnZ a b z TI TO i1 i2) where
 mem:=by simp
 obj:=λi h st c hc=>zobj st c hc
 keep:=λi h h' st k=>by
  obtain ⟨hz,hTI,⟨u,v,hTO⟩,l1,l2⟩:=st
  exact ⟨k z (by simp) _ hz,k TI (by simp) _ hTI,⟨u,v,k TO (by simp) _ hTO⟩,l1.at λo q=>k i1 (by simp) o q,l2.at λo q=>k i2 (by simp) o q⟩
 item:=by
  intro X hP hw hK hc i pins s σ H E I hf st hg
  subst hP hw hK
  obtain ⟨xs,ys,x,y,hq,hq2,hx,hy⟩:=hg
  obtain ⟨its,rv,p,hz⟩:=I.list hq
  obtain ⟨its2,rv2,p2,hz2⟩:=I.list hq2
  obtain ⟨u,hu,ru⟩:=rv.get hx
  obtain ⟨u2,hu2,ru2⟩:=rv2.get hy
  have D:=Af own st p.isList p2.isList
  have W:=WalksT.zip2 (prog:=X.prog) (w:=X.w) (A:=X.A) (I.ok.hd hc) z TI TO i1 i2 a b D its.toArray its2.toArray
  have l1:=(List.getElem?_eq_some_iff.mp hu).1
  have l2:=(List.getElem?_eq_some_iff.mp hu2).1
  obtain ⟨s1,s2,s3,s4,s5⟩:=id st
  refine lE (fp:=[z,TI,TO,i1,i2]) (vs:=[x,y]) (src:=srcZ X.K a b) (tn:=tnZ a b z TI TO i1 i2) W I hf (λc hc=>let ⟨o,q,_⟩:=zobj st c hc;⟨o,q⟩) (λc hc=>?_) (by simp only [List.size_toArray];omega) ⟨s1,s2,s3,s4,s5,p.isList,p2.isList⟩ (λvals hP=>?_) (by show 2<=sizeLine;decide)
   ⟨x,y,rfl,λzs hzs=>by rw [I.list_inj hzs hq];exact hx,λzs hzs=>by rw [I.list_inj hzs hq2];exact hy⟩ λh st=>⟨st.1,st.2.1,st.2.2.1,st.2.2.2.1,st.2.2.2.2.1⟩
  ·simp only [List.mem_cons,List.not_mem_nil,or_false] at hc ⊢
   rcases hc with q | q | q | q <;> simp [q]
  ·obtain ⟨v1,v2,e1,e2,rfl⟩:=hP
   have f1:v1=u:=by
    have q:its[i]?=some v1:=by simpa using e1
    rw [hu] at q
    exact (Option.some.inj q).symm
   have f2:v2=u2:=by
    have q:its2[i]?=some v2:=by simpa using e2
    rw [hu2] at q
    exact (Option.some.inj q).symm
   subst f1 f2
   exact .cons ru (.cons ru2 .nil)
 done:=by
  intro X hP hw hK hc i pins s σ H E I hf st hg
  subst hP hw hK
  obtain ⟨xs,ys,hq,hq2,hend⟩:=hg
  obtain ⟨its,rv,p,hz⟩:=I.list hq
  obtain ⟨its2,rv2,p2,hz2⟩:=I.list hq2
  have D:=Af own st p.isList p2.isList
  obtain ⟨s1,s2,⟨u,v,s3⟩,s4,s5⟩:=id st
  have e1:=rv.length
  have e2:=rv2.length
  refine wpAny_pyNext_zip_end (I.ok.hd hc) D s1 s2 s3 s4 s5 p.isList p2.isList (by
   rcases hend with q | q
   ·exact .inl (by simp;omega)
   ·exact .inr (by simp;omega)) λh' kp=>⟨rfl,I.turnedL (t':=s.toks) (λc o hc q=>kp c o (λe=>hc (by simp [e])) (λe=>hc (by simp [e])) (λe=>hc (by simp [e])) (λe=>hc (by simp [e])) q) hf⟩
 self:=λ_ _ _ _ _ st h=>wpAny_pyIter_zip st.1 h
section
variable {X:Cx}
noncomputable def iZip (K:PySem.W.Frag) (ta tb:TE):TI:=fun σ H R=>ta σ H λx H1=>tb σ H1 λy H2=>∃ a b,x=.ref a/\y=.ref b/\(∃ xs,SqL K H2 a xs)/\(∃ ys,SqL K H2 b ys)/\R (ItZ K a b) H2
theorem pi_zip {elts:List Expr} {kk:Nat} {tpos p pos:Pos} {e f:Expr} {te tf:TE} (hg:Gl X "zip") (hm:X.mg "zip"=none) (he:PE X e te) (hf:PE X f tf)
  (hs:starEach [e,f] X.env=[(false,eval e X.env),(false,eval f X.env)]:=by rfl) (hs2:starEach [f] X.env=[(false,eval f X.env)]:=by rfl):PI X (.Tuple elts kk tpos) (.Call (.Name "zip" p) [e,f] [] pos) (iZip X.K te tf):=by
 intro pins s σ H R I h
 have b1:bootBuiltins "zip"=some (.type "zip"):=by decide +kernel
 refine wpAny_Call_Name_kw (jU I hg hm b1 ?_ (by decide) (by decide))
 refine PyProof.Rows.callWith_type1 ?_ (by rw [hs,hs2]) (by rw [hs2];rfl)
 rw [hs]
 refine Calls.spliced_cons (thn (he pins s σ H _ I h) λu s1 zz=>?_)
 obtain ⟨x,H1,I1,rx,q1⟩:=zz
 refine Calls.spliced_cons (thn (hf pins s1 σ H1 _ I1 q1) λu2 s2 zz=>?_)
 obtain ⟨y,H2,I2,ry,a,b,ex,ey,⟨xs,hq⟩,⟨ys,hq2⟩,q⟩:=zz
 subst ex ey
 have eu:u=Value.ref a:=rx
 have eu2:u2=Value.ref b:=ry
 subst eu eu2
 refine Calls.spliced_nil ?_
 obtain ⟨its,rv,pl,hz⟩:=I2.list hq
 obtain ⟨its2,rv2,pl2,hz2⟩:=I2.list hq2
 refine call_zip_2 pl.isList pl2.isList λh' z TI TO i1 i2 sz kp=>?_
 have I3:Inv X pins σ H2 {s2 with heap:=h' }:=I2.kept (t':=s2.toks) kp
 refine wpAny_pyIter_zip (s:={s2 with heap:=h' }) z ?_
 have ne:∀ i j:Nat,i≠j->s2.heap.objs.size+i≠s2.heap.objs.size+j:=λi j hij e=>hij (Nat.add_left_cancel e)
 refine ⟨_,[s2.heap.objs.size+4,s2.heap.objs.size+2,s2.heap.objs.size+3,s2.heap.objs.size,s2.heap.objs.size+1],_,ItZ X.K a b,H2,rfl,I3,
  Aj a b _ _ _ _ _ ⟨ne 2 4 (by decide),ne 3 4 (by decide),ne 0 4 (by decide),ne 1 4 (by decide),ne 2 3 (by decide),ne 2 0 (by decide),ne 2 1 (by decide),ne 3 0 (by decide),ne 3 1 (by decide),ne 0 1 (by decide)⟩,
  ⟨z,TI,⟨_,_,TO⟩,i1,i2⟩,λc hc=>?_,q⟩
 have nb:s2.heap.objs.size<=c:=by
  simp only [List.mem_cons,List.not_mem_nil,or_false] at hc
  rcases hc with rfl | rfl | rfl | rfl | rfl
  ·exact Nat.le_add_right _ _
  ·exact Nat.le_add_right _ _
  ·exact Nat.le_add_right _ _
  ·exact Nat.le_refl _
  ·exact Nat.le_add_right _ _
 exact I2.fpOk nb (I2.hok.fresh nb)
end
section
variable {X:Cx}
end
section
variable {X:Cx}
noncomputable def rInD (K:PySem.W.Frag) (no:Bool):R2:=λx y H Q=>∃ d ds a ys,Du K H d x/\y=.ref a/\SqL K H a ys/\DatAll K H ds ys/\PyData.canLayAll0 ds=true/\d.canLay0=true/\PyData.depthAll ds<=60/\Q (.bl (Bool.xor no (ds.any λe=>PyData.eqv e d))) H
theorem op_inD (hu:X.A.units+64 < cLine):OpR X (compareOp .In) (rInD X.K false):=by
 intro pins s σ H x y u v Q I rx ry h
 obtain ⟨d,ds,a,ys,hx,rfl,hl,hd,c1,c2,c3,q⟩:=h
 obtain ⟨bs,r1⟩:=hx.reads I rx
 obtain ⟨as,r2⟩:=Du.reads I (d:=.list ds) (v:=.ref a) (.inr ⟨ds,a,ys,rfl,rfl,hl,hd⟩) ry
 refine PySem.SeqAt.in_list_reads r2 r1 c1 c2 (by have:=Nat.min_le_left (PyData.depthAll ds) d.depth;omega) ⟨_,H,I,?_,q⟩
 exact congrArg Value.bool (Bool.false_xor _).symm
theorem yN (hu:X.A.units+64 < cLine):OpR X (compareOp .NotIn) (rInD X.K true):=by
 intro pins s σ H x y u v Q I rx ry h
 obtain ⟨d,ds,a,ys,hx,rfl,hl,hd,c1,c2,c3,q⟩:=h
 obtain ⟨bs,r1⟩:=hx.reads I rx
 obtain ⟨as,r2⟩:=Du.reads I (d:=.list ds) (v:=.ref a) (.inr ⟨ds,a,ys,rfl,rfl,hl,hd⟩) ry
 refine PySem.SeqAt.notIn_list_reads r2 r1 c1 c2 (by have:=Nat.min_le_left (PyData.depthAll ds) d.depth;omega) ⟨_,H,I,?_,q⟩
 exact congrArg Value.bool (Bool.true_xor _).symm
end
section
variable {X:Cx}
noncomputable def xJ (K:PySem.W.Frag):V->List V->Hp->VK->Prop:=λx vs H Q=>∃(l:Addr) (ys:List V) (y:V) (ds:List PyData) (d:PyData) (j:Nat) (e0:PyData),x=.ref l/\vs=[y]/\H l=some (.lst ys)/\DatAll K H ds ys/\Dat K H d y/\PyData.canLayAll0 ds=true/\d.canLay0=true/\PyData.depthAll ds<=60/\
 ds[j]?=some e0/\PyData.eqv e0 d=true/\(∀ m e,m < j->ds[m]?=some e->PyData.eqv e d=false)/\Q (.int (j:Int)) H
theorem zm (hu:X.A.units+64 < cLine):MtM X "list.index" (xJ X.K):=by
 intro pins s σ H x vs v us Q I rx rv h
 obtain ⟨l,ys,y,ds,d,j,e0,rfl,rfl,hH,hds,hd,c1,c2,c3,hj,hit,hno,q⟩:=h
 cases rx
 obtain ⟨u,rfl,ru⟩:=vals1 rv
 obtain ⟨z,its,n,r,hl,e⟩:=I.lstM hH
 obtain ⟨as,ra⟩:=DatAll.reads I ds hds r
 obtain ⟨bs,rd⟩:=Dat.reads I d hd ru
 have hmap:=PySem.SeqAt.readsAll_map ds its as c1 ra
 have hlen:its.length=ds.length:=by rw [<- hmap,List.length_map]
 have hjl:j < ds.length:=(List.getElem?_eq_some_iff.mp hj).1
 have at_:∀ m (hm:m < its.length),ds[m]?=some (PySem.SeqAt.readOf s.heap its[m]):=λm hm=>by
  rw [<- hmap,List.getElem?_map,List.getElem?_eq_getElem hm]
  rfl
 refine call_meets F.slot_list_index ⟨_,e,rfl⟩ F.entry_list_index (F.args_list_index_2 _ _)
  (PySem.SeqAt.list_indexAt l its.toArray n _ _ u (λy=>PyData.eqv (PySem.SeqAt.readOf s.heap y) d) j (by rw [List.size_toArray];omega) ?_ ?_ ?_) ⟨e,PySem.SeqAt.items_eqAt (as:=as) (by simpa using ra) rd c1 c2 (by have:=Nat.min_le_left (PyData.depthAll ds) d.depth;omega),⟨.int (j:Int),H,I.tok _,⟨_,rfl⟩,q⟩⟩
 ·have:its.length<=sizeLine:=by omega
  have:sizeLine < 2 ^ 62:=by decide
  omega
 ·have h1:=at_ j (by omega)
  rw [hj] at h1
  show PyData.eqv (PySem.SeqAt.readOf s.heap its[j]) d=true
  rw [<- Option.some.inj h1]
  exact hit
 ·intro m hm hlt
  have hm':m < its.length:=by simpa using hm
  exact hno m _ hlt (at_ m hm')
end
end L2
namespace Mine
open PySem L2
noncomputable def kD:Key->PyData
 | .inl i=>.int i
 | .inr x=>.str x
noncomputable def rwD (r:Rw):PyData:=.tuple (r.map kD)
theorem kD_eqv (a b:Key):PyData.eqv (kD a) (kD b)=decide (a=b):=by
 cases a <;> cases b <;> simp [kD,PyData.eqv] <;> (rw [Bool.eq_iff_iff];simp)
theorem rB (a b:Rw):PyData.eqv (rwD a) (rwD b)=decide (a=b):=by
 simp only [rwD,PyData.eqv]
 exact yf kD_eqv a b
theorem kD_dat {K:PySem.W.Frag} {H:Hp} (k:Key):Dat K H (kD k) (kV k):=by cases k <;> rfl
theorem Cv {K:PySem.W.Frag} {H:Hp}:∀ r:Rw,DatAll K H (r.map kD) (r.map kV)
 | []=>rfl
 | k::r=>⟨_,_,rfl,kD_dat k,Cv r⟩
theorem RwV.dat {K:PySem.W.Frag} {H:Hp} {v:V} {r:Rw} (h:RwV H v r):Dat K H (rwD r) v:=by
 obtain ⟨a,rfl,e⟩:=h
 exact ⟨a,_,rfl,SqT.of e,Cv r⟩
theorem RwV.all {K:PySem.W.Frag} {H:Hp} {vs:List V} {rs:List Rw} (h:bO (RwV H) vs rs):DatAll K H (rs.map rwD) vs:=by
 induction h with
 | nil=>rfl
 | cons r _ ih=>exact ⟨_,_,rfl,r.dat,ih⟩
noncomputable def KOk:Key->Prop
 | .inl _=>True
 | .inr x=>PyData.strOk x=true
noncomputable def mv (r:Rw):Prop:=∀ k∈r,KOk k
theorem kD_lay {k:Key} (h:KOk k):(kD k).canLay0=true:=by
 cases k with
 | inl _=>rfl
 | inr x=>simp only [kD,PyData.canLay0];exact h
theorem yc:∀{r:Rw},mv r->PyData.canLayAll0 (r.map kD)=true
 | [],_=>rfl
 | k::r,h=>by simp [PyData.canLayAll0,kD_lay (h k (by simp)),yc (r:=r) λx hx=>h x (List.mem_cons_of_mem _ hx)]
theorem ir {x:Str} {is:List Nat} (h:PyData.strOk x=true):mv (dU x is):=λk hk=>by
 rcases List.mem_cons.mp hk with rfl | hk
 ·exact h
 ·obtain ⟨i,_,rfl⟩:=List.mem_map.mp hk
  exact True.intro
theorem iw {rs:List Rw} {r:Rw} (h:∀ x∈rs,mv x) (hr:mv r):∀ x∈(aP rs r).1,mv x:=by
 unfold aP
 cases idx rs r with
 | some i=>exact h
 | none =>
  intro x hx
  rcases List.mem_append.mp hx with hx | hx
  ·exact h x hx
  ·rw [List.mem_singleton.mp hx];exact hr
theorem w5_ok (w:W5):PyData.strOk w.str=true:=by cases w <;> decide +kernel
theorem word_ok (t:Tr):PyData.strOk t.word=true:=by
 cases t with
 | fold w a b=>exact w5_ok w
 | never=>show PyData.strOk "never"=true;decide +kernel
 | always=>show PyData.strOk "always"=true;decide +kernel
 | lp=>show PyData.strOk "p"=true;decide +kernel
 | lq=>show PyData.strOk "q"=true;decide +kernel
 | no t=>show PyData.strOk "not"=true;decide +kernel
theorem nI:∀(t:Tr) (rs:List Rw),(∀ x∈rs,mv x)->∀ x∈(t.putR rs).1,mv x
 | .no t,rs,h=>iw (nI t rs h) (ir (by decide +kernel))
 | .fold w a b,rs,h=>iw (nI b _ (nI a rs h)) (ir (w5_ok w))
 | .never,rs,h=>iw h (ir (by decide +kernel))
 | .always,rs,h=>iw h (ir (by decide +kernel))
 | .lp,rs,h=>iw h (ir (by decide +kernel))
 | .lq,rs,h=>iw h (ir (by decide +kernel))
theorem qK:∀ r:Rw,PyData.depthAll (r.map kD)=0
 | []=>rfl
 | k::r=>by
  rw [List.map_cons]
  show max (kD k).depth (PyData.depthAll (r.map kD))=0
  rw [qK r]
  cases k <;> rfl
theorem vK {r:Rw} (h:mv r):(rwD r).canLay0=true:=by simp only [rwD,PyData.canLay0];exact yc h
theorem rA:∀{rs:List Rw},(∀ x∈rs,mv x)->PyData.canLayAll0 (rs.map rwD)=true
 | [],_=>rfl
 | r::rs,h=>by simp [PyData.canLayAll0,vK (h r (by simp)),rA (rs:=rs) λx hx=>h x (List.mem_cons_of_mem _ hx)]
theorem AS (r:Rw):(rwD r).depth<=1:=by
 show PyData.depthAll (r.map kD)+1<=1
 rw [qK]
 exact Nat.le_refl _
theorem lQ:∀ rs:List Rw,PyData.depthAll (rs.map rwD)<=1
 | []=>Nat.zero_le _
 | r::rs=>by
  rw [List.map_cons]
  show max (rwD r).depth (PyData.depthAll (rs.map rwD))<=1
  exact Nat.max_le.mpr ⟨AS r,lQ rs⟩
theorem rws_any (rs:List Rw) (r:Rw):((rs.map rwD).any λy=>PyData.eqv y (rwD r))=(idx rs r).isSome:=by
 induction rs with
 | nil=>rfl
 | cons x t ih =>
  rw [List.map_cons,List.any_cons,ih,rB]
  show _=(if x=r then some 0 else (idx t r).map (·+1)).isSome
  by_cases z:x=r
  ·rw [if_pos z,decide_eq_true z];rfl
  ·rw [if_neg z,decide_eq_false z]
   cases idx t r <;> rfl
theorem qN:∀{rs:List Rw} {r:Rw} {i:Nat},idx rs r=some i->∀ m x,m < i->rs[m]?=some x->x≠r
 | [],_,_,h=>by cases h
 | y::t,r,i,h=>by
  intro m x hm hx
  unfold idx at h
  split at h
  ·cases h;omega
  ·rename_i z
   cases e:idx t r with
   | none=>rw [e] at h;cases h
   | some j =>
    rw [e] at h
    have h':j+1=i:=Option.some.inj h
    subst h'
    cases m with
    | zero=>cases hx;exact z
    | succ m=>exact qN e m x (by omega) hx
inductive Gr where
 | ne | al | p | q
 | no (i:Nat)
 | fold (u:W5) (i j:Nat)
noncomputable def Gr.word:Gr->Str
 | .ne=>"never" | .al=>"always" | .p=>"p" | .q=>"q" | .no _=>"not" | .fold u _ _=>u.str
noncomputable def Gr.nums:Gr->List Nat
 | .no i=>[i]
 | .fold _ i j=>[i,j]
 | _=>[]
noncomputable def Gr.rw (g:Gr):Rw:=dU g.word g.nums
noncomputable def GrOk (k:Nat) (g:Gr):Prop:=∀ i∈g.nums,i < k
noncomputable def GrsOk (gs:List Gr):Prop:=∀ k g,gs[k]?=some g->GrOk k g
noncomputable def GrT (ts:List Tr):Gr->Tr->Prop
 | .ne,.never=>True
 | .al,.always=>True
 | .p,.lp=>True
 | .q,.lq=>True
 | .no i,.no t=>ts[i]?=some t
 | .fold u i j,.fold v a b=>u=v/\ts[i]?=some a/\ts[j]?=some b
 | _,_=>False
theorem lg {α:Type} {ts e:List α} {i:Nat} {t:α} (h:ts[i]?=some t):(ts++e)[i]?=some t:=by
 rw [List.getElem?_append_left (List.getElem?_eq_some_iff.mp h).1]
 exact h
theorem GrT.more {ts e:List Tr} {g:Gr} {t:Tr} (h:GrT ts g t):GrT (ts++e) g t:=by
 cases g <;> cases t <;> first | exact h | exact lg h | exact ⟨h.1,lg h.2.1,lg h.2.2⟩
theorem lI {α:Type} {o:Option α} {a b:α} (h:o=some a) (k:o=some b):a=b:=by rw [h] at k;exact Option.some.inj k
theorem GrT.uniq {ts:List Tr} {g:Gr} {t t':Tr} (h:GrT ts g t) (k:GrT ts g t'):t=t':=by
 cases g with
 | no i =>
  cases t <;> first | exact h.elim | skip
  cases t' <;> first | exact k.elim | skip
  exact congrArg Tr.no (lI h k)
 | fold u i j =>
  cases t <;> first | exact h.elim | skip
  cases t' <;> first | exact k.elim | skip
  obtain ⟨rfl,h1,h2⟩:=h
  obtain ⟨rfl,k1,k2⟩:=k
  rw [lI h1 k1,lI h2 k2]
 | ne=>cases t <;> first | exact h.elim | (cases t' <;> first | exact k.elim | rfl)
 | al=>cases t <;> first | exact h.elim | (cases t' <;> first | exact k.elim | rfl)
 | p=>cases t <;> first | exact h.elim | (cases t' <;> first | exact k.elim | rfl)
 | q=>cases t <;> first | exact h.elim | (cases t' <;> first | exact k.elim | rfl)
theorem w5_inj {u v:W5} (h:u.str=v.str):u=v:=by
 cases u <;> cases v <;> first | rfl | exact absurd h (by decide +kernel)
theorem tY:∀{a b:List Nat},(a.map λi:Nat=>(Sum.inl (i:Int):Key))=b.map (λi:Nat=>(Sum.inl (i:Int):Key))->a=b
 | [],[],_=>rfl
 | [],_::_,h=>nomatch h
 | _::_,[],h=>nomatch h
 | x::a,y::b,h=>by
  have e1:=(List.cons.inj h).1
  have e2:=tY (List.cons.inj h).2
  have:(x:Int)=(y:Int):=Sum.inl.inj e1
  rw [e2,show x=y by omega]
theorem rw_inj {g k:Gr} (h:g.rw=k.rw):g=k:=by
 have e1:g.word=k.word:=Sum.inr.inj (List.cons.inj h).1
 have e2:g.nums=k.nums:=tY (List.cons.inj h).2
 cases g with
 | no i =>
  cases k with
  | no j=>rw [show i=j from (List.cons.inj e2).1]
  | fold u a b=>exact absurd (congrArg List.length e2) (by show 1≠2;decide)
  | _=>exact nomatch e2
 | fold u a b =>
  cases k with
  | no j=>exact absurd (congrArg List.length e2) (by show 2≠1;decide)
  | fold v c d =>
   have z:=List.cons.inj e2
   rw [w5_inj e1,z.1,(List.cons.inj z.2).1]
  | _=>exact nomatch e2
 | ne=>cases k <;> first | rfl | exact absurd e1 (by decide +kernel) | exact absurd (congrArg List.length e2) (by show 0≠1;decide) | exact absurd (congrArg List.length e2) (by show 0≠2;decide)
 | al=>cases k <;> first | rfl | exact absurd e1 (by decide +kernel) | exact absurd (congrArg List.length e2) (by show 0≠1;decide) | exact absurd (congrArg List.length e2) (by show 0≠2;decide)
 | p=>cases k <;> first | rfl | exact absurd e1 (by decide +kernel) | exact absurd (congrArg List.length e2) (by show 0≠1;decide) | exact absurd (congrArg List.length e2) (by show 0≠2;decide)
 | q=>cases k <;> first | rfl | exact absurd e1 (by decide +kernel) | exact absurd (congrArg List.length e2) (by show 0≠1;decide) | exact absurd (congrArg List.length e2) (by show 0≠2;decide)
inductive Tab:List Gr->List Tr->Prop where
 | nil:Tab [] []
 | snoc {gs:List Gr} {ts:List Tr} {g:Gr} {t:Tr}:Tab gs ts->GrT ts g t->Tab (gs++[g]) (ts++[t])
theorem Tab.len {gs:List Gr} {ts:List Tr} (h:Tab gs ts):gs.length=ts.length:=by
 induction h with
 | nil=>rfl
 | snoc _ _ ih=>rw [List.length_append,List.length_append,ih];rfl
theorem Tab.at {gs:List Gr} {ts:List Tr} (h:Tab gs ts):∀{i:Nat} {g:Gr},gs[i]?=some g->∃ t,ts[i]?=some t/\GrT ts g t:=by
 induction h with
 | nil=>intro i g e;cases e
 | @snoc gs ts g0 t0 h0 r ih =>
  intro i g e
  by_cases z:i < gs.length
  ·rw [List.getElem?_append_left z] at e
   obtain ⟨t,e1,e2⟩:=ih e
   exact ⟨t,lg e1,e2.more⟩
  ·have z0:i=gs.length:=by
    have:=(List.getElem?_eq_some_iff.mp e).1
    rw [List.length_append] at this
    simp at this
    omega
   subst z0
   rw [List.getElem?_concat_length] at e
   cases e
   refine ⟨t0,?_,r.more⟩
   rw [h0.len,List.getElem?_concat_length]
theorem Tab.push {gs:List Gr} {ts:List Tr} {g:Gr} {t:Tr} (h:Tab gs ts) (r:GrT ts g t):∃ gs' ts',(aP (gs.map Gr.rw) g.rw).1=gs'.map Gr.rw/\Tab gs' ts'/\ts'[(aP (gs.map Gr.rw) g.rw).2]?=some t/\((t∈ts/\ts'=ts)\/ts'=ts++[t]):=by
 unfold aP
 cases z:idx (gs.map Gr.rw) g.rw with
 | some i =>
  have e:=wj z
  rw [List.getElem?_map] at e
  cases y:gs[i]? with
  | none=>rw [y] at e;cases e
  | some k =>
   rw [y] at e
   have ek:k=g:=rw_inj (Option.some.inj e)
   subst ek
   obtain ⟨t',e1,e2⟩:=h.at y
   have et:=e2.uniq r
   subst et
   exact ⟨gs,ts,rfl,h,e1,.inl ⟨List.mem_of_getElem? e1,rfl⟩⟩
 | none =>
  refine ⟨gs++[g],ts++[t],by rw [List.map_append];rfl,.snoc h r,?_,.inr rfl⟩
  show (ts++[t])[(gs.map Gr.rw).length]?=some t
  rw [List.length_map,h.len,List.getElem?_concat_length]
theorem GrT.ok {ts:List Tr} {g:Gr} {t:Tr} (h:GrT ts g t):GrOk ts.length g:=by
 intro k hk
 cases g with
 | no i =>
  cases t <;> first | exact h.elim | skip
  rw [show k=i by simpa [Gr.nums] using hk]
  exact (List.getElem?_eq_some_iff.mp h).1
 | fold u i j =>
  cases t <;> first | exact h.elim | skip
  obtain ⟨_,h1,h2⟩:=h
  have z:k=i\/k=j:=by simpa [Gr.nums] using hk
  rcases z with rfl | rfl
  ·exact (List.getElem?_eq_some_iff.mp h1).1
  ·exact (List.getElem?_eq_some_iff.mp h2).1
 | ne=>exact nomatch hk
 | al=>exact nomatch hk
 | p=>exact nomatch hk
 | q=>exact nomatch hk
theorem Tab.ok {gs:List Gr} {ts:List Tr} (h:Tab gs ts):GrsOk gs:=by
 induction h with
 | nil=>intro k g e;cases e
 | @snoc gs ts g0 t0 h0 r ih =>
  intro k g e
  by_cases z:k < gs.length
  ·rw [List.getElem?_append_left z] at e
   exact ih k g e
  ·have z0:k=gs.length:=by
    have:=(List.getElem?_eq_some_iff.mp e).1
    rw [List.length_append] at this
    simp at this
    omega
   subst z0
   rw [List.getElem?_concat_length] at e
   cases e
   rw [h0.len]
   exact r.ok
theorem lU (t:Tr):t∈t.post:=by cases t <;> simp [Tr.post]
theorem fW:∀(t x:Tr),x∈t.post->x.size<=t.size
 | .no t,x,h=>by
  rcases List.mem_append.mp (show x∈t.post++[.no t] from h) with h | h
  ·exact Nat.le_succ_of_le (fW t x h)
  ·rw [List.mem_singleton.mp h];exact Nat.le_refl _
 | .fold u a b,x,h=>by
  rcases List.mem_append.mp (show x∈a.post++b.post++[.fold u a b] from h) with h | h
  ·rcases List.mem_append.mp h with h | h
   ·have:=fW a x h;show _<=a.size+b.size+1;omega
   ·have:=fW b x h;show _<=a.size+b.size+1;omega
  ·rw [List.mem_singleton.mp h];exact Nat.le_refl _
 | .never,x,h=>by rw [List.mem_singleton.mp h];exact Nat.le_refl _
 | .always,x,h=>by rw [List.mem_singleton.mp h];exact Nat.le_refl _
 | .lp,x,h=>by rw [List.mem_singleton.mp h];exact Nat.le_refl _
 | .lq,x,h=>by rw [List.mem_singleton.mp h];exact Nat.le_refl _
theorem Bn:∀(t:Tr) {gs:List Gr} {ts:List Tr},Tab gs ts->∃ gs' e,(t.putR (gs.map Gr.rw)).1=gs'.map Gr.rw/\Tab gs' (ts++e)/\(ts++e)[(t.putR (gs.map Gr.rw)).2]?=some t/\(∀ x∈e,x∈t.post)/\(t ∉ ts->∃ e',e=e'++[t]):=by
 have leaf:∀(t:Tr) (g:Gr) {gs:List Gr} {ts:List Tr},Tab gs ts->GrT ts g t->∃ gs' e,(aP (gs.map Gr.rw) g.rw).1=gs'.map Gr.rw/\Tab gs' (ts++e)/\(ts++e)[(aP (gs.map Gr.rw) g.rw).2]?=some t/\(∀ x∈e,x∈t.post)/\(t ∉ ts->∃ e',e=e'++[t]):=by
  intro t g gs ts h r
  obtain ⟨gs',ts',e1,e2,e3,e4⟩:=h.push r
  rcases e4 with ⟨m,rfl⟩ | rfl
  ·exact ⟨gs',[],e1,by rw [List.append_nil];exact e2,by rw [List.append_nil];exact e3,(λ_ z=>by cases z),λz=>absurd m z⟩
  ·exact ⟨gs',[t],e1,e2,e3,λx z=>by rw [List.mem_singleton.mp z];exact lU t,λ_=>⟨[],rfl⟩⟩
 intro t
 induction t with
 | never=>intro gs ts h;exact leaf .never .ne h trivial
 | always=>intro gs ts h;exact leaf .always .al h trivial
 | lp=>intro gs ts h;exact leaf .lp .p h trivial
 | lq=>intro gs ts h;exact leaf .lq .q h trivial
 | no t ih =>
  intro gs ts h
  obtain ⟨gs1,e,a1,a2,a3,a4,_⟩:=ih h
  obtain ⟨gs2,ts2,b1,b2,b3,b4⟩:=a2.push (g:=.no (t.putR (gs.map Gr.rw)).2) (t:=.no t) a3
  have key:(Tr.no t).putR (gs.map Gr.rw)=aP (gs1.map Gr.rw) (Gr.rw (.no (t.putR (gs.map Gr.rw)).2)):=by rw [<- a1];rfl
  rw [key]
  have up:∀ x∈t.post,x∈(Tr.no t).post:=λx z=>List.mem_append.mpr (.inl z)
  rcases b4 with ⟨m,rfl⟩ | rfl
  ·refine ⟨gs2,e,b1,b2,b3,λx z=>up x (a4 x z),λz=>?_⟩
   rcases List.mem_append.mp m with m | m
   ·exact absurd m z
   ·exact absurd (fW _ _ (a4 _ m)) (by show ¬t.size+1<=t.size;omega)
  ·refine ⟨gs2,e++[.no t],b1,by rw [<- List.append_assoc];exact b2,by rw [<- List.append_assoc];exact b3,λx z=>?_,λ_=>⟨e,rfl⟩⟩
   rcases List.mem_append.mp z with z | z
   ·exact up x (a4 x z)
   ·rw [List.mem_singleton.mp z];exact lU _
 | fold u a b iha ihb =>
  intro gs ts h
  obtain ⟨gs1,e,a1,a2,a3,a4,_⟩:=iha h
  obtain ⟨gs2,f,c1,c2,c3,c4,_⟩:=ihb a2
  have a3':=lg (e:=f) a3
  obtain ⟨gs3,ts3,b1,b2,b3,b4⟩:=c2.push (g:=.fold u (a.putR (gs.map Gr.rw)).2 (b.putR (gs1.map Gr.rw)).2) (t:=.fold u a b) ⟨rfl,a3',c3⟩
  have key:(Tr.fold u a b).putR (gs.map Gr.rw)=aP (gs2.map Gr.rw) (Gr.rw (.fold u (a.putR (gs.map Gr.rw)).2 (b.putR (gs1.map Gr.rw)).2)):=by
   show aP (b.putR (a.putR (gs.map Gr.rw)).1).1 (dU u.str [(a.putR (gs.map Gr.rw)).2,(b.putR (a.putR (gs.map Gr.rw)).1).2])=_
   rw [a1,c1]
   rfl
  rw [key]
  have ua:∀ x∈a.post,x∈(Tr.fold u a b).post:=λx z=>List.mem_append.mpr (.inl (List.mem_append.mpr (.inl z)))
  have ub:∀ x∈b.post,x∈(Tr.fold u a b).post:=λx z=>List.mem_append.mpr (.inl (List.mem_append.mpr (.inr z)))
  have sz:∀ x∈e++f,x.size<=a.size+b.size/\x∈(Tr.fold u a b).post:=λx z=>by
   rcases List.mem_append.mp z with z | z
   ·exact ⟨Nat.le_trans (fW _ _ (a4 x z)) (Nat.le_add_right _ _),ua x (a4 x z)⟩
   ·exact ⟨Nat.le_trans (fW _ _ (c4 x z)) (Nat.le_add_left _ _),ub x (c4 x z)⟩
  rw [List.append_assoc] at b4
  rcases b4 with ⟨m,rfl⟩ | rfl
  ·refine ⟨gs3,e++f,b1,b2,b3,λx z=>(sz x z).2,λz=>?_⟩
   rcases List.mem_append.mp m with m | m
   ·exact absurd m z
   ·exact absurd (sz _ m).1 (by show ¬a.size+b.size+1<=a.size+b.size;omega)
  ·refine ⟨gs3,e++f++[.fold u a b],b1,by rw [<- List.append_assoc];exact b2,by rw [<- List.append_assoc];exact b3,λx z=>?_,λ_=>⟨e++f,rfl⟩⟩
   rcases List.mem_append.mp z with z | z
   ·exact (sz x z).2
   ·rw [List.mem_singleton.mp z];exact lU _
theorem AZ (t:Tr):∃ gs ts,t.rows=gs.map Gr.rw/\Tab gs (ts++[t])/\(∀ x∈ts++[t],x∈t.post)/\gs.length<=t.size:=by
 obtain ⟨gs,e,a1,a2,a3,a4,a5⟩:=Bn t (gs:=[]) (ts:=[]) .nil
 obtain ⟨e',rfl⟩:=a5 (λz=>nomatch z)
 have hl:=hX t []
 rw [show (t.putR []).1=gs.map Gr.rw from a1,List.length_map] at hl
 exact ⟨gs,e',a1,by simpa using a2,a4,by simpa using hl⟩
end Mine
namespace L2
open PySem PySem.Spec PyProof.Rows
variable {X:Cx}
theorem pe_bm0K {K:PySem.W.Frag} {T id:String} {name:Str} {r:V->List V->Hp->VK->Prop} {o:Expr} {to:TE} {apos cpos:Pos} (eK:X.K=K) (pa:PlainAttrs T) (slot:Slot T name id) (hty:typeOf (.builtin id)=pure (.type "method_descriptor")) (hm:MtR X id r) (ho:PE X o to)
  (hbase:attributeBase o name X.env (eval o X.env)=eval o X.env:=by rfl) (hline:(apos.endLine == cpos.line)=true:=by rfl):PE X (.Call (.Attribute o name apos) [] [] cpos) (tBM0 K T r to):=eK ▸ lW pa slot hty hm ho hbase hline
noncomputable def bN (X:Cx) (xs:List Str) (js:List Nat):List Str:=xs++js.map λj=>X.N.getD j ""
section
variable {X:Cx} {pins:List (Addr×Obj)} {σ:St} {H:Hp} {s:Shared} {scope:Scope} {cl:List (Str×Addr)} {xs:List Str} {js:List Nat} {fp:List Addr} {N:List Str}
theorem Dd (I:Inv X pins σ H s) (hk:scope.kind=.function) (hcell:∀ y∈scope.names,y.2≠.cell)
  (hcl1:∀ y c,cl.lookup y=some c->X.env.cells.lookup y=some c) (hcl2:∀ y,(y,NameKind.free)∈scope.names->∃ c,cl.lookup y=some c)
  (hf:∀ b∈fp,ic X pins H b) (hlt:∀ b∈fp,b < s.heap.objs.size):(bc X scope cl N s H fp).Ok where
 mod:=I.ok.mod
 kind:=hk
 glob:=I.ok.glob
 blt:=I.ok.blt
 above:=Nat.le_refl _
 inj:=λy z c h1 h2=>I.ok.inj y z c (hcl1 y c h1) (hcl1 z c h2)
 has:=λy hy=>by
  have hy':(relabel scope X.env).names.lookup y=some .cell\/(relabel scope X.env).names.lookup y=some .free:=hy
  rcases hy' with h | h
  ·obtain ⟨k',m,q⟩:=cL h
   rcases q with q | ⟨_,q⟩
   ·exact absurd q (hcell _ m)
   ·subst q;exact hcl2 y m
  ·obtain ⟨k',m,q⟩:=cL h
   rcases q with q | ⟨q,_⟩
   ·subst q;exact hcl2 y m
   ·cases q
 cab:=λy c h _=>by cases h
 hd:=I.ok.hd
 frames:=I.ok.frames
 stk:=.inl rfl
 exf:=λb hb=>⟨Nat.ne_of_lt (hlt b hb),λy c h=>(hf b hb).2.2.2.2.1 y c (hcl1 y c h)⟩
 bs:=I.bs
 bsz:=Nat.le_trans I.ok.bsz I.sz
 noex:=λb o e hb=>by
  rcases (hf b hb).2.2.2.1 with z | z
  ·exact I.ok.noex b o e z
  ·exact absurd (Nat.lt_of_lt_of_le (Heap.lt_size e) (Nat.le_trans I.ok.bsz z)) (Nat.lt_irrefl _)
 exfs:=λb hb hz=>(List.mem_cons.mp (I.stkSub b hz)).elim (hf b hb).2.1 (hf b hb).2.2.1
 funs:=I.stack
 frf:=I.stkFree
theorem uN {h₁:Heap} {tk:Nat} (I:Inv X pins σ H s) (hk:scope.kind=.function) (hcell:∀ y∈scope.names,y.2≠.cell)
  (hcl1:∀ y c,cl.lookup y=some c->X.env.cells.lookup y=some c) (hcl2:∀ y,(y,NameKind.free)∈scope.names->∃ c,cl.lookup y=some c) (hjs:eS X scope js)
  (hf:∀ b∈fp,ic X pins H b) (hlt:∀ b∈fp,b < s.heap.objs.size) {m:Str->Option Value} (hn:h₁.Ns s.heap.objs.size m) (hkeep:∀ b o,s.heap.get? b=some o->h₁.get? b=some o) :
  Inv (bc X scope cl (bN X xs js) s H fp) [] (List.replicate xs.length none++cw js σ) H {s with heap:=h₁,toks:=tk} where
 ok:=Dd I hk hcell hcl1 hcl2 hf hlt
 os:=rfl
 bare:=I.bare
 base:=Un.kept hkeep
 loc:=by
  refine ⟨m,hn,λi y v h1 h2 h3=>?_⟩
  by_cases hik:i < xs.length
  ·rw [List.getElem?_append_left (by simpa using hik),List.getElem?_replicate_of_lt hik] at h2
   cases h2
  ·generalize hkk:i - xs.length=k
   have h1':(js.map λj=>X.N.getD j "")[k]?=some y:=by
    have q:(xs++js.map λj=>X.N.getD j "")[i]?=some y:=h1
    rw [List.getElem?_append_right (by omega),hkk] at q
    exact q
   have h2':(js.map λj=>(σ[j]?).getD none)[k]?=some (some v):=by
    rw [List.getElem?_append_right (by simp;omega),List.length_replicate,hkk] at h2
    exact h2
   rw [List.getElem?_map] at h1' h2'
   cases hj:js[k]? with
   | none=>rw [hj] at h1';cases h1'
   | some j =>
    rw [hj] at h1' h2'
    have e1:X.N.getD j ""=y:=Option.some.inj h1'
    have e2:(σ[j]?).getD none=some v:=Option.some.inj h2'
    obtain ⟨y',n1,n2,n3,n4⟩:=hjs.all j (List.mem_of_getElem? hj)
    have e3:y'=y:=by rw [<- e1,List.getD_eq_getElem?_getD,n1];rfl
    subst e3
    have e4:σ[j]?=some (some v):=by
     cases q:σ[j]? with
     | none=>rw [q] at e2;cases e2
     | some a=>rw [q] at e2;exact congrArg some e2
    obtain ⟨m0,_,hl⟩:=I.loc
    obtain ⟨u,r,l⟩:=hl j y' v n1 e4 (n2.elim (λz=>Or.inr (Or.inl z)) λz=>Or.inr (Or.inr z))
    refine ⟨u,r,.inr ⟨n4,?_⟩⟩
    rcases l with ⟨l,_⟩ | ⟨_,c,hc,hi⟩
    ·exfalso
     rcases n2 with z | z <;> (rw [z] at l;cases l)
    ·obtain ⟨c',hc'⟩:=hcl2 y' n3
     have e5:=hcl1 y' c' hc'
     rw [hc] at e5
     have e6:=Option.some.inj e5
     subst e6
     obtain ⟨o,ho,hd⟩:=hi
     exact ⟨c,hc',o,hkeep c o ho,hd⟩
 cell:=λy c h=>by
  obtain ⟨v,o,ho,hd⟩:=I.cell y c (hcl1 y c h)
  exact ⟨v,o,hkeep c o ho,hd⟩
 free:=I.hok.fresh (Nat.le_refl _)
 freeC:=λy c h=>I.freeC y c (hcl1 y c h)
 pin:=λp hp=>absurd (show p∈([]:List (Addr×Obj)) from hp) (by simp)
 hok:=I.hok.kept hkeep
 len:=by
  show (List.replicate xs.length none++cw js σ).length=(bN X xs js).length
  simp [cw,bN]
end
noncomputable def iK (n:Nat) (wi:TI) (g:TG) (te:TE) (js:List Nat):TE:=fun σ H Q=>wi σ H λJ H1=>∀ D,H1 D=none->
 ∃ W:Nat->Nat->Hp->Prop,(∃ m,W 0 m (upd H1 D (.lst [])))/\∀ i m H2,W i m H2->(J.stop i H2/\Q (.ref D) H2)\/
  (J.go i H2/\∀ o:St,o.length=n->∀ v H3,J.yld i H2 v H3->g v (o++cw js σ) H3 fun σ4 H4=>∃ o',o'.length=n/\σ4=o'++cw js σ/\te (o'++cw js σ) H4 λy H5 =>
   ∃ ys,H5 D=some (.lst ys)/\ys.length < sizeLine/\∃ m',m' < m/\W (i+1) m' (upd H5 D (.lst (ys++[y]))))
section
variable {X:Cx} {elt iter:Expr} {xs:List Str} {elts:List Expr} {kk:Nat} {tp pos:Pos} {scope:Scope} {cl:List (Str×Addr)} {wi:TI} {g:TG} {te:TE} {js:List Nat}
theorem pC {use:Option (Value->Sem Unit)} {Qv:Value->Shared->Prop} {pins:List (Addr×Obj)} {s:Shared} {σ:St} {H:Hp} {Q:VK}
  (hc:X.calm=true) (hi:PI X (.Tuple elts kk tp) iter wi) (hk:scope.kind=.function) (hcell:∀ y∈scope.names,y.2≠.cell)
  (hcl1:∀ y c,cl.lookup y=some c->X.env.cells.lookup y=some c) (hcl2:∀ y,(y,NameKind.free)∈scope.names->∃ c,cl.lookup y=some c) (hjs:eS X scope js) (hnd:(bN X xs js).Nodup)
  (hg:∀ s' H' fp,PG (bc X scope cl (bN X xs js) s' H' fp) (.Tuple elts kk tp) g) (he:∀ s' H' fp,PE (bc X scope cl (bN X xs js) s' H' fp) elt te)
  (I:Inv X pins σ H s) (h:iK xs.length wi g te js σ H Q)
  (fin:∀(D C:Addr) (H':Hp) (s':Shared),Inv X pins σ H' s'->ic X pins H' C->(∃ m,s'.heap.Ns C m)->Q (.ref D) H'->compPost (model X.prog X.w) X.A X.xe use Qv (.ref D) C (.ok .next) s') :
  wpAny (model X.prog X.w) X.A (eval iter X.env) (λxv s₁=>wpAny (model X.prog X.w) X.A (pyIter xv) (λit s₂=>wpAny (model X.prog X.w) X.A (newList []) (λacc s₃ =>
   wpAny (model X.prog X.w) X.A (newFunctionEnv scope X.env.globals cl [] X.env.qual none .none (some X.env)) (λcenv s₄ =>
    codeAny (model X.prog X.w) X.A (.compStart (.ListComp elt [⟨.Tuple elts kk tp,iter,[],0⟩] scope pos) 0 it acc {cenv with scope:=relabel scope X.env})
     (compPost (model X.prog X.w) X.A X.xe use Qv acc cenv.locals) s₄) X.xe s₃) X.xe s₂) X.xe s₁) X.xe s:=by
 refine thn (hi pins s σ H _ I h) λv s1 h1=>thn h1 λitv s2 h2=>?_
 obtain ⟨it,fp,tn,J,H2,e,I2,T,st2,f2,hW⟩:=h2
 subst e
 obtain ⟨W,⟨m0,w0⟩,turn⟩:=hW s2.heap.objs.size (I2.hok.fresh (Nat.le_refl _))
 have hlt2:∀ b∈fp,b < s2.heap.objs.size:=λb hb=>let ⟨_,e,_⟩:=T.obj _ _ st2 b hb;Heap.lt_size e
 have I3:Inv X pins σ (upd H2 s2.heap.objs.size (.lst [])) {s2 with heap:=s2.heap.push {cls:=.type "list",data:=.seq ([]:List Value).toArray} } :=
  I2.lnew (t':=s2.toks) (its:=[]) .nil (Nat.zero_le _)
 refine wpAny_newObj_type ?_
 have k23:∀ b o,s2.heap.get? b=some o->(s2.heap.push {cls:=.type "list",data:=.seq ([]:List Value).toArray}).get? b=some o:=λb o e=>Heap.get?_push_of_some _ e
 have sz3:(s2.heap.push {cls:=.type "list",data:=.seq ([]:List Value).toArray}).objs.size=s2.heap.objs.size+1:=Heap.size_push ..
 generalize hs3:({s2 with heap:=s2.heap.push {cls:=.type "list",data:=.seq ([]:List Value).toArray} }:Shared)=s3 at I3
 have hs3':s3.heap=s2.heap.push {cls:=.type "list",data:=.seq ([]:List Value).toArray}:=by rw [<- hs3]
 have hlt3:∀ b∈fp,b < s3.heap.objs.size:=λb hb=>by rw [hs3',sz3];exact Nat.lt_succ_of_lt (hlt2 b hb)
 have f3:∀ b∈fp,ic X pins (upd H2 s2.heap.objs.size (.lst [])) b:=λb hb=>⟨by rw [au (Nat.ne_of_lt (hlt2 b hb))];exact (f2 b hb).1,(f2 b hb).2⟩
 refine wpAny_newFunctionEnv hcell (by intro y hy;simp at hy) (λh₁ hns hsb=>?_) hk
 have k34:∀ b o,s3.heap.get? b=some o->h₁.get? b=some o:=λb o e=>hsb.extBut b o (Nat.ne_of_lt (Heap.lt_size e)) (Heap.get?_push_of_some _ e)
 have I4:=uN (xs:=xs) (js:=js) (tk:=s3.toks+([]:List (Str×Value)).length) I3 hk hcell hcl1 hcl2 hjs f3 hlt3 hns k34
 have st4:tn 0 h₁:=T.keep 0 _ _ st2 λb hb o e=>k34 b o (by rw [hs3'];exact k23 b o e)
 have stat:∀{H':Hp},(∀ b∈fp,H' b=none)->∀ b∈fp,ic (bc X scope cl (bN X xs js) s3 (upd H2 s2.heap.objs.size (.lst [])) fp) [] H' b:=λhn b hb =>
  ⟨hn b hb,Nat.ne_of_lt (hlt3 b hb),λhz=>(List.mem_cons.mp (I3.stkSub b hz)).elim (f2 b hb).2.1 (f2 b hb).2.2.1,.inl hb,λy c q=>(f2 b hb).2.2.2.2.1 y c (hcl1 y c q),λp hp=>absurd (show p∈([]:List (Addr×Obj)) from hp) (by simp)⟩
 have back:∀{σ':St} {H':Hp} {s':Shared},Inv (bc X scope cl (bN X xs js) s3 (upd H2 s2.heap.objs.size (.lst [])) fp) [] σ' H' s'->Inv X pins σ H' s':=λ{σ' H' s'} J' =>
  I3.call' (ch:=fp) J'.os J'.base J'.hok J'.bare λb hb=>⟨(f2 b hb).2.2.2.1,(f2 b hb).2.1,(f2 b hb).2.2.2.2.1,(f2 b hb).2.2.2.2.2⟩
 have loop:codeAny (model X.prog X.w) X.A (.compLoop (.ListComp elt [⟨.Tuple elts kk tp,iter,[],0⟩] scope pos) 0 (.ref it) (.ref s2.heap.objs.size) (compEnvC scope cl s3.heap.objs.size X.env))
   (compPost (model X.prog X.w) X.A X.xe use Qv (.ref s2.heap.objs.size) s3.heap.objs.size) {s3 with heap:=h₁,toks:=s3.toks+([]:List (Str×Value)).length}:=by
  refine PyProof.Rows.LCp.codeAny_compLoop_pair (λn s'=>∃(i:Nat) (o:St) (H':Hp),o.length=xs.length/\Inv (bc X scope cl (bN X xs js) s3 (upd H2 s2.heap.objs.size (.lst [])) fp) [] (o++cw js σ) H' s'/\tn i s'.heap/\(∀ b∈fp,H' b=none)/\W i n H') ?_ m0
   ⟨0,_,_,List.length_replicate,I4,st4,λb hb=>(f3 b hb).1,w0⟩
  rintro n s5 ⟨i,o,H5,ho,I5,st5,fr5,w5⟩
  rcases turn i n H5 w5 with ⟨stop,q⟩ | ⟨go,step⟩
  ·refine thn (T.done (bc X scope cl (bN X xs js) s3 (upd H2 s2.heap.objs.size (.lst [])) fp) rfl rfl rfl hc i [] s5 _ H5 _ I5 (stat fr5) st5 stop) λr s6 zz=>?_
   obtain ⟨hr,I6⟩:=zz
   subst hr
   exact fin _ _ H5 s6 (back I6) (I3.fpOk (Nat.le_refl _) I6.free) (let ⟨m,hm,_⟩:=I6.loc;⟨m,hm⟩) q
  ·refine thn (T.item (bc X scope cl (bN X xs js) s3 (upd H2 s2.heap.objs.size (.lst [])) fp) rfl rfl rfl hc i [] s5 _ H5 _ I5 (stat fr5) st5 go) λr s6 zz=>?_
   obtain ⟨u,hr,h6⟩:=zz
   subst hr
   refine wpAny_mono h6 (λ_ s6' q6=>?_) (λ_ _ f=>f)
   obtain ⟨v,H6,I6,r6,y6,st6,fr6⟩:=q6
   have I6':=I6.pinned (stat fr6) (T.obj _ _ st6)
   refine wpAny_mono (hg s3 _ fp _ s6' _ H6 v u _ I6' r6 (step o ho v H6 y6)) (λ_ s7 q7=>?_) (λ_ _ f=>False.elim f)
   obtain ⟨σ7,H7,I7,o7,ho7,e7,q7⟩:=q7
   subst e7
   refine wpAny_mono (he s3 _ fp _ s7 _ H7 _ I7 q7) (λy s9 q9=>?_) (λ_ _ f=>False.elim f)
   obtain ⟨yv,H9,I9,r9,ys,hD,hl,m',hm,w9⟩:=q9
   refine wpAny_mono (bh (X:=bc X scope cl (bN X xs js) s3 (upd H2 s2.heap.objs.size (.lst [])) fp) _ s9 _ H9 (.ref s2.heap.objs.size) [yv] (.ref s2.heap.objs.size) [y] (λ_ H'=>H'=upd H9 s2.heap.objs.size (.lst (ys++[yv]))) I9 rfl (.cons r9 .nil) ⟨_,ys,yv,rfl,rfl,hD,hl,rfl⟩) (λ_ s10 q10=>?_) (λ_ _ f=>False.elim f)
   obtain ⟨_,H10,I10,_,e10⟩:=q10
   subst e10
   refine ⟨m',hm,i+1,o7,_,ho7,I10.unpinned,T.keep _ _ _ st6 λb hb o e=>(I10.pin (b,o) (List.mem_append_right _ (List.mem_append_right _ (fe hb e)))).1,λb hb=>?_,w9⟩
   obtain ⟨o,e,d⟩:=T.obj _ _ st6 b hb
   exact (I10.pin (b,o) (List.mem_append_right _ (List.mem_append_right _ (fe hb e)))).2.1
 exact codeAny_compStart_list loop (T.self _ 0 _ _ _ st4 loop)
theorem By (hc:X.calm=true) (hi:PI X (.Tuple elts kk tp) iter wi) (hk:scope.kind=.function) (hcell:∀ y∈scope.names,y.2≠.cell) (hnames:∀ y∈scope.names,y.2=.local->scope.names.lookup y.1=some .local)
  (hclos:closureFor scope X.env=pure cl) (hcl1:∀ y c,cl.lookup y=some c->X.env.cells.lookup y=some c) (hcl2:∀ y,(y,NameKind.free)∈scope.names->∃ c,cl.lookup y=some c) (hjs:eS X scope js) (hnd:(bN X xs js).Nodup)
  (hg:∀ s' H' fp,PG (bc X scope cl (bN X xs js) s' H' fp) (.Tuple elts kk tp) g) (he:∀ s' H' fp,PE (bc X scope cl (bN X xs js) s' H' fp) elt te)
  (hs:∀ x,foldedSetIterable iter X.env x=pure x:=by intro _;rfl):PE X (.ListComp elt [⟨.Tuple elts kk tp,iter,[],0⟩] scope pos) (iK xs.length wi g te js):=by
 intro pins s σ H Q I h
 rw [eval_ListComp]
 refine wpAny_comprehension_free (use:=none) rfl hs hclos hk hnames (pC hc hi hk hcell hcl1 hcl2 hjs hnd hg he I h λD C H' s' I' fC hC q=>?_)
 obtain ⟨m,hm⟩:=hC
 refine ⟨m,hm,λh' sb=>?_⟩
 obtain ⟨f0,f1,f2,f3,f4,f5⟩:=fC
 exact ⟨.ref D,H',I'.turned (t':=s'.toks) (λb o hb e=>(sb.2 b hb).trans e) f0 f1 f3 f4 f5,rfl,q⟩
theorem jm (hc:X.calm=true) (hi:PI X (.Tuple elts kk tp) iter wi) (hk:scope.kind=.function) (hcell:∀ y∈scope.names,y.2≠.cell) (hnames:∀ y∈scope.names,y.2=.local->scope.names.lookup y.1=some .local)
  (hf:∀ p∈scope.names,p.2=.free->X.env.kindOf p.1=some .cell\/X.env.kindOf p.1=some .free) (hjs:eS X scope js) (hnd:(bN X xs js).Nodup)
  (hg:∀ cl s' H' fp,PG (bc X scope cl (bN X xs js) s' H' fp) (.Tuple elts kk tp) g) (he:∀ cl s' H' fp,PE (bc X scope cl (bN X xs js) s' H' fp) elt te)
  (hs:∀ x,foldedSetIterable iter X.env x=pure x:=by intro _;rfl):PE X (.ListComp elt [⟨.Tuple elts kk tp,iter,[],0⟩] scope pos) (iK xs.length wi g te js):=by
 intro pins s σ H Q I h
 obtain ⟨cl,e,p1,p2⟩:=sA (nO (js:=js) I λy hy=>hf (y,.free) hy rfl)
 exact By hc hi hk hcell hnames e p1 p2 hjs hnd (hg cl) (he cl) hs pins s σ H Q I h
end
open PySem.AutoSeq1
theorem eW {h h':Heap} {it t:Addr} {i:Nat} (z:h.IsTupleIter it t i) (k:∀ o,h.get? it=some o->h'.get? it=some o):h'.IsTupleIter it t i:=let ⟨o,e,r⟩:=z;⟨o,k o e,r⟩
theorem gN {h h':Heap} {t:Addr} {ys:Array Value} (z:h.IsTuple t ys) (k:∀ o,h.get? t=some o->h'.get? t=some o):h'.IsTuple t ys:=let ⟨o,e,r⟩:=z;⟨o,k o e,r⟩
section
variable {prog:Program} {w:World} {A:Around} {E:Value->Shared->Prop} {s:Shared}
theorem yt {z TI TO i1 i2 l1 l2:Addr} {k1 k2:Nat} {xs ys:Array Value} {x y a b:Value} {Q:Value->Shared->Prop} (D:ZipApart z TI TO i1 i2 l1 l2)
  (gz:IsZip s.heap z TI TO .none) (gI:IsPair s.heap TI (.ref i1) (.ref i2)) (gO:IsPair s.heap TO a b) (t1:s.heap.IsTupleIter i1 l1 k1) (t2:s.heap.IsTupleIter i2 l2 k2) (p1:s.heap.IsTuple l1 xs) (p2:s.heap.IsTuple l2 ys) (ex:xs[k1]?=some x) (ey:ys[k2]?=some y)
  (k:∀ h',IsZip h' z TI TO (rawInt s.heap.objs.size)->IsPair h' TO x y->h'.IsTupleIter i1 l1 (k1+1)->h'.IsTupleIter i2 l2 (k2+1)->IsPair h' s.heap.objs.size x y->(∀ c o,c≠z->c≠TO->c≠i1->c≠i2->s.heap.get? c=some o->h'.get? c=some o)->Q (.ref s.heap.objs.size) {s with heap:=h' }) :
  wpAny (model prog w) A (Builtin.«zip.__next__» ⟨[.ref z],[]⟩) (λfin s'=>∃ v,fin=.done (.ret v)/\Q v s') E s:=by
 show wpAny _ _ (field (.ref z) 2 >>= _) _ _ _;refine wpAny_bind (wpAny_field gz rfl (x:=.bool false) rfl ?_)
 show wpAny _ _ (field (.ref z) 3 >>= _) _ _ _;refine wpAny_bind (wpAny_field gz rfl (x:=.ref TI) rfl ?_)
 refine wpAny_bind (wpAny_seqItems gI rfl ?_);show wpAny _ _ (Builtin.SmallTypes.ownedTupleIsFree (.ref z) >>= _) _ _ _
 refine wpAny_bind ?_;unfold Builtin.SmallTypes.ownedTupleIsFree;refine wpAny_bind (wpAny_field gz rfl (x:=.none) rfl (wpAny_pure ?_))
 simp only [if_true];refine wpAny_bind (wpAny_rule ?_);refine wpAny_bind (wpAny_field gz rfl (x:=.ref TO) rfl ?_)
 refine wpAny_bind (wpAny_setField_rec gz (by simp) λm1 gz1 b1=>?_)
 replace gz1:IsZip m1 z TI TO .ellipsis:=gz1
 refine wpAny_bind ?_;simp only [List.zipIdx_cons,List.zipIdx_nil,List.forIn_cons,List.forIn_nil];refine wpAny_bind (wpAny_bind (wpAny_onRaise ?_))
 show wpAny _ _ (Builtin.SmallTypes.nextOf (.ref i1) >>= _) _ _ _;refine wpAny_bind (oS (eW t1 λo e=>b1.extBut _ _ D.i1z e) (gN p1 λo e=>b1.extBut _ _ D.l1z e) ex λm2 u2 b2=>wpAny_pure ?_)
 have gO2:IsPair m2 TO a b:=b2.extBut _ _ D.TOi1 (b1.extBut _ _ D.TOz gO)
 refine wpAny_bind (wpAny_seqItems gO2 rfl ?_);refine wpAny_bind (wpAny_updateSeq_pair gO2 λm3 gO3 b3=>?_)
 replace gO3:IsPair m3 TO x b:=gO3
 refine wpAny_bind (wpAny_letGo (wpAny_pure ?_));refine wpAny_bind (wpAny_bind (wpAny_onRaise ?_));show wpAny _ _ (Builtin.SmallTypes.nextOf (.ref i2) >>= _) _ _ _
 have e3:∀ c o,c≠z->c≠TO->c≠i1->s.heap.get? c=some o->m3.get? c=some o:=λc o n1 n2 n3 e=>b3.extBut _ _ n2 (b2.extBut _ _ n3 (b1.extBut _ _ n1 e))
 refine wpAny_bind (oS (eW t2 λo e=>e3 _ o D.i2z D.TOi2.symm D.i12.symm e) (gN p2 λo e=>e3 _ o D.l2z D.l2TO D.l2i1 e) ey λm4 u4 b4=>wpAny_pure ?_)
 have gO4:IsPair m4 TO x b:=b4.extBut _ _ D.TOi2 gO3
 refine wpAny_bind (wpAny_seqItems gO4 rfl ?_);refine wpAny_bind (wpAny_updateSeq_pair gO4 λm5 gO5 b5=>?_)
 replace gO5:IsPair m5 TO x y:=gO5
 refine wpAny_bind (wpAny_letGo (wpAny_pure (wpAny_pure ?_)));refine wpAny_bind (wpAny_seqItems gO5 rfl ?_);refine wpAny_bind (wpAny_newTuple ?_)
 have sz5:m5.objs.size=s.heap.objs.size:=by rw [b5.1,b4.1,b3.1,b2.1,b1.1]
 have e5:∀ c o,c≠TO->c≠i2->m3.get? c=some o->m5.get? c=some o:=λc o n1 n2 e=>b5.extBut _ _ n1 (b4.extBut _ _ n2 e)
 have gz5:IsZip m5 z TI TO .ellipsis:=e5 _ _ D.TOz.symm D.i2z.symm (b3.extBut _ _ D.TOz.symm (b2.extBut _ _ D.i1z.symm gz1))
 have u5:m5.IsTupleIter i1 l1 (k1+1):=eW u2 λo e=>e5 _ o D.TOi1.symm D.i12 (b3.extBut _ _ D.TOi1.symm e)
 have v5:m5.IsTupleIter i2 l2 (k2+1):=eW u4 λo e=>b5.extBut _ _ D.TOi2.symm e
 have zl:z < m5.objs.size:=Heap.lt_size gz5
 show wpAny _ _ (Builtin.SmallTypes.ownedTupleHandOut (.ref z) (.ref m5.objs.size) >>= _) _ _ _;refine wpAny_bind ?_;unfold Builtin.SmallTypes.ownedTupleHandOut
 have gz6:IsZip (m5.push {cls:=.type "tuple",data:=.seq #[x,y] }) z TI TO .ellipsis:=Heap.get?_push_of_some _ gz5
 refine wpAny_bind (wpAny_setField_rec gz6 (by simp) λm7 gz7 b7=>?_)
 replace gz7:IsZip m7 z TI TO (rawInt m5.objs.size):=gz7
 refine wpAny_setField_rec gz7 (by simp) λm8 gz8 b8=>?_
 replace gz8:IsZip m8 z TI TO (rawInt m5.objs.size):=gz8
 have e8:∀ c o,c≠z->m5.get? c=some o->m8.get? c=some o:=λc o n1 e=>b8.extBut _ _ n1 (b7.extBut _ _ n1 (Heap.get?_push_of_some _ e))
 have gT:IsPair m8 m5.objs.size x y:=b8.extBut _ _ (Nat.ne_of_gt zl) (b7.extBut _ _ (Nat.ne_of_gt zl) (Heap.get?_push_size _ rfl))
 rw [sz5] at gz8 gT
 refine wpAny_pure ⟨_,rfl,?_⟩;show Q (.ref m5.objs.size) _;rw [sz5]
 exact k m8 gz8 (e8 _ _ D.TOz gO5) (eW u5 λo e=>e8 _ o D.i1z e) (eW v5 λo e=>e8 _ o D.i2z e) gT λc o n1 n2 n3 n4 e=>e8 c o n1 (e5 c o n2 n4 (e3 c o n1 n2 n3 e))
theorem sL {z TI TO i1 i2 l1 l2:Addr} {k1:Nat} {xs:Array Value} {a b:Value} {Q:Fin->Shared->Prop} (hd:A.handled=none) (D:ZipApart z TI TO i1 i2 l1 l2)
  (gz:IsZip s.heap z TI TO .none) (gI:IsPair s.heap TI (.ref i1) (.ref i2)) (gO:IsPair s.heap TO a b) (t1:s.heap.IsTupleIter i1 l1 k1) (p1:s.heap.IsTuple l1 xs) (ex:xs[k1]?=none)
  (k:∀ h' e,(∀ c o,c≠z->c≠TO->c≠i1->c≠i2->s.heap.get? c=some o->h'.get? c=some o)->(∃ o,h'.get? e=some o/\o.cls=.type "StopIteration")->E (.ref e) {s with heap:=h' }) :
  wpAny (model prog w) A (Builtin.«zip.__next__» ⟨[.ref z],[]⟩) Q E s:=by
 show wpAny _ _ (field (.ref z) 2 >>= _) _ _ _;refine wpAny_bind (wpAny_field gz rfl (x:=.bool false) rfl ?_)
 show wpAny _ _ (field (.ref z) 3 >>= _) _ _ _;refine wpAny_bind (wpAny_field gz rfl (x:=.ref TI) rfl ?_)
 refine wpAny_bind (wpAny_seqItems gI rfl ?_);show wpAny _ _ (Builtin.SmallTypes.ownedTupleIsFree (.ref z) >>= _) _ _ _
 refine wpAny_bind ?_;unfold Builtin.SmallTypes.ownedTupleIsFree;refine wpAny_bind (wpAny_field gz rfl (x:=.none) rfl (wpAny_pure ?_))
 simp only [if_true];refine wpAny_bind (wpAny_rule ?_);refine wpAny_bind (wpAny_field gz rfl (x:=.ref TO) rfl ?_)
 refine wpAny_bind (wpAny_setField_rec gz (by simp) λm1 gz1 b1=>?_)
 replace gz1:IsZip m1 z TI TO .ellipsis:=gz1
 refine wpAny_bind ?_;simp only [List.zipIdx_cons,List.zipIdx_nil,List.forIn_cons,List.forIn_nil];refine wpAny_bind (wpAny_bind (wpAny_onRaise ?_))
 show wpAny _ _ (Builtin.SmallTypes.nextOf (.ref i1) >>= _) _ _ _;refine wpAny_bind (pP hd (eW t1 λo e=>b1.extBut _ _ D.i1z e) (gN p1 λo e=>b1.extBut _ _ D.l1z e) ex λm2 e b2 he=>?_)
 obtain ⟨oe,ge,ce⟩:=he
 have gz2:IsZip m2 z TI TO .ellipsis:=b2 _ _ D.i1z.symm gz1
 have ne:e≠z:=λq=>by subst q;rw [gz2] at ge;cases ge;simp at ce
 refine wpAny_setField_rec gz2 (by simp) λm3 _ b3=>k m3 e (λc o n1 _ n3 _ q=>b3.extBut _ _ n1 (b2 _ _ n3 (b1.extBut _ _ n1 q))) ⟨oe,b3.extBut _ _ ne ge,ce⟩
theorem yw (hd:A.handled=none) (z TI TO i1 i2 l1 l2:Addr) (D:ZipApart z TI TO i1 i2 l1 l2) (xs ys:Array Value) (hle:xs.size<=ys.size) :
  WalksT prog w A z [z,TI,TO,i1,i2,l1,l2] [z,TO,i1,i2] xs.size (λi vals=>∃ x y,xs[i]?=some x/\ys[i]?=some y/\vals=#[x,y])
   (λi h=>IsZip h z TI TO .none/\IsPair h TI (.ref i1) (.ref i2)/\(∃ a b,IsPair h TO a b)/\h.IsTupleIter i1 l1 i/\h.IsTupleIter i2 l2 i/\h.IsTuple l1 xs/\h.IsTuple l2 ys)
   (λi T h=>IsZip h z TI TO (rawInt T)/\IsPair h TI (.ref i1) (.ref i2)/\(∃ a b,IsPair h TO a b)/\h.IsTupleIter i1 l1 (i+1)/\h.IsTupleIter i2 l2 (i+1)/\h.IsTuple l1 xs/\h.IsTuple l2 ys/\T≠z/\T≠TO/\T≠i1/\T≠i2) where
 sub:=λc hc=>by
  simp only [List.mem_cons,List.not_mem_nil,or_false] at hc ⊢
  rcases hc with q | q | q | q <;> simp [q]
 frame:=λi h h' st kp=>by
  obtain ⟨q1,q2,⟨a,b,q3⟩,q4,q5,q6,q7⟩:=st
  exact ⟨kp z (by simp) _ q1,kp TI (by simp) _ q2,⟨a,b,kp TO (by simp) _ q3⟩,eW q4 λo e=>kp i1 (by simp) o e,eW q5 λo e=>kp i2 (by simp) o e,gN q6 λo e=>kp l1 (by simp) o e,gN q7 λo e=>kp l2 (by simp) o e⟩
 item:=λi s Q E hi st k=>by
  obtain ⟨q1,q2,⟨a,b,q3⟩,q4,q5,q6,q7⟩:=st
  have hx:xs[i]?=some xs[i]:=Array.getElem?_eq_getElem hi
  have hy:ys[i]?=some (ys[i]'(by omega)):=Array.getElem?_eq_getElem (by omega)
  have hT:s.TypeIs (.ref z) "zip":=⟨_,q1,rfl⟩
  have lt:∀{c o},s.heap.get? c=some o->s.heap.objs.size≠c:=λe=>Nat.ne_of_gt (Heap.lt_size e)
  unfold pyNext
  refine wpAny_bind (wpAny_attempt (wpAny_callSpecial?_slot (name:=Str.ofString "__next__") hT F.slot_zip_next (wpAny_call_entry F.slot_zip_next hT F.entry_zip_next (yt D q1 q2 q3 q4 q5 q6 q7 hx hy λh' a1 a2 a3 a4 a5 kp=>wpAny_pure ?_) (F.args_zip_next_1 _))))
  exact k s.heap.objs.size #[xs[i],ys[i]'(by omega)] h' s.toks ⟨_,_,hx,hy,rfl⟩ (Nat.le_refl _) ⟨_,a5,rfl,_,rfl⟩
   ⟨a1,kp _ _ D.TIz D.TITO D.TIi1 D.TIi2 q2,⟨_,_,a2⟩,a3,a4,gN q6 λo e=>kp _ o D.l1z D.l1TO D.l1i1 D.l1i2 e,gN q7 λo e=>kp _ o D.l2z D.l2TO D.l2i1 D.l2i2 e,lt q1,lt q3,(by obtain ⟨_,e,_⟩:=q4;exact lt e),(by obtain ⟨_,e,_⟩:=q5;exact lt e)⟩
   λc o hc e=>kp c o (λq=>hc (by simp [q])) (λq=>hc (by simp [q])) (λq=>hc (by simp [q])) (λq=>hc (by simp [q])) e
 go:=λelts kk pos i T s Q E hm k=>by
  obtain ⟨q1,q2,⟨a,b,q3⟩,q4,q5,q6,q7,_⟩:=hm
  refine wpAny_letOwnedTupleGo_zip q1 λh' gz' b'=>k h' ⟨gz',b'.extBut _ _ D.TIz q2,⟨a,b,b'.extBut _ _ D.TOz q3⟩,eW q4 λo e=>b'.extBut _ _ D.i1z e,eW q5 λo e=>b'.extBut _ _ D.i2z e,gN q6 λo e=>b'.extBut _ _ D.l1z e,gN q7 λo e=>b'.extBut _ _ D.l2z e⟩ λc o hc e=>b'.extBut _ _ (λq=>hc (by simp [q])) e
 apart:=λi T h hm hT=>by
  obtain ⟨_,_,_,_,_,_,_,n1,n2,n3,n4⟩:=hm
  simp only [List.mem_cons,List.not_mem_nil,or_false] at hT
  rcases hT with q | q | q | q
  ·exact n1 q
  ·exact n2 q
  ·exact n3 q
  ·exact n4 q
 done:=λs Q E st k=>by
  obtain ⟨q1,q2,⟨a,b,q3⟩,q4,q5,q6,q7⟩:=st
  have hT:s.TypeIs (.ref z) "zip":=⟨_,q1,rfl⟩
  unfold pyNext
  refine wpAny_bind (wpAny_attempt (wpAny_callSpecial?_slot (name:=Str.ofString "__next__") hT F.slot_zip_next (wpAny_call_entry F.slot_zip_next hT F.entry_zip_next (sL hd D q1 q2 q3 q4 q6 (Array.getElem?_eq_none (Nat.le_refl _)) λh' e kp ge=>?_) (F.args_zip_next_1 _))))
  obtain ⟨o,ho,hc⟩:=ge
  refine wpAny_bind (wpAny_isInstance (T:="StopIteration") (b:=true) ⟨o,ho,hc⟩ isSubtype_stop ?_)
  exact wpAny_pure (k h' s.toks λc o hc e=>kp c o (λq=>hc (by simp [q])) (λq=>hc (by simp [q])) (λq=>hc (by simp [q])) (λq=>hc (by simp [q])) e)
 self:=λi s Q E st k=>wpAny_pyIter_zip st.1 k
end
noncomputable abbrev tz1 (h:Heap) (a:Addr):Heap:=h.push (vA a)
noncomputable abbrev tz2 (h:Heap) (a b:Addr):Heap:=(tz1 h a).push (vA b)
noncomputable abbrev tz3 (h:Heap) (a b:Addr):Heap:=(tz2 h a b).push {cls:=.type "tuple",data:=.seq #[.ref h.objs.size,.ref (tz1 h a).objs.size] }
noncomputable abbrev tz4 (h:Heap) (a b:Addr):Heap:=(tz3 h a b).push {cls:=.type "tuple",data:=.seq #[.none,.none] }
noncomputable abbrev tz5 (h:Heap) (a b:Addr):Heap:=(tz4 h a b).push {cls:=.type "zip",data:=.fields #[.none,.bool false,.bool false,.ref (tz2 h a b).objs.size,.ref (tz3 h a b).objs.size] }
theorem Ae (a b:Addr) (xs ys:Array Value):Meets (Builtin.«zip.__new__» ⟨[.type "zip",.ref a,.ref b],[]⟩) (λ_ R s=>s.heap.IsTuple a xs/\s.heap.IsTuple b ys/\R (.ok (.ret (.ref (tz4 s.heap a b).objs.size))) {s with heap:=tz5 s.heap a b}) :=
 .of_wp λprog w A R s h=>by
  obtain ⟨hp,g,d,tk,os⟩:=s;obtain ⟨q1,q2,h⟩:=h;have su:=sub_zip
  have t1:Heap.IsTuple (Shared.heap ⟨hp,g,d,tk,os⟩) a xs:=q1
  have t2:Heap.IsTuple (Shared.heap ⟨hp.push (vA a),g,d,tk,os⟩) b ys:=gN q2 λo e=>Heap.get?_push_of_some _ e
  wp_walk using wpAny_pyIter_tuple t1,wpAny_pyIter_tuple t2
  exact ⟨_,rfl,h⟩
theorem zJ {prog:Program} {w:World} {A:Around} {E:Value->Shared->Prop} {s:Shared} {a b:Addr} {xs ys:Array Value} {Q:Value->Shared->Prop} (q1:s.heap.IsTuple a xs) (q2:s.heap.IsTuple b ys)
  (k:∀ h',IsZip h' (s.heap.objs.size+4) (s.heap.objs.size+2) (s.heap.objs.size+3) .none->IsPair h' (s.heap.objs.size+2) (.ref s.heap.objs.size) (.ref (s.heap.objs.size+1))->IsPair h' (s.heap.objs.size+3) .none .none->
   h'.IsTupleIter s.heap.objs.size a 0->h'.IsTupleIter (s.heap.objs.size+1) b 0->(∀ c o,s.heap.get? c=some o->h'.get? c=some o)->Q (.ref (s.heap.objs.size+4)) {s with heap:=h' }):wpAny (model prog w) A (call (.type "zip") [.ref a,.ref b]) Q E s:=by
 refine callType_new F.called_zip (by decide) (F.typeCall_zip_2 _ _) (F.newCall_zip_2 _ _) (λobj=>F.args_object_init_3 obj _ _) F.entry_zip_new (Ae a b xs ys) ⟨q1,q2,?_⟩
 have z1:(tz1 s.heap a).objs.size=s.heap.objs.size+1:=Heap.size_push ..
 have z2:(tz2 s.heap a b).objs.size=s.heap.objs.size+2:=by rw [Heap.size_push,z1]
 have z3:(tz3 s.heap a b).objs.size=s.heap.objs.size+3:=by rw [Heap.size_push,z2]
 have z4:(tz4 s.heap a b).objs.size=s.heap.objs.size+4:=by rw [Heap.size_push,z3]
 have up:∀{h:Heap} {o:Obj} {c:Addr} {q:Obj},h.get? c=some q->(h.push o).get? c=some q:=λe=>Heap.get?_push_of_some _ e
 have g5:(tz5 s.heap a b).get? (tz4 s.heap a b).objs.size=some _:=Heap.get?_push_size _ rfl
 have g4:(tz5 s.heap a b).get? (tz3 s.heap a b).objs.size=some _:=up (Heap.get?_push_size _ rfl)
 have g3:(tz5 s.heap a b).get? (tz2 s.heap a b).objs.size=some _:=up (up (Heap.get?_push_size _ rfl))
 have g2:(tz5 s.heap a b).get? (tz1 s.heap a).objs.size=some _:=up (up (up (Heap.get?_push_size _ rfl)))
 have g1:(tz5 s.heap a b).get? s.heap.objs.size=some _:=up (up (up (up (Heap.get?_push_size _ rfl))))
 show _/\_
 rw [z2,z3,z4] at g5;rw [z1,z2] at g3;rw [z3] at g4;rw [z1] at g2;rw [z4]
 exact ⟨⟨_,g5,rfl⟩,k _ g5 g3 g4 ⟨_,g1,rfl,rfl⟩ ⟨_,g2,rfl,rfl⟩ λc o e=>up (up (up (up (up e))))⟩
noncomputable def srcZT (K:PySem.W.Frag) (a b:Addr):Nat->Hp->List V->Prop:=λi H vs=>∃ x y,vs=[x,y]/\(∀ xs,SqT K H a xs->xs[i]?=some x)/\∀ ys,SqT K H b ys->ys[i]?=some y
noncomputable def ItZT (K:PySem.W.Frag) (a b:Addr):It:=ItT (λi H=>∃ xs ys,SqT K H a xs/\SqT K H b ys/\i < xs.length/\xs.length<=ys.length) (srcZT K a b) λi H=>∃ xs ys,SqT K H a xs/\SqT K H b ys/\xs.length<=i/\xs.length<=ys.length
noncomputable def tnZT (a b z TI TO i1 i2:Addr) (i:Nat) (h:Heap):Prop:=IsZip h z TI TO .none/\IsPair h TI (.ref i1) (.ref i2)/\(∃ u v,IsPair h TO u v)/\h.IsTupleIter i1 a i/\h.IsTupleIter i2 b i
theorem iM {X:Cx} {pins:List (Addr×Obj)} {σ:St} {H:Hp} {s:Shared} {a b:Addr} {xs:List V} (I:Inv X pins σ H s) (h:SqT X.K H a xs) (f:ic X pins H b):a≠b:=by
 intro e
 subst e
 obtain ⟨f0,_,_,f3,_⟩:=f
 rcases h with (h | ⟨o,h⟩) | ⟨o,its,n,hk,_⟩
 ·rw [f0] at h;cases h
 ·rw [f0] at h;cases h
 ·have g:=I.ok.mod.kin a o hk
  rcases f3 with z | z
  ·exact I.ok.noex a o g z
  ·exact absurd (Nat.lt_of_lt_of_le (Heap.lt_size g) (Nat.le_trans I.ok.bsz z)) (Nat.lt_irrefl _)
theorem wW {X:Cx} {pins:List (Addr×Obj)} {σ:St} {H:Hp} {s:Shared} {a b z TI TO i1 i2:Addr} {xs ys:List V} (I:Inv X pins σ H s) (o:ZOwn z TI TO i1 i2) (hf:∀ c∈[z,TI,TO,i1,i2],ic X pins H c) (la:SqT X.K H a xs) (lb:SqT X.K H b ys):ZipApart z TI TO i1 i2 a b :=
 ⟨o.a1,o.a2,o.a3,o.a4,o.a5,o.a6,o.a7,o.a8,o.a9,o.a10,iM I la (hf z (by simp)),iM I la (hf TO (by simp)),iM I la (hf i1 (by simp)),iM I la (hf i2 (by simp)),iM I lb (hf z (by simp)),iM I lb (hf TO (by simp)),iM I lb (hf i1 (by simp)),iM I lb (hf i2 (by simp))⟩
theorem zobjT {h:Heap} {a b z TI TO i1 i2:Addr} {i:Nat} (st:tnZT a b z TI TO i1 i2 i h):∀ c∈[z,TI,TO,i1,i2],∃ o,h.get? c=some o/\∀ v,o.data≠.cell v:=by
 intro c hc
 obtain ⟨hz,hTI,⟨u,v,hTO⟩,⟨o1,g1,_,d1⟩,⟨o2,g2,_,d2⟩⟩:=st
 simp only [List.mem_cons,List.not_mem_nil,or_false] at hc
 rcases hc with rfl | rfl | rfl | rfl | rfl
 ·exact ⟨_,hz,λv z=>by cases z⟩
 ·exact ⟨_,hTI,λv z=>by cases z⟩
 ·exact ⟨_,hTO,λv z=>by cases z⟩
 ·exact ⟨_,g1,λv z=>by rw [d1] at z;cases z⟩
 ·exact ⟨_,g2,λv z=>by rw [d2] at z;cases z⟩
theorem yx {P:Program} {w:World} {K:PySem.W.Frag} {elts:List Expr} {kk:Nat} {tpos:Pos} (a b z TI TO i1 i2:Addr) (own:ZOwn z TI TO i1 i2) :
  Turn P w K (.Tuple elts kk tpos) (ItZT K a b) [z,TI,TO,i1,i2] z (tnZT a b z TI TO i1 i2) where
 mem:=by simp
 obj:=λi h st c hc=>zobjT st c hc
 keep:=λi h h' st k=>by
  obtain ⟨hz,hTI,⟨u,v,hTO⟩,l1,l2⟩:=st
  exact ⟨k z (by simp) _ hz,k TI (by simp) _ hTI,⟨u,v,k TO (by simp) _ hTO⟩,eW l1 λo q=>k i1 (by simp) o q,eW l2 λo q=>k i2 (by simp) o q⟩
 item:=by
  intro X hP hw hK hc i pins s σ H E I hf st hg
  subst hP hw hK
  obtain ⟨xs,ys,hq,hq2,hi,hle⟩:=hg
  obtain ⟨its,rv,p,hz⟩:=I.tuple hq
  obtain ⟨its2,rv2,p2,hz2⟩:=I.tuple hq2
  have hx:xs[i]?=some xs[i]:=List.getElem?_eq_getElem hi
  have hy:ys[i]?=some (ys[i]'(by omega)):=List.getElem?_eq_getElem (by omega)
  obtain ⟨u,hu,ru⟩:=rv.get hx
  obtain ⟨u2,hu2,ru2⟩:=rv2.get hy
  have e1:=rv.length
  have e2:=rv2.length
  have D:=wW I own hf hq hq2
  have W:=yw (prog:=X.prog) (w:=X.w) (A:=X.A) (I.ok.hd hc) z TI TO i1 i2 a b D its.toArray its2.toArray (by simp only [List.size_toArray];omega)
  obtain ⟨s1,s2,s3,s4,s5⟩:=id st
  refine lE (fp:=[z,TI,TO,i1,i2]) (vs:=[xs[i],ys[i]'(by omega)]) (src:=srcZT X.K a b) (tn:=tnZT a b z TI TO i1 i2) W I hf (λc hc=>let ⟨o,q,_⟩:=zobjT st c hc;⟨o,q⟩) (λc hc=>?_) (by simp only [List.size_toArray];omega) ⟨s1,s2,s3,s4,s5,p,p2⟩ (λvals hP=>?_) (by show 2<=sizeLine;decide)
   ⟨_,_,rfl,λzs hzs=>by rw [I.tuple_inj hzs hq];exact hx,λzs hzs=>by rw [I.tuple_inj hzs hq2];exact hy⟩ λh st=>⟨st.1,st.2.1,st.2.2.1,st.2.2.2.1,st.2.2.2.2.1⟩
  ·simp only [List.mem_cons,List.not_mem_nil,or_false] at hc ⊢
   rcases hc with q | q | q | q <;> simp [q]
  ·obtain ⟨v1,v2,e1,e2,rfl⟩:=hP
   have f1:v1=u:=by
    have q:its[i]?=some v1:=by simpa using e1
    rw [hu] at q
    exact (Option.some.inj q).symm
   have f2:v2=u2:=by
    have q:its2[i]?=some v2:=by simpa using e2
    rw [hu2] at q
    exact (Option.some.inj q).symm
   subst f1 f2
   exact .cons ru (.cons ru2 .nil)
 done:=by
  intro X hP hw hK hc i pins s σ H E I hf st hg
  subst hP hw hK
  obtain ⟨xs,ys,hq,hq2,hend,hle⟩:=hg
  obtain ⟨its,rv,p,hz⟩:=I.tuple hq
  have D:=wW I own hf hq hq2
  obtain ⟨s1,s2,⟨u,v,s3⟩,s4,s5⟩:=id st
  have e1:=rv.length
  have hT:s.TypeIs (.ref z) "zip":=⟨_,s1,rfl⟩
  have pT:s.heap.IsTuple a its.toArray:=p
  unfold pyNext
  refine wpAny_bind (wpAny_attempt (wpAny_callSpecial?_slot (name:=Str.ofString "__next__") hT F.slot_zip_next (wpAny_call_entry F.slot_zip_next hT F.entry_zip_next (sL (I.ok.hd hc) D s1 s2 s3 s4 pT (by simp;omega) λh' e kp ge=>?_) (F.args_zip_next_1 _))))
  obtain ⟨o,ho,hcl⟩:=ge
  refine wpAny_bind (wpAny_isInstance (T:="StopIteration") (b:=true) ⟨o,ho,hcl⟩ isSubtype_stop ?_)
  exact wpAny_pure ⟨rfl,I.turnedL (t':=s.toks) (λc o hc q=>kp c o (λe=>hc (by simp [e])) (λe=>hc (by simp [e])) (λe=>hc (by simp [e])) (λe=>hc (by simp [e])) q) hf⟩
 self:=λ_ _ _ _ _ st h=>wpAny_pyIter_zip st.1 h
section
variable {X:Cx}
noncomputable def iZipT (K:PySem.W.Frag) (ta tb:TE):TI:=fun σ H R=>ta σ H λx H1=>tb σ H1 λy H2=>∃ a b xs ys,x=.ref a/\y=.ref b/\SqT K H2 a xs/\SqT K H2 b ys/\R (ItZT K a b) H2
theorem rK {elts:List Expr} {kk:Nat} {tpos p pos:Pos} {e f:Expr} {te tf:TE} (hg:Gl X "zip") (hm:X.mg "zip"=none) (he:PE X e te) (hf:PE X f tf)
  (hs:starEach [e,f] X.env=[(false,eval e X.env),(false,eval f X.env)]:=by rfl) (hs2:starEach [f] X.env=[(false,eval f X.env)]:=by rfl):PI X (.Tuple elts kk tpos) (.Call (.Name "zip" p) [e,f] [] pos) (iZipT X.K te tf):=by
 intro pins s σ H R I h
 have b1:bootBuiltins "zip"=some (.type "zip"):=by decide +kernel
 refine wpAny_Call_Name_kw (jU I hg hm b1 ?_ (by decide) (by decide))
 refine PyProof.Rows.callWith_type1 ?_ (by rw [hs,hs2]) (by rw [hs2];rfl)
 rw [hs]
 refine Calls.spliced_cons (thn (he pins s σ H _ I h) λu s1 zz=>?_)
 obtain ⟨x,H1,I1,rx,q1⟩:=zz
 refine Calls.spliced_cons (thn (hf pins s1 σ H1 _ I1 q1) λu2 s2 zz=>?_)
 obtain ⟨y,H2,I2,ry,a,b,xs,ys,ex,ey,hq,hq2,q⟩:=zz
 subst ex ey
 have eu:u=Value.ref a:=rx
 have eu2:u2=Value.ref b:=ry
 subst eu eu2
 refine Calls.spliced_nil ?_
 obtain ⟨its,rv,pl,hz⟩:=I2.tuple hq
 obtain ⟨its2,rv2,pl2,hz2⟩:=I2.tuple hq2
 refine zJ (show s2.heap.IsTuple a its.toArray from pl) (show s2.heap.IsTuple b its2.toArray from pl2) λh' z TI TO i1 i2 kp=>?_
 have I3:Inv X pins σ H2 {s2 with heap:=h' }:=I2.kept (t':=s2.toks) kp
 refine wpAny_pyIter_zip (s:={s2 with heap:=h' }) z ?_
 have ne:∀ i j:Nat,i≠j->s2.heap.objs.size+i≠s2.heap.objs.size+j:=λi j hij e=>hij (Nat.add_left_cancel e)
 refine ⟨_,[s2.heap.objs.size+4,s2.heap.objs.size+2,s2.heap.objs.size+3,s2.heap.objs.size,s2.heap.objs.size+1],_,ItZT X.K a b,H2,rfl,I3,
  yx a b _ _ _ _ _ ⟨ne 2 4 (by decide),ne 3 4 (by decide),ne 0 4 (by decide),ne 1 4 (by decide),ne 2 3 (by decide),ne 2 0 (by decide),ne 2 1 (by decide),ne 3 0 (by decide),ne 3 1 (by decide),ne 0 1 (by decide)⟩,
  ⟨z,TI,⟨_,_,TO⟩,i1,i2⟩,λc hc=>?_,q⟩
 have nb:s2.heap.objs.size<=c:=by
  simp only [List.mem_cons,List.not_mem_nil,or_false] at hc
  rcases hc with rfl | rfl | rfl | rfl | rfl
  ·exact Nat.le_add_right _ _
  ·exact Nat.le_add_right _ _
  ·exact Nat.le_add_right _ _
  ·exact Nat.le_refl _
  ·exact Nat.le_add_right _ _
 exact I2.fpOk nb (I2.hok.fresh nb)
end
section
variable {X:Cx} {tg:Expr}
end
section
variable {X:Cx}
theorem ju (hc:X.calm=true):gK X (.builtin "min") (λxs H Q=>∃(l:Addr) (ns:List Int),xs=[.ref l]/\SqL X.K H l (ns.map V.int)/\0 < ns.length/\∀ M,M∈ns->(∀ a∈ns,M<=a)->Q (.int M) H):=by
 intro pins s σ H xs us Q I r h
 obtain ⟨l,ns,rfl,hq,hne,q⟩:=h
 obtain ⟨u,rfl,rx⟩:=vals1 r
 cases rx
 obtain ⟨its,rv,pl,_⟩:=I.list hq
 have hi:IntsAre its ns:=intsAre_of rv
 have hl:=pl.isList
 obtain ⟨ys,e⟩:=hi.allInts.items
 have en:ns=ys.toList.map (·.1):=by rw [<- hi.numsOf,<- nums_intItems,<- e]
 have sz:ns.length=ys.size:=by rw [en,List.length_map,Array.length_toList]
 rw [e] at hl
 refine min_intList (I.ok.hd hc) hl (by omega) λv h' tk hv hk=>?_
 obtain ⟨t,rfl⟩:=intItems_at hv
 obtain ⟨h1,h2⟩:=argBest_lt (numAt ys) (ys.size - 1)
 refine ⟨.int _,H,I.kept hk,⟨t,rfl⟩,q _ ?_ λa ha=>?_⟩
 ·rw [numAt_eq,<- en];exact PySem.getD_mem (by omega)
 ·rw [en] at ha
  obtain ⟨j,hj,rfl⟩:=mem_getD ha
  rw [<- numAt_eq];exact h2 j (by rw [List.length_map,Array.length_toList] at hj;omega)
theorem ia (hc:X.calm=true):gK X (.builtin "max") (λxs H Q=>∃(l:Addr) (ns:List Int),xs=[.ref l]/\SqL X.K H l (ns.map V.int)/\0 < ns.length/\∀ M,M∈ns->(∀ a∈ns,a<=M)->Q (.int M) H):=by
 intro pins s σ H xs us Q I r h
 obtain ⟨l,ns,rfl,hq,hne,q⟩:=h
 obtain ⟨u,rfl,rx⟩:=vals1 r
 cases rx
 obtain ⟨its,rv,pl,_⟩:=I.list hq
 have hi:IntsAre its ns:=intsAre_of rv
 have hl:=pl.isList
 obtain ⟨ys,e⟩:=hi.allInts.items
 have en:ns=ys.toList.map (·.1):=by rw [<- hi.numsOf,<- nums_intItems,<- e]
 have sz:ns.length=ys.size:=by rw [en,List.length_map,Array.length_toList]
 rw [e] at hl
 refine max_intList (I.ok.hd hc) hl (by omega) λv h' tk hv hk=>?_
 obtain ⟨t,rfl⟩:=intItems_at hv
 obtain ⟨h1,h2⟩:=argBest_gt (numAt ys) (ys.size - 1)
 refine ⟨.int _,H,I.kept hk,⟨t,rfl⟩,q _ ?_ λa ha=>?_⟩
 ·rw [numAt_eq,<- en];exact PySem.getD_mem (by omega)
 ·rw [en] at ha
  obtain ⟨j,hj,rfl⟩:=mem_getD ha
  rw [<- numAt_eq];exact h2 j (by rw [List.length_map,Array.length_toList] at hj;omega)
end
section
variable {X:Cx} {n:Nat} {x:Str} {sp:Sp} {p pos:Pos}
theorem gx (D:Def X.prog X.w X.K X.mg X.base n x [] sp) (hr:cY n X.A) (hg:Gl X x) (hdb:(x == ("__debug__":Str))=false:=by decide):PE X (.Call (.Name x p) [] [] pos) (qe sp [] E0 jH):=by
 obtain ⟨f,fd,F,b,kp,m⟩:=D.ex
 exact Bz F hr hg m kp b .nil xP hdb
end
open PySem.W
section
variable {X:Cx} {elt iter:Expr} {xs:List Str} {elts:List Expr} {kk:Nat} {tp pos:Pos} {scope:Scope} {cl:List (Str×Addr)} {wi:TI} {g:TG} {te:TE} {js:List Nat}
theorem Bq {y:Str} {i:Nat} {py spos:Pos} (hN:X.N.Nodup) (hy:X.N[i]?=some y) (hyl:Loc X.env.scope y) (hyf:X.fn y=true\/X.env.scope.names.lookup y=some .local)
  (hsw:swapsWith (.ListComp elt [⟨.Tuple elts kk tp,iter,[],0⟩] scope pos) (some (.Name y py)) spos.line X.env=pure true)
  (hc:X.calm=true) (hi:PI X (.Tuple elts kk tp) iter wi) (hk:scope.kind=.function) (hcell:∀ y∈scope.names,y.2≠.cell) (hnames:∀ y∈scope.names,y.2=.local->scope.names.lookup y.1=some .local)
  (hf:∀ p∈scope.names,p.2=.free->X.env.kindOf p.1=some .cell\/X.env.kindOf p.1=some .free) (hjs:eS X scope js) (hnd:(bN X xs js).Nodup)
  (hg:∀ cl s' H' fp,PG (bc X scope cl (bN X xs js) s' H' fp) (.Tuple elts kk tp) g) (he:∀ cl s' H' fp,PE (bc X scope cl (bN X xs js) s' H' fp) elt te)
  (hs:∀ x,foldedSetIterable iter X.env x=pure x:=by intro _;rfl) :
  PS X (.Assign [.Name y py] (.ListComp elt [⟨.Tuple elts kk tp,iter,[],0⟩] scope pos) spos) (sR i (iK xs.length wi g te js)):=by
 intro pins s σ H D I h
 obtain ⟨cl,e,p1,p2⟩:=sA (nO (js:=js) I λy hy=>hf (y,.free) hy rfl)
 rw [exec_Assign_Name_used _ _ _ _ hsw]
 refine wpAny_bind (wpAny_standAt (wpAny_bind ?_))
 show wpAny _ _ (do let _ <- comprehension (.ListComp elt [⟨.Tuple elts kk tp,iter,[],0⟩] scope pos) scope X.env _ (newList []) false (eval iter X.env) (some (assign (.Name y py) X.env))) _ _ s
 refine wpAny_bind (wpAny_mono (wpAny_comprehension_free (use:=some (assign (.Name y py) X.env)) (Q:=λ_ s'=>SP X pins D .next s') rfl hs e hk hnames
  (pC hc hi hk hcell p1 p2 hjs hnd (hg cl) (he cl) I h λD' C H' s' I' fC hC q=>?_)) (λ_ s' hq=>wpAny_pure (wpAny_pure hq)) λ_ _ e=>e)
 obtain ⟨m,o,es,ep,ho,hd,hr⟩:=hC
 obtain ⟨f0,f1,f2,f3,f4,f5⟩:=fC
 have Ip:Inv X (pins++[(C,o)]) σ H' s':=I'.pins_of λp hp=>(List.mem_append.mp hp).elim (λz=>I'.pin p (List.mem_append_right _ z)) λz=>by
  have e:p=(C,o):=by simpa using z
  subst e
  exact ⟨ho,f0,f1,f2,λv z=>by rw [hd] at z;cases z⟩
 have hg:PG X (.Name y py) (jG i):=aW hN hy hyl hyf
 refine thn (hg _ s' σ H' (.ref D') (.ref D') (fun σ' H''=>σ'=σ.set i (some (.ref D'))/\H''=H') Ip rfl ⟨rfl,rfl⟩) λ_ s'' q''=>?_
 obtain ⟨σ'',H'',I'',e1,e2⟩:=q''
 subst e1 e2
 have hp:=(I''.pin (C,o) (by simp)).1
 refine ⟨m,⟨o,es,ep,hp,hd,hr⟩,λh' sb=>?_⟩
 exact ⟨_,_,(I''.unpinned).turned (t':=s''.toks) (λb o hb e=>(sb.2 b hb).trans e) f0 f1 f3 f4 f5,q⟩
end
noncomputable def tTryA (K:Frag) (i:Nat) (Dc:Addr) (sp:Sp) (ta:TA) (ts:TS):TS:=λD σ H=>ta σ H λvs H1=>sp vs H1 (λv H2=>D.nx (σ.set i (some v)) H2) λC _ H2=>∃ Cn,C=.ref Cn/\mroIn K Cn (.ref Dc)=some true/\ts D σ H2
theorem ps_tryA {X:Cx} {m i:Nat} {x y z:Str} {ps:List Str} {sp:Sp} {e:Expr} {es:List Expr} {ta:TA} {ts:TS} {p pos pos' pz np hpos tpos:Pos} {b₀:Stmt} {suite:List Stmt} {Dc:Addr}
  (hxe:X.xe=λ_ _=>False) (hstk:X.stack=X.env::X.outer) (hfr:X.env.frame=some X.env.locals)
  (Df:lC X.prog X.w X.K X.mg X.base m x ps sp) (hr:cY m X.A) (hg:Gl X x) (ha:PA X (e::es) ta) (hgy:Gl X y) (hmy:X.mg y=some (.ref Dc)) (cc:gn X.K Dc)
  (hN:X.N.Nodup) (hi:X.N[i]?=some z) (hl:X.env.scope.names.lookup z=some .local) (hs:∀ ea,PSs (X.mark ea) (b₀::suite) ts)
  (hdb:(x == ("__debug__":Str))=false:=by decide) (hdy:(y == ("__debug__":Str))=false:=by decide) (he:starEach (e::es) X.env=(false,eval e X.env)::starEach es X.env:=by rfl)
  (hpl:(backTo pos (starEach es X.env)).any (·.1)=false:=by rfl) (hsw:swapsWith (.Call (.Name x p) (e::es) [] pos) (some (.Name z pz)) pos'.line X.env=pure false:=by rfl) :
  PS X (.Try [.Assign [.Name z pz] (.Call (.Name x p) (e::es) [] pos) pos'] [.ExceptHandler (some (.Name y np)) none (b₀::suite) hpos] [] [] tpos) (tTryA X.K i Dc sp ta ts):=by
 intro pins s σ H D I h
 obtain ⟨f,fd,F,b,kp,mf⟩:=Df.ex
 refine wpAny_Try_except (wpAny_execs_cons (wpAny_Assign_Name ?_ hsw))
 refine wpAny_Call_Name_kw (fu I hg mf ?_ hdb)
 refine callWith_K (h₀:=X.base) I.ok.mod.kin kp (wpAny_mono (ha pos pins s σ H _ I h) (λus s1 z=>?_) (λ_ _ z=>by rw [hxe] at z;exact z.elim)) he hpl
 obtain ⟨vs,H1,I1,r,q⟩:=z
 refine ⟨I1.kIn,?_⟩
 have hlen:us.length=ps.length:=by rw [<- r.length];exact F.len _ _ _ _ q
 have bnd:BindsTo s1 fd ⟨us,[]⟩ (ps.zip us):=by
  have z:=b s1 us I1.kIn (by rw [List.append_nil];exact hlen)
  rw [List.append_nil] at z
  exact z
 refine wpAny_call (codeAny_mono (F.run X.A X.stack s1 H1 ⟨us,[]⟩ us vs _ _ hr I1.env0 bnd r q) λres s' hq=>?_)
 cases res with
 | ok fl =>
  cases fl with
  | ret u =>
   obtain ⟨v,H2,I2,rv,q2⟩:=I1.after hq
   exact nW I2 hN hi (.inl hl) rv (λs3 I3=>wpAny_execs_nil (wpAny_execs_nil ⟨_,H2,I3,q2⟩)) (.inr hl)
  | next=>exact False.elim hq
  | brk=>exact False.elim hq
  | cont=>exact False.elim hq
 | error ex =>
  obtain ⟨ea,C,H2,rfl,⟨t,B,ho,hgn,un,hok,fl,h0,h1,cov⟩,Cn,rfl,hm,q3⟩:=hq
  have hfrm:X.A.frames=some (X.env::X.outer):=by rw [<- hstk];exact I.ok.frames
  rw [hstk] at fl
  refine wpAny_looks_onW (L:=X.env.locals) hfrm hfr fl λh4 held up4=>?_
  refine wpAny_landsW held λh5 fl5 up5'=>?_
  have up5:=up4.trans up5'
  have I5:Inv X pins σ H2 {s' with heap:=h5}:=I1.caught (C:=.ref Cn) (ea:=ea) (t:=t) (tk:=s'.toks) ho hgn un hok cov fl5.1 up5
  refine wpAny_handleBy_cons (codeAny_handlers_test (fu (X:=X.mark ea) (I5.mark ea) hgy hmy ?_ hdy)) (by intro z;cases z)
  refine mW (K:=X.K) I5.kIn fl5.there cc hm ?_
  show codeAny _ _ (.handlers (.ref ea) [.ExceptHandler none none (b₀::suite) hpos] X.env) _ _
  refine codeAny_handlers_suite ?_
  refine lands_againW fl5 λh6 fl6 up6=>?_
  have I6:Inv X pins σ H2 {s' with heap:=h6}:=I1.caught (C:=.ref Cn) (ea:=ea) (t:=t) (tk:=s'.toks) ho hgn un hok cov fl6.1 (up5.trans up6)
  refine wpAny_mono (hs ea pins _ _ _ _ (I6.mark ea) q3) (λfl8 s8 q8=>?_) (λee ss z=>by
   have z':X.xe ee ss:=z
   rw [hxe] at z'
   exact z'.elim)
  cases fl8 with
  | next=>obtain ⟨σ8,H8,J,n8⟩:=q8;exact ⟨σ8,H8,J.unmark I.ok,n8⟩
  | brk=>obtain ⟨σ8,H8,J,n8⟩:=q8;exact ⟨σ8,H8,J.unmark I.ok,n8⟩
  | cont=>obtain ⟨σ8,H8,J,n8⟩:=q8;exact ⟨σ8,H8,J.unmark I.ok,n8⟩
  | ret u=>obtain ⟨v,σ8,H8,J,rv,n8⟩:=q8;exact ⟨v,σ8,H8,J.unmark I.ok,rv,n8⟩
section
variable {X:Cx} {es fs:List Expr} {t:TA} {te:TE} {k j:Nat} {p:Pos} {i:Int}
theorem dM (hr:PA X es t):PA X (.Constant (.int i) j p::es) (dZ (tC (.int i)) t):=aa af hr
theorem oR (ha:PE X (.Tuple fs k p) te) (hr:PA X es t):PA X (.Tuple fs k p::es) (dZ te t):=aa ha hr
noncomputable def tK3 (a b c:Int):TE:=tTup (dZ (tC (.int a)) (dZ (tC (.int b)) (dZ (tC (.int c)) jH)))
noncomputable def eK3 (a b c:Int) (j1 j2 j3 k:Nat) (p1 p2 p3 p:Pos):Expr:=.Tuple [.Constant (.int a) j1 p1,.Constant (.int b) j2 p2,.Constant (.int c) j3 p3] k p
theorem pe_k3 {a b c:Int} {j1 j2 j3 k:Nat} {p1 p2 p3 p:Pos}:PE X (.Tuple [.Constant (.int a) j1 p1,.Constant (.int b) j2 p2,.Constant (.int c) j3 p3] k p) (tK3 a b c):=by
 unfold tK3
 refine aL ?_
 refine dM ?_
 refine dM ?_
 refine dM ?_
 exact ag
theorem rL {a b c:Int} {j1 j2 j3 k:Nat} {p1 p2 p3 p:Pos}:PE X (eK3 a b c j1 j2 j3 k p1 p2 p3 p) (tK3 a b c):=pe_k3
noncomputable def tSq:TE:=tLst (dZ (tK3 1 0 0) (dZ (tK3 1 1 0) (dZ (tK3 1 1 1) (dZ (tK3 1 0 1) jH))))
structure IsSq (e:Expr):Prop where
 ex:∃ a1 a2 a3 a4 q1 q2 q3 q4 b1 b2 b3 b4 r1 r2 r3 r4 c1 c2 c3 c4 s1 s2 s3 s4 d1 d2 d3 d4 t1 t2 t3 t4 p,e=.List [eK3 1 0 0 a1 a2 a3 a4 q1 q2 q3 q4,eK3 1 1 0 b1 b2 b3 b4 r1 r2 r3 r4,eK3 1 1 1 c1 c2 c3 c4 s1 s2 s3 s4,eK3 1 0 1 d1 d2 d3 d4 t1 t2 t3 t4] p
theorem pe_sq {e:Expr} (h:IsSq e):PE X e tSq:=by
 obtain ⟨a1,a2,a3,a4,q1,q2,q3,q4,b1,b2,b3,b4,r1,r2,r3,r4,c1,c2,c3,c4,s1,s2,s3,s4,d1,d2,d3,d4,t1,t2,t3,t4,p,rfl⟩:=h.ex
 unfold tSq
 refine bo ?_
 refine aa rL ?_ rfl
 refine aa rL ?_ rfl
 refine aa rL ?_ rfl
 refine aa rL ?_ rfl
 exact ag
end
mutual
noncomputable def Dv (K:PySem.W.Frag) (H:Hp):PyData->V->Prop
 | .none,v=>v=.non
 | .bool b,v=>v=.bl b
 | .int i,v=>v=.int i
 | .str x,v=>v=.str x
 | .tuple ds,v=>∃ a xs,v=.ref a/\SqT K H a xs/\fT K H ds xs
 | .list ds,v=>∃ a xs,v=.ref a/\SqL K H a xs/\fT K H ds xs
 | .dict _,_=>False
noncomputable def fT (K:PySem.W.Frag) (H:Hp):List PyData->List V->Prop
 | [],xs=>xs=[]
 | d::ds,xs=>∃ x r,xs=x::r/\Dv K H d x/\fT K H ds r
end
mutual
theorem Dat.m {K:PySem.W.Frag} {H:Hp}:∀{d:PyData} {v:V},Dat K H d v->Dv K H d v
 | .none,_,h=>h
 | .bool _,_,h=>h
 | .int _,_,h=>h
 | .str _,_,h=>h
 | .tuple _,_,⟨a,xs,h1,h2,h3⟩=>⟨a,xs,h1,h2,DatAll.m h3⟩
 | .list _,_,h=>False.elim h
 | .dict _,_,h=>h
theorem DatAll.m {K:PySem.W.Frag} {H:Hp}:∀{ds:List PyData} {xs:List V},DatAll K H ds xs->fT K H ds xs
 | [],_,h=>h
 | _::_,_,⟨x,r,h1,h2,h3⟩=>⟨x,r,h1,Dat.m h2,DatAll.m h3⟩
end
mutual
theorem Dv.reads {X:Cx} {pins:List (Addr×Obj)} {σ:St} {H:Hp} {s:Shared} (I:Inv X pins σ H s):∀(d:PyData) {v:V} {u:Value},Dv X.K H d v->RelV v u->∃ as,Reads s.heap u d as
 | .none,_,_,h,r=>Dat.reads I .none h r
 | .bool b,_,_,h,r=>Dat.reads I (.bool b) h r
 | .int i,_,_,h,r=>Dat.reads I (.int i) h r
 | .str x,_,_,h,r=>Dat.reads I (.str x) h r
 | .tuple ds,_,_,⟨a,xs,h1,h2,h3⟩,r=>by
  cases h1
  cases (show _=Value.ref a from r)
  obtain ⟨its,rv,⟨o,ho,hc,n,hd⟩,_⟩:=I.tuple h2
  obtain ⟨as,ra⟩:=fT.reads I ds h3 rv
  exact ⟨as,.tuple ho hc hd (by simpa using ra)⟩
 | .list ds,_,_,⟨a,xs,h1,h2,h3⟩,r=>by
  cases h1
  cases (show _=Value.ref a from r)
  obtain ⟨its,rv,⟨o,n,ho,hc,_,hd⟩,_⟩:=I.list h2
  obtain ⟨as,ra⟩:=fT.reads I ds h3 rv
  exact ⟨a::as,.list ho hc hd (by simpa using ra)⟩
 | .dict _,_,_,h,_=>False.elim h
theorem fT.reads {X:Cx} {pins:List (Addr×Obj)} {σ:St} {H:Hp} {s:Shared} (I:Inv X pins σ H s):∀(ds:List PyData) {xs:List V} {us:List Value},fT X.K H ds xs->Vals xs us->∃ as,ReadsAll s.heap us ds as
 | [],_,_,h,r=>by
  cases (show _=([]:List V) from h)
  cases r
  exact ⟨[],.nil⟩
 | d::ds,_,_,⟨x,t,h1,h2,h3⟩,r=>by
  cases h1
  cases r with
  | cons r1 r2 =>
   obtain ⟨as,a1⟩:=Dv.reads I d h2 r1
   obtain ⟨bs,b1⟩:=fT.reads I ds h3 r2
   exact ⟨as++bs,.cons a1 b1⟩
end
section
variable {X:Cx}
end
end L2
namespace Mine
structure T3 where
 u:Int
 v:Int
 w:Int
deriving DecidableEq
namespace Hu
noncomputable def tl (r p:T3):Int:=r.u*p.v+r.v*p.w+r.w*p.u
noncomputable def det (p q r:T3):Int:=p.u*(q.v*r.w - q.w*r.v) - p.v*(q.u*r.w - q.w*r.u)+p.w*(q.u*r.v - q.v*r.u)
theorem bH (p q r:T3):det p q r=det r p q:=by simp only [det];grind
theorem wu (p r:T3):det p p r=0:=by simp only [det];grind
theorem wt (p r:T3):det r p p=0:=by simp only [det];grind
theorem det_ab (p r:T3):det p r p=0:=by simp only [det];grind
structure Co (p q X:T3):Prop where
 ex:∃ g a b:Int,0 < g/\0<=a/\0<=b/\g*X.u=a*p.u+b*q.u/\g*X.v=a*p.v+b*q.v/\g*X.w=a*p.w+b*q.w
theorem co_one (p q:T3):Co p q p:=⟨1,1,0,by decide,by decide,by decide,by omega,by omega,by omega⟩
theorem rJ {g x:Int} (hg:0 < g) (h:0<=g*x):0<=x:=by
 rcases Int.lt_or_le x 0 with z | z
 ·have:=Int.mul_neg_of_pos_of_neg hg z;omega
 ·exact z
theorem co_1 {p q X Y Z:T3} (h:Co p q X) (h1:0<=det p Y Z) (h2:0<=det q Y Z):0<=det X Y Z:=by
 obtain ⟨g,a,b,hg,ha,hb,e1,e2,e3⟩:=h.ex
 refine rJ hg ?_
 have e:g*det X Y Z=a*det p Y Z+b*det q Y Z:=by simp only [det];grind
 rw [e]
 have:=Int.mul_nonneg ha h1
 have:=Int.mul_nonneg hb h2
 omega
theorem co_2 {p q X Y Z:T3} (h:Co p q Y) (h1:0<=det X p Z) (h2:0<=det X q Z):0<=det X Y Z:=by
 rw [bH,bH]
 rw [bH,bH] at h1 h2
 exact co_1 h h1 h2
theorem co_3 {p q X Y Z:T3} (h:Co p q Z) (h1:0<=det X Y p) (h2:0<=det X Y q):0<=det X Y Z:=by
 rw [bH]
 rw [bH] at h1 h2
 exact co_1 h h1 h2
noncomputable def Tri (L:List T3):Prop:=∀ p q r,[p,q,r].Sublist L->0<=det p q r
theorem lF {α:Type} {L:List α} {i j k:Nat} (h1:i < j) (h2:j < k) (h3:k < L.length):[L[i]'(by omega),L[j]'(by omega),L[k]].Sublist L:=by
 have a3:[L[k]].Sublist (L.drop (j+1)):=by
  rw [List.singleton_sublist]
  rw [List.mem_iff_getElem]
  exact ⟨k - (j+1),by simp;omega,by simp [show j+1+(k - (j+1))=k by omega]⟩
 have a2:[L[j]'(by omega),L[k]].Sublist (L.drop (i+1)):=by
  have:[L[j]'(by omega),L[k]].Sublist (L.drop j):=by
   rw [List.drop_eq_getElem_cons (show j < L.length by omega)]
   exact List.Sublist.cons₂ _ a3
  refine this.trans ?_
  have e:L.drop j=(L.drop (i+1)).drop (j - (i+1)):=by rw [List.drop_drop];congr 1;omega
  rw [e]
  exact List.drop_sublist _ _
 refine List.Sublist.trans ?_ (List.drop_sublist i L)
 rw [List.drop_eq_getElem_cons (show i < L.length by omega)]
 exact List.Sublist.cons₂ _ a2
section
variable {α:Type} {f:Nat->List α}
noncomputable def fl (f:Nat->List α) (n:Nat):List α:=(List.range n).flatMap f
theorem sj:fl f 0=[]:=rfl
theorem aV (n:Nat):fl f (n+1)=fl f n++f n:=by simp [fl,List.range_succ]
theorem sub_one {p:α}:∀{n:Nat},p∈fl f n->∃ i,i < n/\p∈f i
 | 0,h=>by simp [fl] at h
 | n+1,h=>by
  rw [aV] at h
  rcases List.mem_append.mp h with h | h
  ·obtain ⟨i,hi,z⟩:=sub_one h
   exact ⟨i,by omega,z⟩
  ·exact ⟨n,by omega,h⟩
theorem wY {p q:α}:∀{n:Nat},[p,q].Sublist (fl f n)->(∃ i j,i < j/\j < n/\p∈f i/\q∈f j)\/∃ i,i < n/\[p,q].Sublist (f i)
 | 0,h=>by have:=h.length_le;simp [fl] at this
 | n+1,h=>by
  rw [aV] at h
  obtain ⟨l1,l2,e,h1,h2⟩:=List.sublist_append_iff.mp h
  match l1,e with
  | [],e=>subst e;exact .inr ⟨n,by omega,h2⟩
  | [_],e =>
   simp at e
   obtain ⟨rfl,rfl⟩:=e
   obtain ⟨i,hi,z⟩:=sub_one (List.singleton_sublist.mp h1)
   exact .inl ⟨i,n,hi,by omega,z,List.singleton_sublist.mp h2⟩
  | [_,_],e =>
   simp at e
   obtain ⟨rfl,rfl,rfl⟩:=e
   rcases wY h1 with ⟨i,j,a,b,c,d⟩ | ⟨i,a,b⟩
   ·exact .inl ⟨i,j,a,by omega,c,d⟩
   ·exact .inr ⟨i,by omega,b⟩
  | _::_::_::_,e=>simp at e
theorem qf {p q r:α}:∀{n:Nat},[p,q,r].Sublist (fl f n)->(∃ i j k,i < j/\j < k/\k < n/\p∈f i/\q∈f j/\r∈f k)\/(∃ i k,i < k/\k < n/\[p,q].Sublist (f i)/\r∈f k)\/(∃ i k,i < k/\k < n/\p∈f i/\[q,r].Sublist (f k))\/∃ i,i < n/\[p,q,r].Sublist (f i)
 | 0,h=>by have:=h.length_le;simp [fl] at this
 | n+1,h=>by
  rw [aV] at h
  obtain ⟨l1,l2,e,h1,h2⟩:=List.sublist_append_iff.mp h
  match l1,e with
  | [],e=>subst e;exact .inr (.inr (.inr ⟨n,by omega,h2⟩))
  | [_],e =>
   simp at e
   obtain ⟨rfl,rfl⟩:=e
   obtain ⟨i,hi,z⟩:=sub_one (List.singleton_sublist.mp h1)
   exact .inr (.inr (.inl ⟨i,n,hi,by omega,z,h2⟩))
  | [_,_],e =>
   simp at e
   obtain ⟨rfl,rfl,rfl⟩:=e
   have h2':=List.singleton_sublist.mp h2
   rcases wY h1 with ⟨i,j,a,b,c,d⟩ | ⟨i,a,b⟩
   ·exact .inl ⟨i,j,n,a,b,by omega,c,d,h2'⟩
   ·exact .inr (.inl ⟨i,n,a,by omega,b,h2'⟩)
  | [_,_,_],e =>
   simp at e
   obtain ⟨rfl,rfl,rfl,rfl⟩:=e
   rcases qf h1 with ⟨i,j,k,a,b,c,d⟩ | ⟨i,k,a,b,c⟩ | ⟨i,k,a,b,c⟩ | ⟨i,a,b⟩
   ·exact .inl ⟨i,j,k,a,b,by omega,d⟩
   ·exact .inr (.inl ⟨i,k,a,by omega,c⟩)
   ·exact .inr (.inr (.inl ⟨i,k,a,by omega,c⟩))
   ·exact .inr (.inr (.inr ⟨i,by omega,b⟩))
  | _::_::_::_::_,e=>simp at e
theorem pe {c:Nat} (h:∀ i,(f i).length<=c):∀ n:Nat,(fl f n).length<=n*c
 | 0=>by simp [fl]
 | n+1=>by
  rw [aV,List.length_append]
  have:=pe h n
  have:=h n
  rw [Nat.add_mul]
  omega
theorem CL {p:α} {i n:Nat} (hi:i < n) (h:p∈f i):p∈fl f n:=by
 unfold fl
 exact List.mem_flatMap.mpr ⟨i,List.mem_range.mpr hi,h⟩
end
noncomputable def z3:T3:=⟨1,0,0⟩
noncomputable def cor (h:List T3) (i:Nat):T3:=h.getD (i % h.length) z3
theorem dX {h:List T3} {i:Nat} (hi:i < h.length):cor h i=h[i]:=by
 unfold cor
 rw [Nat.mod_eq_of_lt hi,List.getD_eq_getElem?_getD,List.getElem?_eq_getElem hi]
 rfl
theorem dC (h:List T3):cor h h.length=cor h 0:=by
 unfold cor
 rw [Nat.mod_self,Nat.zero_mod]
theorem cX {h:List T3} (h0:0 < h.length) (i:Nat):cor h i∈h:=by
 have:i % h.length < h.length:=Nat.mod_lt _ h0
 unfold cor
 rw [List.getD_eq_getElem?_getD,List.getElem?_eq_getElem this]
 exact List.getElem_mem this
theorem Bd {h:List T3} (T:Tri h) {i j k:Nat} (h1:i<=j) (h2:j<=k) (h3:k < h.length):0<=det (cor h i) (cor h j) (cor h k):=by
 rcases Nat.lt_or_ge i j with a | a
 ·rcases Nat.lt_or_ge j k with b | b
  ·rw [dX (show i < h.length by omega),dX (show j < h.length by omega),dX h3]
   exact T _ _ _ (lF a b h3)
  ·rw [show j=k by omega,wt];exact Int.le_refl 0
 ·rw [show i=j by omega,wu];exact Int.le_refl 0
theorem rD {h:List T3} (T:Tri h) {i j k:Nat} (h1:i<=j) (h2:j<=k) (h3:k<=h.length):0<=det (cor h i) (cor h j) (cor h k):=by
 rcases Nat.lt_or_ge k h.length with c | c
 ·exact Bd T h1 h2 c
 ·rw [show k=h.length by omega,dC,bH]
  rcases Nat.lt_or_ge j h.length with d | d
  ·exact Bd T (Nat.zero_le _) h1 d
  ·rw [show j=h.length by omega,dC,det_ab];exact Int.le_refl 0
structure Part (h:List T3) (f:Nat->List T3):Prop where
 co:∀ i,i < h.length->∀ p∈f i,Co (cor h i) (cor h (i+1)) p
 two:∀ i,i < h.length->∀ p q,[p,q].Sublist (f i)->p=cor h i
 len:∀ i,(f i).length<=2
end Hu
namespace Hu
noncomputable def nm (p q s t:Int):Int:=(t.natAbs:Int)*p+(s.natAbs:Int)*q
noncomputable def gg (U V W:Int):Int:=Lo.gc (Lo.gc U V) W
noncomputable def mid (p q:T3) (s t:Int):T3 :=
 ⟨(nm p.u q.u s t).fdiv (gg (nm p.u q.u s t) (nm p.v q.v s t) (nm p.w q.w s t)),(nm p.v q.v s t).fdiv (gg (nm p.u q.u s t) (nm p.v q.v s t) (nm p.w q.w s t)),(nm p.w q.w s t).fdiv (gg (nm p.u q.u s t) (nm p.v q.v s t) (nm p.w q.w s t))⟩
theorem xY (p q:T3) (s t:Int):mid p q (-s) (-t)=mid p q s t:=by simp only [mid,nm,Int.natAbs_neg]
theorem uE (U V W:Int):gg U V W∣U:=Int.dvd_trans (Lo.gE _ _) (Lo.gE _ _)
theorem CG (U V W:Int):gg U V W∣V:=Int.dvd_trans (Lo.gE _ _) (Lo.ix _ _)
theorem CD (U V W:Int):gg U V W∣W:=Lo.ix _ _
theorem zC (U V W:Int):0<=gg U V W:=Lo.qO _ _
theorem jW {U V W:Int} (h:0 < U):0 < gg U V W:=by
 rcases Int.lt_or_eq_of_le (zC U V W) with z | z
 ·exact z
 ·have:=uE U V W
  rw [<- z] at this
  have:=Int.zero_dvd.mp this
  omega
theorem gg_le {U V W:Int} (h:0 < U):gg U V W<=U:=Int.le_of_dvd h (uE U V W)
theorem div_eq {g x:Int} (h:g∣x):g*x.fdiv g=x:=by
 rw [Int.fdiv_eq_ediv_of_dvd h]
 exact Int.mul_ediv_cancel' h
structure P3 (b:Nat) (p:T3):Prop where
 n0:0 < p.u
 x0:0<=p.v
 y0:0<=p.w
 n1:p.u < 2 ^ b
 x1:p.v < 2 ^ b
 y1:p.w < 2 ^ b
theorem P3.mono {b c:Nat} {p:T3} (h:P3 b p) (z:b<=c):P3 c p:=by
 have e:(2:Int) ^ b<=2 ^ c:=by
  have:=Nat.pow_le_pow_right (n:=2) (by decide) z
  exact_mod_cast this
 exact ⟨h.n0,h.x0,h.y0,Int.lt_of_lt_of_le h.n1 e,Int.lt_of_lt_of_le h.x1 e,Int.lt_of_lt_of_le h.y1 e⟩
theorem jS {a c:Int} {m n:Nat} (h1:a.natAbs < 2 ^ m) (h2:c.natAbs < 2 ^ n):(a*c).natAbs < 2 ^ (m+n):=by
 rw [Int.natAbs_mul,Nat.pow_add]
 rcases Nat.eq_zero_or_pos c.natAbs with z | z
 ·rw [z,Nat.mul_zero];exact Nat.mul_pos (Nat.pow_pos (by decide)) (Nat.pow_pos (by decide))
 ·exact Nat.lt_of_lt_of_le (Nat.mul_lt_mul_of_pos_right h1 z) (Nat.mul_le_mul_left _ (Nat.le_of_lt h2))
theorem ue {b:Nat} {x:Int} (h0:0<=x) (h:x < 2 ^ b):x.natAbs < 2 ^ b:=by
 have e:((2 ^ b:Nat):Int)=(2:Int) ^ b:=by norm_cast
 omega
theorem nm_b {b e:Nat} {p q s t:Int} (p0:0<=p) (q0:0<=q) (p1:p < 2 ^ b) (q1:q < 2 ^ b) (hs:s.natAbs < 2 ^ e) (ht:t.natAbs < 2 ^ e):0<=nm p q s t/\(nm p q s t).natAbs < 2 ^ (e+b+1):=by
 have a1:=jS (a:=(t.natAbs:Int)) (c:=p) (m:=e) (n:=b) (by simpa using ht) (ue p0 p1)
 have a2:=jS (a:=(s.natAbs:Int)) (c:=q) (m:=e) (n:=b) (by simpa using hs) (ue q0 q1)
 have b1:0<=(t.natAbs:Int)*p:=Int.mul_nonneg (by omega) p0
 have b2:0<=(s.natAbs:Int)*q:=Int.mul_nonneg (by omega) q0
 have e1:2 ^ (e+b+1)=2 ^ (e+b)+2 ^ (e+b):=by rw [Nat.pow_succ];omega
 unfold nm
 rw [e1]
 exact ⟨by omega,by omega⟩
section
variable {b e:Nat} {p q:T3} {s t:Int}
theorem gD (hp:P3 b p) (hq:P3 b q) (h:s*t < 0):0 < nm p.u q.u s t:=by
 have s0:s≠0:=λz=>by rw [z] at h;simp at h
 have t0:t≠0:=λz=>by rw [z] at h;simp at h
 have a1:0 < (t.natAbs:Int)*p.u:=Int.mul_pos (by omega) hp.n0
 have a2:0 < (s.natAbs:Int)*q.u:=Int.mul_pos (by omega) hq.n0
 unfold nm;omega
theorem oX (hp:P3 b p) (hq:P3 b q) (h:s*t < 0):Co p q (mid p q s t):=by
 have g0:=jW (V:=nm p.v q.v s t) (W:=nm p.w q.w s t) (gD hp hq h)
 exact ⟨gg (nm p.u q.u s t) (nm p.v q.v s t) (nm p.w q.w s t),t.natAbs,s.natAbs,g0,by omega,by omega,div_eq (uE _ _ _),div_eq (CG _ _ _),div_eq (CD _ _ _)⟩
end
structure sJ (b l:Nat) (h:List T3):Prop where
 tri:Tri h
 ok:∀ p∈h,P3 b p
 pos:0 < h.length
 few:h.length<=l
noncomputable def stp (h:List T3) (t:Nat->Int) (i:Nat):List T3:=(if t i<=0 then [cor h i] else [])++(if t i*t (i+1) < 0 then [mid (cor h i) (cor h (i+1)) (t i) (t (i+1))] else [])
noncomputable def tv (r:T3) (h:List T3) (i:Nat):Int:=tl r (cor h i)
noncomputable def tn (r:T3) (h:List T3) (i:Nat):Int:=- tl r (cor h i)
noncomputable def low (r:T3) (h:List T3):List T3:=fl (stp h (tv r h)) h.length
noncomputable def high (r:T3) (h:List T3):List T3:=fl (stp h (tn r h)) h.length
theorem kg {b l:Nat} {h:List T3} (H:sJ b l h) (t:Nat->Int):Part h (stp h t) where
 co:=λi hi p hp=>by
  unfold stp at hp
  rcases List.mem_append.mp hp with z | z
  ·split at z
   ·rw [List.mem_singleton.mp z];exact co_one _ _
   ·cases z
  ·split at z
   ·rename_i c
    rw [List.mem_singleton.mp z];exact oX (H.ok _ (cX H.pos i)) (H.ok _ (cX H.pos (i+1))) c
   ·cases z
 two:=λi hi p q s=>by
  unfold stp at s
  by_cases c1:t i<=0 <;> by_cases c2:t i*t (i+1) < 0
  ·rw [if_pos c1,if_pos c2] at s
   have:=s.eq_of_length (by simp)
   simp at this
   exact this.1
  ·rw [if_pos c1,if_neg c2] at s
   have:=s.length_le
   simp at this
  ·rw [if_neg c1,if_pos c2] at s
   have:=s.length_le
   simp at this
  ·rw [if_neg c1,if_neg c2] at s
   have:=s.length_le
   simp at this
 len:=λi=>by
  unfold stp
  rw [List.length_append]
  split <;> split <;> simp
structure R3 (c:Nat) (r:T3):Prop where
 a:r.u.natAbs < 2 ^ c
 b:r.v.natAbs < 2 ^ c
 c:r.w.natAbs < 2 ^ c
theorem P3.r {b:Nat} {p:T3} (h:P3 b p):R3 b p:=⟨ue (Int.le_of_lt h.n0) h.n1,ue h.x0 h.x1,ue h.y0 h.y1⟩
theorem Ap {b c:Nat} {r p:T3} (hr:R3 c r) (hp:R3 b p):(tl r p).natAbs < 2 ^ (c+b+2):=by
 have a1:=jS hr.a hp.b
 have a2:=jS hr.b hp.c
 have a3:=jS hr.c hp.a
 have e1:2 ^ (c+b+2)=4*2 ^ (c+b):=by rw [Nat.pow_add];omega
 unfold tl
 rw [e1]
 omega
noncomputable def gH (r:T3) (h:List T3):Prop:=(∀ p∈h,0<=tl r p)\/∀ p∈h,tl r p<=0
theorem R3.mono {b c:Nat} {p:T3} (h:R3 b p) (z:b<=c):R3 c p:=by
 have e:=Nat.pow_le_pow_right (n:=2) (by decide) z
 exact ⟨Nat.lt_of_lt_of_le h.a e,Nat.lt_of_lt_of_le h.b e,Nat.lt_of_lt_of_le h.c e⟩
theorem zH (a c:Int):((if c < a then c else a) < 0/\0 < (if c > a then c else a))↔a*c < 0:=by
 constructor
 ·intro ⟨h1,h2⟩
  rcases Int.lt_trichotomy a 0 with x | x | x
  ·have:0 < c:=by split at h2 <;> omega
   exact Int.mul_neg_of_neg_of_pos x this
  ·exfalso;split at h1 <;> split at h2 <;> omega
  ·have:c < 0:=by split at h1 <;> omega
   exact Int.mul_neg_of_pos_of_neg x this
 ·intro h
  rcases Int.lt_trichotomy a 0 with x | x | x
  ·have:0 < c:=by
    rcases Int.lt_or_le 0 c with y | y
    ·exact y
    ·have:=Int.mul_nonneg_of_nonpos_of_nonpos (Int.le_of_lt x) y;omega
   constructor <;> split <;> omega
  ·rw [x] at h;simp at h
  ·have:c < 0:=by
    rcases Int.lt_or_le c 0 with y | y
    ·exact y
    ·have:=Int.mul_nonneg (Int.le_of_lt x) y;omega
   constructor <;> split <;> omega
end Hu
namespace Hu
theorem sU (r:T3) (h:List T3) (i:Nat):stp h (tn r h) i=(if 0<=tv r h i then [cor h i] else [])++(if tv r h i*tv r h (i+1) < 0 then [mid (cor h i) (cor h (i+1)) (tv r h i) (tv r h (i+1))] else []):=by
 unfold stp tn tv
 rw [xY,Int.neg_mul_neg]
 congr 1
 by_cases c:0<=tl r (cor h i)
 ·rw [if_pos c,if_pos (by omega)]
 ·rw [if_neg c,if_neg (by omega)]
theorem Ai (r:T3) (h:List T3) (i:Nat):tv r h (i % h.length)=tv r h i:=by unfold tv cor;rw [Nat.mod_mod]
theorem yo (h:List T3) (i:Nat):cor h (i % h.length)=cor h i:=by unfold cor;rw [Nat.mod_mod]
theorem kY {h:List T3} {i:Nat} (hi:i < h.length):h[i]?=some (cor h i):=by rw [List.getElem?_eq_getElem hi,dX hi]
theorem uG (i n:Nat):((i:Int)+1).fmod (n:Int)=(((i+1) % n:Nat):Int):=by
 rw [Int.fmod_eq_emod_of_nonneg _ (by omega),Int.natCast_emod,Int.natCast_add]
 rfl
end Hu
namespace Hu
noncomputable def sqH:List T3:=[⟨1,0,0⟩,⟨1,1,0⟩,⟨1,1,1⟩,⟨1,0,1⟩]
theorem sq_tri:Tri sqH:=by
 intro p q r h
 simp only [sqH,List.sublist_cons_iff,List.sublist_nil,List.cons.injEq,reduceCtorEq,false_or,or_false] at h
 simp only [List.nil_eq,exists_eq_right_right',and_assoc] at h
 grind [det]
theorem sq_hull:sJ 1 4 sqH:=⟨sq_tri,λp hp=>by
 simp only [sqH,List.mem_cons,List.not_mem_nil,or_false] at hp
 rcases hp with rfl | rfl | rfl | rfl <;> exact ⟨by decide,by decide,by decide,by decide,by decide,by decide⟩,by decide,by decide⟩
theorem sJ.mono {b b' l l':Nat} {h:List T3} (H:sJ b l h) (h1:b<=b') (h2:l<=l'):sJ b' l' h:=⟨H.tri,λp hp=>(H.ok p hp).mono h1,H.pos,Nat.le_trans H.few h2⟩
end Hu
namespace Hu
noncomputable def cx (p q:T3):Rat:=((p.v:Rat)*q.w - (q.v:Rat)*p.w) / ((p.u:Rat)*q.u)
theorem cx_self (p:T3):cx p p=0:=by unfold cx;grind
theorem pw (p q:T3):cx q p = - cx p q:=by unfold cx;grind
theorem lX {n:Int} (h:0 < n):(n:Rat)≠0:=by
 intro z
 have:n=0:=by exact_mod_cast z
 omega
theorem det_rat (p q r:T3):((det p q r:Int):Rat)=(p.u:Rat)*(q.v*r.w - q.w*r.v) - p.v*(q.u*r.w - q.w*r.u)+p.w*(q.u*r.v - q.v*r.u):=by
 unfold det
 simp only [Rat.intCast_add,Rat.intCast_sub,Rat.intCast_mul]
theorem uM {p q r:T3} (hp:0 < p.u) (hq:0 < q.u) (hr:0 < r.u):cx p q+cx q r+cx r p=((det p q r:Int):Rat) / ((p.u:Rat)*q.u*r.u):=by
 rw [det_rat]
 have h1:=lX hp
 have h2:=lX hq
 have h3:=lX hr
 unfold cx
 grind
theorem so {p q r:T3} (hp:0 < p.u) (hq:0 < q.u) (hr:0 < r.u) (h:det p q r=0):cx p q+cx q r=cx p r:=by
 have e:=uM hp hq hr
 rw [h,pw p r] at e
 have z:((0:Int):Rat) / ((p.u:Rat)*q.u*r.u)=0:=by grind
 rw [z] at e
 grind
theorem pq {m p q r:T3} (hm:m.u≠0\/m.v≠0\/m.w≠0) (h1:tl m p=0) (h2:tl m q=0) (h3:tl m r=0):det p q r=0:=by
 unfold tl at h1 h2 h3
 have a:m.u*det p q r=0:=by unfold det;grind
 have b:m.v*det p q r=0:=by unfold det;grind
 have c:m.w*det p q r=0:=by unfold det;grind
 rcases hm with z | z | z
 ·exact (Int.mul_eq_zero.mp a).resolve_left z
 ·exact (Int.mul_eq_zero.mp b).resolve_left z
 ·exact (Int.mul_eq_zero.mp c).resolve_left z
noncomputable def sm:List T3->Rat
 | []=>0
 | [_]=>0
 | a::b::r=>cx a b+sm (b::r)
theorem dS:∀(L:List T3) (a b:T3),sm (L++[a,b])=sm (L++[a])+cx a b
 | [],a,b=>by simp only [sm,List.nil_append];grind
 | [x],a,b=>by simp only [sm,List.cons_append,List.nil_append];grind
 | x::y::r,a,b=>by
  have:=dS (y::r) a b
  simp only [sm,List.cons_append] at *
  rw [this]
  grind
noncomputable def jX (L:List T3):Rat:=match L with
 | []=>0
 | a::r=>sm (a::r++[a])
noncomputable def su (f:Nat->Rat):Nat->Rat
 | 0=>0
 | k+1=>su f k+f k
theorem vE (f g:Nat->Rat):∀ k,su (λi=>f i+g i) k=su f k+su g k
 | 0=>by simp only [su];grind
 | k+1=>by simp only [su];rw [vE f g k];grind
theorem wZ (f:Nat->Rat):∀ k,su (λi=>f i - f (i+1)) k=f 0 - f k
 | 0=>by simp only [su];grind
 | k+1=>by simp only [su];rw [wZ f k];grind
theorem sT {f g:Nat->Rat}:∀{k},(∀ i,i < k->f i=g i)->su f k=su g k
 | 0,_=>rfl
 | k+1,h=>by simp only [su];rw [sT λi hi=>h i (by omega),h k (by omega)]
section
variable {h:List T3} {t:Nat->Int} {m X:T3}
noncomputable def md (h:List T3) (t:Nat->Int) (i:Nat):T3:=mid (cor h i) (cor h (i+1)) (t i) (t (i+1))
noncomputable def gL (h:List T3) (t:Nat->Int) (X:T3) (i:Nat):Rat :=
 if t i<=0 then (if t (i+1)<=0 then cx (cor h i) (cor h (i+1)) else if t i < 0 then cx (cor h i) (md h t i)+cx (md h t i) X else cx (cor h i) X)
 else (if t (i+1) < 0 then cx X (md h t i)+cx (md h t i) (cor h (i+1)) else if t (i+1)=0 then cx X (cor h (i+1)) else 0)
structure Wk (h:List T3) (t:Nat->Int) (m X:T3):Prop where
 m0:m.u≠0\/m.v≠0\/m.w≠0
 xu:0 < X.u
 xl:tl m X=0
 cu:∀ i,0 < (cor h i).u
 cz:∀ i,t i=0->tl m (cor h i)=0
 mu:∀ i,t i*t (i+1) < 0->0 < (md h t i).u
 ml:∀ i,t i*t (i+1) < 0->tl m (md h t i)=0
noncomputable def stt (t:Nat->Int) (X:T3):List T3:=if t 0<=0 then [] else [X]
noncomputable def pp (h:List T3) (t:Nat->Int) (X:T3) (k:Nat):T3:=if t k<=0 then cor h k else X
noncomputable def On (m:T3) (e:T3):Prop:=tl m e=0/\0 < e.u
theorem Wk.three (W:Wk h t m X) {a b:T3} (ha:On m a) (hb:On m b):cx a X+cx X b=cx a b:=so ha.2 W.xu hb.2 (pq W.m0 ha.1 W.xl hb.1)
theorem lH {i:Nat} (h1:t i<=0) (h2:¬t i*t (i+1) < 0):stp h t i=[cor h i]:=by unfold stp;rw [if_pos h1,if_neg h2];rfl
theorem nF {i:Nat} (h1:t i<=0) (h2:t i*t (i+1) < 0):stp h t i=[cor h i,md h t i]:=by unfold stp md;rw [if_pos h1,if_pos h2];rfl
theorem gU {i:Nat} (h1:¬t i<=0) (h2:t i*t (i+1) < 0):stp h t i=[md h t i]:=by unfold stp md;rw [if_neg h1,if_pos h2];rfl
theorem kh {i:Nat} (h1:¬t i<=0) (h2:¬t i*t (i+1) < 0):stp h t i=[]:=by unfold stp;rw [if_neg h1,if_neg h2];rfl
theorem walk (W:Wk h t m X):∀ k,su (gL h t X) k=sm (stt t X++fl (stp h t) k++[pp h t X k])/\(¬t k<=0->∃ L e,stt t X++fl (stp h t) k=L++[e]/\On m e)
 | 0=>by
  refine ⟨?_,λz=>⟨[],X,?_,W.xl,W.xu⟩⟩
  ·show 0=sm (stt t X++[]++[pp h t X 0])
   unfold stt pp
   split
   ·rfl
   ·simp only [sm,List.append_nil,List.cons_append,List.nil_append]
    rw [cx_self]
    grind
  ·unfold stt
   rw [if_neg z]
   rfl
 | k+1=>by
  obtain ⟨e,o⟩:=walk W k
  show su (gL h t X) k+gL h t X k=_/\_
  rw [e,aV]
  by_cases a:t k<=0
  ·have pk:pp h t X k=cor h k:=by unfold pp;rw [if_pos a]
   rw [pk]
   by_cases b:t (k+1)<=0
   ·have n:¬t k*t (k+1) < 0:=by
     have:=Int.mul_nonneg_of_nonpos_of_nonpos a b
     omega
    have pk1:pp h t X (k+1)=cor h (k+1):=by unfold pp;rw [if_pos b]
    rw [lH a n,pk1,show gL h t X k=cx (cor h k) (cor h (k+1)) by unfold gL;rw [if_pos a,if_pos b]]
    refine ⟨?_,λz=>absurd b z⟩
    have:=dS (stt t X++fl (stp h t) k) (cor h k) (cor h (k+1))
    rw [<- this]
    simp only [List.append_assoc,List.cons_append,List.nil_append]
   ·have pk1:pp h t X (k+1)=X:=by unfold pp;rw [if_neg b]
    by_cases c:t k < 0
    ·have n:t k*t (k+1) < 0:=Int.mul_neg_of_neg_of_pos c (by omega)
     rw [nF a n,pk1,show gL h t X k=cx (cor h k) (md h t k)+cx (md h t k) X by unfold gL;rw [if_pos a,if_neg b,if_pos c]]
     refine ⟨?_,λ_=>⟨stt t X++fl (stp h t) k++[cor h k],md h t k,by simp only [List.append_assoc,List.cons_append,List.nil_append],W.ml k n,W.mu k n⟩⟩
     have s1:=dS (stt t X++fl (stp h t) k) (cor h k) (md h t k)
     have s2:=dS (stt t X++fl (stp h t) k++[cor h k]) (md h t k) X
     simp only [List.append_assoc,List.cons_append,List.nil_append] at s1 s2 ⊢
     rw [s2,s1]
     grind
    ·have z:t k=0:=by omega
     have n:¬t k*t (k+1) < 0:=by rw [z];omega
     rw [lH a n,pk1,show gL h t X k=cx (cor h k) X by unfold gL;rw [if_pos a,if_neg b,if_neg c]]
     refine ⟨?_,λ_=>⟨stt t X++fl (stp h t) k,cor h k,by simp only [List.append_assoc],W.cz k z,W.cu k⟩⟩
     have:=dS (stt t X++fl (stp h t) k) (cor h k) X
     rw [<- this]
     simp only [List.append_assoc,List.cons_append,List.nil_append]
  ·obtain ⟨L,e1,eL,oe⟩:=o a
   have pk:pp h t X k=X:=by unfold pp;rw [if_neg a]
   rw [pk,eL]
   have s0:=dS L e1 X
   by_cases b:t (k+1) < 0
   ·have n:t k*t (k+1) < 0:=Int.mul_neg_of_pos_of_neg (by omega) b
    have pk1:pp h t X (k+1)=cor h (k+1):=by unfold pp;rw [if_pos (by omega)]
    rw [gU a n,pk1,show gL h t X k=cx X (md h t k)+cx (md h t k) (cor h (k+1)) by unfold gL;rw [if_neg a,if_pos b],<- List.append_assoc,eL]
    refine ⟨?_,λz=>absurd (show t (k+1)<=0 by omega) z⟩
    have s1:=dS L e1 (md h t k)
    have s2:=dS (L++[e1]) (md h t k) (cor h (k+1))
    have l3:=W.three oe ⟨W.ml k n,W.mu k n⟩
    simp only [List.append_assoc,List.cons_append,List.nil_append] at s0 s1 s2 ⊢
    rw [s2,s1,s0]
    grind
   ·have n:¬t k*t (k+1) < 0:=by
     have:=Int.mul_nonneg (show 0<=t k by omega) (show 0<=t (k+1) by omega)
     omega
    rw [kh a n,List.append_nil,eL]
    by_cases c:t (k+1)=0
    ·have pk1:pp h t X (k+1)=cor h (k+1):=by unfold pp;rw [if_pos (by omega)]
     rw [pk1,show gL h t X k=cx X (cor h (k+1)) by unfold gL;rw [if_neg a,if_neg b,if_pos c]]
     refine ⟨?_,λz=>absurd (show t (k+1)<=0 by omega) z⟩
     have s1:=dS L e1 (cor h (k+1))
     have l3:=W.three oe ⟨W.cz (k+1) c,W.cu (k+1)⟩
     simp only [List.append_assoc,List.cons_append,List.nil_append] at s0 s1 ⊢
     rw [s1,s0]
     grind
    ·have pk1:pp h t X (k+1)=X:=by unfold pp;rw [if_neg (by omega)]
     rw [pk1,show gL h t X k=0 by unfold gL;rw [if_neg a,if_neg b,if_neg c]]
     refine ⟨by grind,λ_=>⟨L,e1,rfl,oe⟩⟩
end
section
variable {h:List T3} {t:Nat->Int} {m X:T3}
theorem fl_cons {f:Nat->List T3} (k:Nat):fl f (k+1)=[]->fl f k=[]/\f k=[]:=λz=>by rw [aV] at z;exact List.append_eq_nil_iff.mp z
theorem xV (a:¬t 0<=0):∀ k,fl (stp h t) k=[]->0<=t k
 | 0,_=>by omega
 | k+1,z=>by
  obtain ⟨z1,z2⟩:=fl_cons k z
  have tk:=xV a k z1
  by_cases b:t k<=0
  ·unfold stp at z2
   rw [if_pos b] at z2
   exact absurd z2 (by simp)
  ·by_cases c:t k*t (k+1) < 0
   ·rw [gU b c] at z2
    exact absurd z2 (by simp)
   ·rcases Int.lt_or_le (t (k+1)) 0 with y | y
    ·exact absurd (Int.mul_neg_of_pos_of_neg (show 0 < t k by omega) y) c
    ·exact y
theorem pf (W:Wk h t m X) (a:¬t 0<=0):∀ k x r,fl (stp h t) k=x::r->On m x
 | 0,x,r,z=>by cases z
 | k+1,x,r,z=>by
  rw [aV] at z
  cases e:fl (stp h t) k with
  | cons y r' =>
   rw [e] at z
   simp only [List.cons_append,List.cons.injEq] at z
   rw [<- z.1]
   exact pf W a k y r' e
  | nil =>
   rw [e,List.nil_append] at z
   have tk:=xV (h:=h) a k e
   by_cases b:t k<=0
   ·have t0:t k=0:=by omega
    rw [lH b (by rw [t0];omega)] at z
    simp only [List.cons.injEq] at z
    rw [<- z.1]
    exact ⟨W.cz k t0,W.cu k⟩
   ·by_cases c:t k*t (k+1) < 0
    ·rw [gU b c] at z
     simp only [List.cons.injEq] at z
     rw [<- z.1]
     exact ⟨W.ml k c,W.mu k c⟩
    ·rw [kh b c] at z
     cases z
theorem qU (W:Wk h t m X) (n0:0 < h.length) (tn:t h.length=t 0) (ne:fl (stp h t) h.length≠[]):su (gL h t X) h.length=jX (fl (stp h t) h.length):=by
 obtain ⟨e,o⟩:=walk W h.length
 rw [e]
 by_cases a:t 0<=0
 ·have p0:pp h t X h.length=cor h 0:=by unfold pp;rw [tn,if_pos a,dC]
  have s0:stt t X=[]:=by unfold stt;rw [if_pos a]
  rw [p0,s0,List.nil_append]
  have hd:∃ r,fl (stp h t) h.length=cor h 0::r:=by
   obtain ⟨n,en⟩:∃ n,h.length=n+1:=⟨h.length - 1,by omega⟩
   rw [en]
   clear en e o p0 ne n0 tn
   induction n with
   | zero =>
    rw [aV,sj,List.nil_append]
    unfold stp
    rw [if_pos a]
    exact ⟨_,rfl⟩
   | succ n ih =>
    obtain ⟨r,er⟩:=ih
    rw [aV,er]
    exact ⟨_,rfl⟩
  obtain ⟨r,er⟩:=hd
  rw [er]
  rfl
 ·have p0:pp h t X h.length=X:=by unfold pp;rw [tn,if_neg a]
  have s0:stt t X=[X]:=by unfold stt;rw [if_neg a]
  obtain ⟨L,e1,eL,oe⟩:=o (by rw [tn];exact a)
  rw [p0]
  cases ef:fl (stp h t) h.length with
  | nil=>exact absurd ef ne
  | cons x r =>
   have ox:=pf W a _ x r ef
   rw [s0,ef] at eL
   rw [s0]
   have l3:=W.three oe ox
   cases L with
   | nil=>simp at eL
   | cons y L1 =>
    simp only [List.cons_append,List.nil_append,List.cons.injEq] at eL
    obtain ⟨ey,eL⟩:=eL
    show sm (X::(x::r++[X]))=sm (x::r++[x])
    rw [eL]
    have g1:=dS L1 e1 X
    have g2:=dS L1 e1 x
    have g3:sm (X::(L1++[e1]++[X]))=cx X x+sm (L1++[e1]++[X]):=by
     have:L1++[e1]++[X]=x::(r++[X]):=by rw [<- eL];rfl
     rw [this]
     rfl
    rw [g3]
    simp only [List.append_assoc,List.cons_append,List.nil_append] at g1 g2 ⊢
    rw [g1,g2]
    grind
theorem sS:∀ k,su (λi=>cx (cor h i) (cor h (i+1))) k=sm ((List.range k).map (cor h)++[cor h k])
 | 0=>rfl
 | k+1=>by
  show su _ k+cx (cor h k) (cor h (k+1))=_
  rw [sS k,List.range_succ,List.map_append,<- dS]
  simp only [List.map_cons,List.map_nil,List.append_assoc,List.cons_append,List.nil_append]
theorem cor_all:(List.range h.length).map (cor h)=h:=by
 apply List.ext_getElem
 ·simp
 ·intro i h1 h2
  simp only [List.getElem_map,List.getElem_range]
  exact dX h2
theorem Dk (n0:0 < h.length):su (λi=>cx (cor h i) (cor h (i+1))) h.length=jX h:=by
 rw [sS,cor_all,dC]
 cases h with
 | nil=>exact absurd n0 (by decide)
 | cons a r=>rfl
theorem cx_mid {b:Nat} {p q:T3} {s u:Int} (hp:P3 b p) (hq:P3 b q) (hs:s*u < 0):cx p (mid p q s u)+cx (mid p q s u) q=cx p q:=by
 obtain ⟨g,x,y,g0,_,_,e1,e2,e3⟩:=(oX hp hq hs).ex
 have d:det p (mid p q s u) q=0:=by
  have z:g*det p (mid p q s u) q=0:=by unfold det;grind
  exact (Int.mul_eq_zero.mp z).resolve_left (by omega)
 have mu:0 < (mid p q s u).u:=by
  have n0:=gD hp hq hs
  have gg0:=jW (V:=nm p.v q.v s u) (W:=nm p.w q.w s u) n0
  have e:=div_eq (uE (nm p.u q.u s u) (nm p.v q.v s u) (nm p.w q.w s u))
  rcases Int.lt_or_le 0 (mid p q s u).u with z | z
  ·exact z
  ·have:=Int.mul_nonpos_of_nonneg_of_nonpos (show 0<=gg (nm p.u q.u s u) (nm p.v q.v s u) (nm p.w q.w s u) by omega) z
   have e':gg (nm p.u q.u s u) (nm p.v q.v s u) (nm p.w q.w s u)*(mid p q s u).u=nm p.u q.u s u:=e
   omega
 exact so hp.n0 mu hq.n0 d
end
section
variable {h:List T3} {r X:T3} {b:Nat}
theorem wa (i:Nat):md h (tn r h) i=md h (tv r h) i:=by
 unfold md tn
 exact xY _ _ _ _
theorem rT {p q:T3} (hp:P3 b p) (hq:P3 b q) (hs:tl r p*tl r q < 0):tl r (mid p q (tl r p) (tl r q))=0/\0 < (mid p q (tl r p) (tl r q)).u:=by
 have n0:=gD hp hq hs
 have g0:=jW (V:=nm p.v q.v (tl r p) (tl r q)) (W:=nm p.w q.w (tl r p) (tl r q)) n0
 have d1:gg (nm p.u q.u (tl r p) (tl r q)) (nm p.v q.v (tl r p) (tl r q)) (nm p.w q.w (tl r p) (tl r q))*(mid p q (tl r p) (tl r q)).u=nm p.u q.u (tl r p) (tl r q):=div_eq (uE _ _ _)
 have d2:gg (nm p.u q.u (tl r p) (tl r q)) (nm p.v q.v (tl r p) (tl r q)) (nm p.w q.w (tl r p) (tl r q))*(mid p q (tl r p) (tl r q)).v=nm p.v q.v (tl r p) (tl r q):=div_eq (CG _ _ _)
 have d3:gg (nm p.u q.u (tl r p) (tl r q)) (nm p.v q.v (tl r p) (tl r q)) (nm p.w q.w (tl r p) (tl r q))*(mid p q (tl r p) (tl r q)).w=nm p.w q.w (tl r p) (tl r q):=div_eq (CD _ _ _)
 generalize gg (nm p.u q.u (tl r p) (tl r q)) (nm p.v q.v (tl r p) (tl r q)) (nm p.w q.w (tl r p) (tl r q))=g at g0 d1 d2 d3
 generalize mid p q (tl r p) (tl r q)=k at d1 d2 d3 ⊢
 refine ⟨?_,?_⟩
 ·have z:g*tl r k=((tl r q).natAbs:Int)*tl r p+((tl r p).natAbs:Int)*tl r q:=by
   have e:g*tl r k=r.u*(g*k.v)+r.v*(g*k.w)+r.w*(g*k.u):=by simp only [tl];grind
   rw [e,d1,d2,d3]
   simp only [nm,tl]
   grind
  have y:((tl r q).natAbs:Int)*tl r p+((tl r p).natAbs:Int)*tl r q=0:=by
   generalize tl r p=a at hs ⊢
   generalize tl r q=c at hs ⊢
   rcases Int.lt_trichotomy a 0 with x | x | x
   ·rcases Int.lt_trichotomy c 0 with w | w | w
    ·have:=Int.mul_pos_of_neg_of_neg x w;omega
    ·rw [w] at hs;omega
    ·rw [show (c.natAbs:Int)=c by omega,show (a.natAbs:Int) = -a by omega];grind
   ·rw [x] at hs;omega
   ·rcases Int.lt_trichotomy c 0 with w | w | w
    ·rw [show (c.natAbs:Int) = -c by omega,show (a.natAbs:Int)=a by omega];grind
    ·rw [w] at hs;omega
    ·have:=Int.mul_pos x w;omega
  rw [y] at z
  exact (Int.mul_eq_zero.mp z).resolve_left (by omega)
 ·rcases Int.lt_or_le 0 k.u with z | z
  ·exact z
  ·have:=Int.mul_nonpos_of_nonneg_of_nonpos (show 0<=g by omega) z
   omega
theorem g_sum (ok:∀ i,P3 b (cor h i)) (hr:r.u≠0\/r.v≠0\/r.w≠0) (xu:0 < X.u) (xl:tl r X=0) (i:Nat) :
  gL h (tv r h) X i+gL h (tn r h) X i=cx (cor h i) (cor h (i+1))+((if tv r h i=0 then cx (cor h i) X else 0) - (if tv r h (i+1)=0 then cx (cor h (i+1)) X else 0)):=by
 have em:=wa (h:=h) (r:=r) i
 have mm:∀(_:tv r h i*tv r h (i+1) < 0),cx (cor h i) (md h (tv r h) i)+cx (md h (tv r h) i) (cor h (i+1))=cx (cor h i) (cor h (i+1)):=λz=>cx_mid (ok i) (ok (i+1)) z
 have nn:=pw X (cor h (i+1))
 have nm':=pw X (md h (tv r h) i)
 have t1:tn r h i = - tv r h i:=rfl
 have t2:tn r h (i+1) = - tv r h (i+1):=rfl
 have zz:tv r h i=0->tv r h (i+1)=0->cx (cor h i) X+cx X (cor h (i+1))=cx (cor h i) (cor h (i+1)):=λz1 z2=>so (ok i).n0 xu (ok (i+1)).n0 (pq hr z1 xl z2)
 unfold gL
 rw [em,t1,t2]
 generalize tv r h i=a at *
 generalize tv r h (i+1)=c at *
 rcases Int.lt_trichotomy a 0 with x | x | x
 ·rcases Int.lt_trichotomy c 0 with w | w | w
  ·rw [if_pos (show a<=0 by omega),if_pos (show c<=0 by omega),if_neg (show ¬ -a<=0 by omega),if_neg (show ¬ -c < 0 by omega),if_neg (show ¬ -c=0 by omega),if_neg (show ¬a=0 by omega),if_neg (show ¬c=0 by omega)];grind
  ·rw [if_pos (show a<=0 by omega),if_pos (show c<=0 by omega),if_neg (show ¬ -a<=0 by omega),if_neg (show ¬ -c < 0 by omega),if_pos (show -c=0 by omega),if_neg (show ¬a=0 by omega),if_pos w];grind
  ·have k:=mm (Int.mul_neg_of_neg_of_pos x w)
   rw [if_pos (show a<=0 by omega),if_neg (show ¬c<=0 by omega),if_pos x,if_neg (show ¬ -a<=0 by omega),if_pos (show -c < 0 by omega),if_neg (show ¬a=0 by omega),if_neg (show ¬c=0 by omega)];grind
 ·rcases Int.lt_trichotomy c 0 with w | w | w
  ·rw [if_pos (show a<=0 by omega),if_pos (show c<=0 by omega),if_pos (show -a<=0 by omega),if_neg (show ¬ -c<=0 by omega),if_neg (show ¬ -a < 0 by omega),if_pos x,if_neg (show ¬c=0 by omega)];grind
  ·have k:=zz x w
   rw [if_pos (show a<=0 by omega),if_pos (show c<=0 by omega),if_pos (show -a<=0 by omega),if_pos (show -c<=0 by omega),if_pos x,if_pos w];grind
  ·rw [if_pos (show a<=0 by omega),if_neg (show ¬c<=0 by omega),if_neg (show ¬a < 0 by omega),if_pos (show -a<=0 by omega),if_pos (show -c<=0 by omega),if_pos x,if_neg (show ¬c=0 by omega)];grind
 ·rcases Int.lt_trichotomy c 0 with w | w | w
  ·have k:=mm (Int.mul_neg_of_pos_of_neg x w)
   rw [if_neg (show ¬a<=0 by omega),if_pos w,if_pos (show -a<=0 by omega),if_neg (show ¬ -c<=0 by omega),if_pos (show -a < 0 by omega),if_neg (show ¬a=0 by omega),if_neg (show ¬c=0 by omega)];grind
  ·rw [if_neg (show ¬a<=0 by omega),if_neg (show ¬c < 0 by omega),if_pos w,if_pos (show -a<=0 by omega),if_pos (show -c<=0 by omega),if_neg (show ¬a=0 by omega),if_pos w];grind
  ·rw [if_neg (show ¬a<=0 by omega),if_neg (show ¬c < 0 by omega),if_neg (show ¬c=0 by omega),if_pos (show -a<=0 by omega),if_pos (show -c<=0 by omega),if_neg (show ¬a=0 by omega)];grind
theorem Ag (ok:∀ i,P3 b (cor h i)) (hr:r.u≠0\/r.v≠0\/r.w≠0) (xu:0 < X.u) (xl:tl r X=0):Wk h (tv r h) r X/\Wk h (tn r h) r X:=by
 have neg:∀ i,tn r h i*tn r h (i+1)=tv r h i*tv r h (i+1):=λi=>by show -tv r h i*-tv r h (i+1)=_;grind
 refine ⟨⟨hr,xu,xl,λi=>(ok i).n0,λi z=>z,λi z=>(rT (ok i) (ok (i+1)) z).2,λi z=>(rT (ok i) (ok (i+1)) z).1⟩,
  ⟨hr,xu,xl,λi=>(ok i).n0,λi z=>by have z':- tl r (cor h i)=0:=z;omega,λi z=>?_,λi z=>?_⟩⟩
 ·rw [wa]
  rw [neg] at z
  exact (rT (ok i) (ok (i+1)) z).2
 ·rw [wa]
  rw [neg] at z
  exact (rT (ok i) (ok (i+1)) z).1
theorem zO {l:Nat} (H:sJ b l h) {p q:T3} (hp:p∈h) (hq:q∈h) (p0:tl r p < 0) (q0:0 < tl r q):jX (low r h)+jX (high r h)=jX h:=by
 have ok:∀ i,P3 b (cor h i):=λi=>H.ok _ (cX H.pos i)
 have hr:r.u≠0\/r.v≠0\/r.w≠0:=by
  rcases Decidable.em (r.u=0) with z1 | z1
  ·rcases Decidable.em (r.v=0) with z2 | z2
   ·refine .inr (.inr λz3=>?_)
    unfold tl at p0
    rw [z1,z2,z3] at p0
    omega
   ·exact .inr (.inl z2)
  ·exact .inl z1
 have xs:∃ X:T3,0 < X.u/\tl r X=0:=by
  refine ⟨⟨tl r q*p.u + -(tl r p)*q.u,tl r q*p.v + -(tl r p)*q.v,tl r q*p.w + -(tl r p)*q.w⟩,?_,?_⟩
  ·show 0 < tl r q*p.u + -(tl r p)*q.u
   have:=Int.mul_pos q0 (H.ok p hp).n0
   have:=Int.mul_pos (show 0 < -(tl r p) by omega) (H.ok q hq).n0
   omega
  ·show r.u*(tl r q*p.v + -(tl r p)*q.v)+r.v*(tl r q*p.w + -(tl r p)*q.w)+r.w*(tl r q*p.u + -(tl r p)*q.u)=0
   simp only [tl]
   grind
 obtain ⟨X,xu,xl⟩:=xs
 obtain ⟨W1,W2⟩:=Ag ok hr xu xl
 have at_:∀{x:T3},x∈h->∃ i,i < h.length/\cor h i=x:=λhx=>by
  obtain ⟨i,hi,e⟩:=List.mem_iff_getElem.mp hx
  exact ⟨i,hi,(dX hi).trans e⟩
 have e1:low r h≠[]:=λz=>by
  obtain ⟨i,hi,e⟩:=at_ hp
  have:cor h i∈low r h:=CL hi (by unfold stp;rw [if_pos (show tv r h i<=0 by unfold tv;rw [e];omega)];simp)
  rw [z] at this
  cases this
 have e2:high r h≠[]:=λz=>by
  obtain ⟨i,hi,e⟩:=at_ hq
  have:cor h i∈high r h:=CL hi (by unfold stp;rw [if_pos (show tn r h i<=0 by unfold tn;rw [e];omega)];simp)
  rw [z] at this
  cases this
 have tl0:tv r h h.length=tv r h 0:=by unfold tv;rw [dC]
 have th0:tn r h h.length=tn r h 0:=by unfold tn;rw [dC]
 have a1:=qU W1 H.pos tl0 e1
 have a2:=qU W2 H.pos th0 e2
 have a3:=Dk (h:=h) H.pos
 show jX (fl (stp h (tv r h)) h.length)+jX (fl (stp h (tn r h)) h.length)=jX h
 rw [<- a1,<- a2,<- a3,<- vE,sT (λi _=>g_sum ok hr xu xl i),vE,wZ (λi=>if tv r h i=0 then cx (cor h i) X else 0)]
 rw [tl0,dC]
 grind
end
end Hu
namespace Hu
noncomputable def sG (L:List T3):Prop:=∀ p q r,[p,q,r].Sublist L->0 < det p q r
theorem sG.tri {L:List T3} (T:sG L):Tri L:=λp q r s=>Int.le_of_lt (T p q r s)
structure Cs (p q X:T3) (b0:Bool):Prop where
 ex:∃ g a b:Int,0 < g/\0 < a/\0<=b/\(b0=true->0 < b)/\g*X.u=a*p.u+b*q.u/\g*X.v=a*p.v+b*q.v/\g*X.w=a*p.w+b*q.w
theorem Cs.co {p q X:T3} {b0:Bool} (h:Cs p q X b0):Co p q X:=by
 obtain ⟨g,a,b,h1,h2,h3,_,e⟩:=h.ex
 exact ⟨g,a,b,h1,by omega,h3,e⟩
theorem xM {g x:Int} (hg:0 < g) (h:0 < g*x):0 < x:=by
 rcases Int.lt_or_le 0 x with z | z
 ·exact z
 ·have:=Int.mul_nonpos_of_nonneg_of_nonpos (show 0<=g by omega) z;omega
theorem cs_1 {p q X Y Z:T3} {b0:Bool} (h:Cs p q X b0) (h1:0 < det p Y Z) (h2:0<=det q Y Z):0 < det X Y Z:=by
 obtain ⟨g,a,b,hg,ha,hb,_,e1,e2,e3⟩:=h.ex
 refine xM hg ?_
 have e:g*det X Y Z=a*det p Y Z+b*det q Y Z:=by simp only [det];grind
 rw [e]
 have:=Int.mul_pos ha h1
 have:=Int.mul_nonneg hb h2
 omega
theorem cs_1' {p q X Y Z:T3} (h:Cs p q X true) (h1:0<=det p Y Z) (h2:0 < det q Y Z):0 < det X Y Z:=by
 obtain ⟨g,a,b,hg,ha,hb,hb',e1,e2,e3⟩:=h.ex
 refine xM hg ?_
 have e:g*det X Y Z=a*det p Y Z+b*det q Y Z:=by simp only [det];grind
 rw [e]
 have:=Int.mul_nonneg (show 0<=a by omega) h1
 have:=Int.mul_pos (hb' rfl) h2
 omega
theorem cs_2 {p q X Y Z:T3} {b0:Bool} (h:Cs p q Y b0) (h1:0 < det X p Z) (h2:0<=det X q Z):0 < det X Y Z:=by
 rw [bH,bH]
 rw [bH,bH] at h1 h2
 exact cs_1 h h1 h2
theorem cs_2' {p q X Y Z:T3} (h:Cs p q Y true) (h1:0<=det X p Z) (h2:0 < det X q Z):0 < det X Y Z:=by
 rw [bH,bH]
 rw [bH,bH] at h1 h2
 exact cs_1' h h1 h2
theorem cs_3 {p q X Y Z:T3} {b0:Bool} (h:Cs p q Z b0) (h1:0 < det X Y p) (h2:0<=det X Y q):0 < det X Y Z:=by
 rw [bH]
 rw [bH] at h1 h2
 exact cs_1 h h1 h2
theorem cs_3' {p q X Y Z:T3} (h:Cs p q Z true) (h1:0<=det X Y p) (h2:0 < det X Y q):0 < det X Y Z:=by
 rw [bH]
 rw [bH] at h1 h2
 exact cs_1' h h1 h2
theorem cs_own (p q:T3):Cs p q p false:=⟨1,1,0,by decide,by decide,by decide,(λz=>nomatch z),by omega,by omega,by omega⟩
theorem gq {h:List T3} (T:sG h) {i j k:Nat} (h1:i < j) (h2:j < k) (h3:k < h.length):0 < det (cor h i) (cor h j) (cor h k):=by
 rw [dX (show i < h.length by omega),dX (show j < h.length by omega),dX h3]
 exact T _ _ _ (lF h1 h2 h3)
section
variable {b l:Nat} {h:List T3} {t:Nat->Int}
theorem qY (ok:∀ i,P3 b (cor h i)) {i:Nat} {x:T3} (hx:x∈stp h t i):(t i<=0/\x=cor h i)\/(t i*t (i+1) < 0/\x=md h t i/\Cs (cor h i) (cor h (i+1)) x true):=by
 unfold stp at hx
 rcases List.mem_append.mp hx with z | z
 ·split at z
  ·rename_i c
   exact .inl ⟨c,List.mem_singleton.mp z⟩
  ·cases z
 ·split at z
  ·rename_i c
   have e:=List.mem_singleton.mp z
   refine .inr ⟨c,e,?_⟩
   have n0:=gD (ok i) (ok (i+1)) c
   have g0:=jW (V:=nm (cor h i).v (cor h (i+1)).v (t i) (t (i+1))) (W:=nm (cor h i).w (cor h (i+1)).w (t i) (t (i+1))) n0
   have s0:t i≠0:=λz=>by rw [z] at c;omega
   have t0:t (i+1)≠0:=λz=>by rw [z] at c;omega
   rw [e]
   exact ⟨_,(t (i+1)).natAbs,(t i).natAbs,g0,by omega,by omega,(λ_=>by omega),div_eq (uE _ _ _),div_eq (CG _ _ _),div_eq (CD _ _ _)⟩
  ·cases z
theorem md_cs (ok:∀ i,P3 b (cor h i)) {i:Nat} (c:t i*t (i+1) < 0):Cs (cor h i) (cor h (i+1)) (md h t i) true:=by
 have n0:=gD (ok i) (ok (i+1)) c
 have g0:=jW (V:=nm (cor h i).v (cor h (i+1)).v (t i) (t (i+1))) (W:=nm (cor h i).w (cor h (i+1)).w (t i) (t (i+1))) n0
 have s0:t i≠0:=λz=>by rw [z] at c;omega
 have t0:t (i+1)≠0:=λz=>by rw [z] at c;omega
 exact ⟨_,(t (i+1)).natAbs,(t i).natAbs,g0,by omega,by omega,(λ_=>by omega),div_eq (uE _ _ _),div_eq (CG _ _ _),div_eq (CD _ _ _)⟩
theorem kj (ok:∀ i,P3 b (cor h i)) {i:Nat} {x:T3} (hx:x∈stp h t i):∃ b0,Cs (cor h i) (cor h (i+1)) x b0:=by
 rcases qY ok hx with ⟨_,e⟩ | ⟨_,_,c⟩
 ·exact ⟨false,e ▸ cs_own _ _⟩
 ·exact ⟨true,c⟩
theorem xa {i:Nat} {x y:T3} (s:[x,y].Sublist (stp h t i)):x=cor h i/\y=md h t i/\t i<=0/\t i*t (i+1) < 0:=by
 by_cases a:t i<=0
 ·by_cases c:t i*t (i+1) < 0
  ·rw [nF a c] at s
   have e:=s.eq_of_length (by simp)
   simp at e
   exact ⟨e.1,e.2,a,c⟩
  ·rw [lH a c] at s
   have:=s.length_le
   simp at this
 ·by_cases c:t i*t (i+1) < 0
  ·rw [gU a c] at s
   have:=s.length_le
   simp at this
  ·rw [kh a c] at s
   have:=s.length_le
   simp at this
theorem pA (ok:∀ i,P3 b (cor h i)) (T:sG h) (n3:3<=h.length) (tn:t h.length=t 0):sG (fl (stp h t) h.length):=by
 have R:=T.tri
 intro p q r s
 rcases qf s with ⟨i,j,k,a,c,d,hp,hq,hr⟩ | ⟨i,k,a,d,hpq,hr⟩ | ⟨i,k,a,d,hp,hqr⟩ | ⟨i,a,d⟩
 ·obtain ⟨b1,h1⟩:=kj ok hp
  obtain ⟨b2,h2⟩:=kj ok hq
  obtain ⟨b3,h3⟩:=kj ok hr
  refine cs_1 h1 (cs_2 h2 (cs_3 h3 (gq T a c d) ?_) (co_3 h3.co ?_ ?_)) (co_2 h2.co (co_3 h3.co ?_ ?_) (co_3 h3.co ?_ ?_)) <;> exact rD R (by omega) (by omega) (by omega)
 ·
  obtain ⟨rfl,rfl,ti,tc⟩:=xa hpq
  have cm:=md_cs ok tc
  have ti0:t i < 0:=by
   rcases Int.lt_or_le (t i) 0 with z | z
   ·exact z
   ·have:t i=0:=by omega
    rw [this] at tc;omega
  have ti1:0 < t (i+1):=by
   rcases Int.lt_or_le 0 (t (i+1)) with z | z
   ·exact z
   ·have:=Int.mul_nonneg_of_nonpos_of_nonpos (show t i<=0 by omega) z
    omega
  obtain ⟨b3,h3⟩:=kj ok hr
  refine cs_2' cm (by rw [wu];exact Int.le_refl 0) ?_
  rcases Nat.lt_or_ge (i+1) k with z | z
  ·exact cs_3 h3 (gq T (by omega) z d) (rD R (by omega) (by omega) (by omega))
  ·have ek:k=i+1:=by omega
   subst ek
   rcases qY ok hr with ⟨y,_⟩ | ⟨_,_,cr⟩
   ·omega
   ·refine cs_3' cr (by rw [wt];exact Int.le_refl 0) ?_
    rcases Nat.lt_or_ge (i+1+1) h.length with y | y
    ·exact gq T (by omega) (by omega) y
    ·rw [show i+1+1=h.length by omega,dC,bH]
     exact gq T (by omega) (by omega) (by omega)
 ·
  obtain ⟨rfl,rfl,tk,tc⟩:=xa hqr
  have cm:=md_cs ok tc
  have tk0:t k < 0:=by
   rcases Int.lt_or_le (t k) 0 with z | z
   ·exact z
   ·have:t k=0:=by omega
    rw [this] at tc;omega
  have tk1:0 < t (k+1):=by
   rcases Int.lt_or_le 0 (t (k+1)) with z | z
   ·exact z
   ·have:=Int.mul_nonneg_of_nonpos_of_nonpos (show t k<=0 by omega) z
    omega
  refine cs_3' cm (by rw [wt];exact Int.le_refl 0) ?_
  rcases Nat.lt_or_ge (k+1) h.length with z | z
  ·obtain ⟨b1,h1⟩:=kj ok hp
   exact cs_1 h1 (gq T a (by omega) z) (rD R (by omega) (by omega) (by omega))
  ·have ek:k+1=h.length:=by omega
   rw [ek,dC]
   rcases qY ok hp with ⟨y,e⟩ | ⟨_,_,cp⟩
   ·rcases Nat.eq_zero_or_pos i with i0 | i0
    ·subst i0
     rw [ek,tn] at tk1
     omega
    ·rw [e,bH]
     exact gq T i0 a (by omega)
   ·rw [bH]
    rcases Nat.eq_zero_or_pos i with i0 | i0
    ·subst i0
     refine cs_2' cp (by rw [wu];exact Int.le_refl 0) ?_
     exact gq T (by omega) (by omega) (by omega)
    ·exact cs_2 cp (gq T i0 a (by omega)) (rD R (by omega) (by omega) (by omega))
 ·have l1:3<=(stp h t i).length:=d.length_le
  have:(stp h t i).length<=2:=by unfold stp;split <;> split <;> simp
  omega
end
theorem rat_pos {n d:Int} (hn:0 < n) (hd:0 < d):0 < (n:Rat) / (d:Rat):=by
 have h1:(0:Rat) < n:=by exact_mod_cast hn
 have h2:(0:Rat) < d:=by exact_mod_cast hd
 rw [Rat.div_def]
 exact Rat.mul_pos h1 (Rat.inv_pos.mpr h2)
theorem fan:∀(L:List T3) (a:T3),(∀ p∈a::L,0 < p.u)->sG (a::L)->(L.length<=1->sm (L++[a])+(match L with | []=>0 | x::_=>cx a x)=0)/\(2<=L.length->0 < sm (L++[a])+(match L with | []=>0 | x::_=>cx a x))
 | [],a,_,_=>⟨λ_=>by simp only [sm,List.nil_append];grind,λz=>absurd z (by simp)⟩
 | [x],a,_,_=>⟨λ_=>by simp only [sm,List.cons_append,List.nil_append];rw [pw a x];grind,λz=>absurd z (by simp)⟩
 | x::y::r,a,u,T=>by
  refine ⟨λz=>absurd z (by simp),λ_=>?_⟩
  have sub:sG (a::y::r):=λp q s h=>T p q s (h.trans (List.Sublist.cons₂ _ (List.Sublist.cons _ (List.Sublist.refl _))))
  have u2:∀ p∈a::y::r,0 < p.u:=λp hp=>by
   rcases List.mem_cons.mp hp with z | z
   ·exact u p (List.mem_cons.mpr (.inl z))
   ·exact u p (List.mem_cons_of_mem _ (List.mem_cons_of_mem _ z))
  obtain ⟨f1,f2⟩:=fan (y::r) a u2 sub
  have ua:=u a (by simp)
  have ux:=u x (by simp)
  have uy:=u y (by simp)
  have d:=T a x y (List.Sublist.cons₂ _ (List.Sublist.cons₂ _ (List.Sublist.cons₂ _ (List.nil_sublist _))))
  have c3:=uM ua ux uy
  have pos:0 < cx a x+cx x y+cx y a:=by
   rw [c3]
   have:=rat_pos d (Int.mul_pos (Int.mul_pos ua ux) uy)
   simp only [Rat.intCast_mul] at this
   exact this
  rw [pw a y] at pos
  have e:sm (x::y::r++[a])=cx x y+sm (y::r++[a]):=rfl
  show 0 < sm (x::y::r++[a])+cx a x
  rw [e]
  rcases Nat.lt_or_ge r.length 1 with z | z
  ·have:=f1 (by rw [List.length_cons];omega)
   dsimp only at this
   grind
  ·have:=f2 (by rw [List.length_cons];omega)
   dsimp only at this
   grind
theorem uW {L:List T3} (u:∀ p∈L,0 < p.u) (T:sG L) (n3:3<=L.length):0 < jX L:=by
 match L,n3 with
 | a::x::r,n3 =>
  have:=(fan (x::r) a u T).2 (by simp at n3 ⊢;omega)
  have e:jX (a::x::r)=cx a x+sm (x::r++[a]):=rfl
  rw [e]
  dsimp only at this
  grind
end Hu
namespace Hu
theorem CS {a k b c:Int} (h1:a∣k*b) (h2:a∣k*c):a∣k*Lo.gc b c:=by
 have h:=Int.dvd_coe_gcd h1 h2
 rw [Int.gcd_mul_left] at h
 have e:((k.natAbs*Int.gcd b c:Nat):Int)=(k.natAbs:Int)*Lo.gc b c:=by unfold Lo.gc;rw [Int.natCast_mul]
 rw [e] at h
 rcases Int.natAbs_eq k with z | z
 ·rw [z];exact h
 ·rw [z,Int.neg_mul];exact Int.dvd_neg.mpr h
theorem CH {g u v w:Int} (hg:0 < g) (h:gg (g*u) (g*v) (g*w)=g):gg u v w=1:=by
 unfold gg at *
 rw [Lo.CJ] at h
 have e:((g.natAbs:Nat):Int)=g:=by omega
 rw [e,Lo.CJ,e] at h
 exact Int.eq_of_mul_eq_mul_left (show g≠0 by omega) (h.trans (Int.mul_one g).symm)
theorem Ck {b:Nat} {p q:T3} {s t:Int} (hp:P3 b p) (hq:P3 b q) (h:s*t < 0):gg (mid p q s t).u (mid p q s t).v (mid p q s t).w=1:=by
 have n0:=gD hp hq h
 have g0:=jW (V:=nm p.v q.v s t) (W:=nm p.w q.w s t) n0
 refine CH g0 ?_
 have e1:=div_eq (uE (nm p.u q.u s t) (nm p.v q.v s t) (nm p.w q.w s t))
 have e2:=div_eq (CG (nm p.u q.u s t) (nm p.v q.v s t) (nm p.w q.w s t))
 have e3:=div_eq (CD (nm p.u q.u s t) (nm p.v q.v s t) (nm p.w q.w s t))
 show gg (_*(nm p.u q.u s t).fdiv _) (_*(nm p.v q.v s t).fdiv _) (_*(nm p.w q.w s t).fdiv _)=_
 rw [e1,e2,e3]
noncomputable def Nz (m:T3):Prop:=m.u≠0\/m.v≠0\/m.w≠0
theorem on_two {l r m p:T3} (hm:0 < m.u) (pr:gg m.u m.v m.w=1) (h1:tl l m=0) (h2:tl r m=0) (nl:Nz l) (p1:tl l p=0) (p2:tl r p≠0) :
  m.u.natAbs<=(l.u*r.v - l.v*r.u).natAbs/\m.v.natAbs<=(l.v*r.w - l.w*r.v).natAbs/\m.w.natAbs<=(l.w*r.u - l.u*r.w).natAbs:=by
 have e1:(l.u*r.v - l.v*r.u)*m.v=m.u*(l.v*r.w - l.w*r.v):=by simp only [tl] at h1 h2;grind
 have e2:(l.u*r.v - l.v*r.u)*m.w=m.u*(l.w*r.u - l.u*r.w):=by simp only [tl] at h1 h2;grind
 have x0:l.u*r.v - l.v*r.u≠0:=λz=>by
  rw [z,Int.zero_mul] at e1 e2
  have z1:l.v*r.w - l.w*r.v=0:=(Int.mul_eq_zero.mp e1.symm).resolve_left (by omega)
  have z2:l.w*r.u - l.u*r.w=0:=(Int.mul_eq_zero.mp e2.symm).resolve_left (by omega)
  have a1:l.u*tl r p=0:=by simp only [tl] at p1 ⊢;grind
  have a2:l.v*tl r p=0:=by simp only [tl] at p1 ⊢;grind
  have a3:l.w*tl r p=0:=by simp only [tl] at p1 ⊢;grind
  rcases nl with y | y | y
  ·exact (Int.mul_eq_zero.mp a1).elim y p2
  ·exact (Int.mul_eq_zero.mp a2).elim y p2
  ·exact (Int.mul_eq_zero.mp a3).elim y p2
 have d:m.u∣l.u*r.v - l.v*r.u:=by
  have d1:m.u∣(l.u*r.v - l.v*r.u)*m.u:=Int.dvd_mul_left _ _
  have d2:m.u∣(l.u*r.v - l.v*r.u)*m.v:=by rw [e1];exact Int.dvd_mul_right _ _
  have d3:m.u∣(l.u*r.v - l.v*r.u)*m.w:=by rw [e2];exact Int.dvd_mul_right _ _
  have d4:=CS (CS d1 d2) d3
  have pr':Lo.gc (Lo.gc m.u m.v) m.w=1:=pr
  rw [pr',Int.mul_one] at d4
  exact d4
 obtain ⟨q,eq⟩:=d
 have q0:q≠0:=λz=>by rw [z,Int.mul_zero] at eq;exact x0 eq
 have f1:l.v*r.w - l.w*r.v=q*m.v:=by
  rw [eq,Int.mul_assoc] at e1
  exact (Int.eq_of_mul_eq_mul_left (show m.u≠0 by omega) e1).symm
 have f2:l.w*r.u - l.u*r.w=q*m.w:=by
  rw [eq,Int.mul_assoc] at e2
  exact (Int.eq_of_mul_eq_mul_left (show m.u≠0 by omega) e2).symm
 have big:∀ x:Int,x.natAbs<=(q*x).natAbs:=λx=>by
  rw [Int.natAbs_mul]
  exact Nat.le_mul_of_pos_left _ (by omega)
 refine ⟨?_,?_,?_⟩
 ·rw [eq,Int.mul_comm];exact big _
 ·rw [f1];exact big _
 ·rw [f2];exact big _
theorem rS {a b c d:Int} (h1:a.natAbs < 2 ^ 64) (h2:b.natAbs < 2 ^ 64) (h3:c.natAbs < 2 ^ 64) (h4:d.natAbs < 2 ^ 64):(a*b - c*d).natAbs < 2 ^ 130:=by
 have y1:=jS (m:=64) (n:=64) h1 h2
 have y2:=jS (m:=64) (n:=64) h3 h4
 omega
noncomputable def Shr (p q:T3):Prop:=∃ m:T3,R3 64 m/\Nz m/\tl m p=0/\tl m q=0
noncomputable def Nb:List T3->Prop
 | []=>True
 | [_]=>True
 | a::b::r=>Shr a b/\Nb (b::r)
theorem rP:∀{L:List T3} {a b:T3},Nb (L++[a])->Shr a b->Nb (L++[a,b])
 | [],_,_,_,h=>⟨h,trivial⟩
 | [x],_,_,n,h=>⟨n.1,h,trivial⟩
 | x::y::r,_,_,n,h=>⟨n.1,rP (L:=y::r) n.2 h⟩
theorem nb_at:∀{L:List T3} {i:Nat} {a b:T3},Nb L->L[i]?=some a->L[i+1]?=some b->Shr a b
 | [],_,_,_,_,h,_=>by cases h
 | [_],i,_,_,_,_,h=>by cases i <;> cases h
 | _::_::_,0,_,_,n,h,g=>by cases h;cases g;exact n.1
 | _::y::r,i+1,_,_,n,h,g=>nb_at (L:=y::r) (i:=i) n.2 h g
theorem BE {b:Nat} {p q m:T3} {s t:Int} (hp:P3 b p) (hq:P3 b q) (h:s*t < 0) (h1:tl m p=0) (h2:tl m q=0):tl m (mid p q s t)=0:=by
 obtain ⟨g,x,y,g0,_,_,e1,e2,e3⟩:=(oX hp hq h).ex
 have z:g*tl m (mid p q s t)=0:=by
  have e:g*tl m (mid p q s t)=m.u*(g*(mid p q s t).v)+m.v*(g*(mid p q s t).w)+m.w*(g*(mid p q s t).u):=by simp only [tl];grind
  rw [e,e1,e2,e3]
  simp only [tl] at h1 h2
  grind
 exact (Int.mul_eq_zero.mp z).resolve_left (by omega)
structure HK (h:List T3):Prop where
 tri:sG h
 n3:3<=h.length
 ok:∀ p∈h,P3 130 p
 pr:∀ p∈h,gg p.u p.v p.w=1
 sh:∀ i,i < h.length->Shr (cor h i) (cor h (i+1))
theorem HK.cok {h:List T3} (H:HK h):∀ i,P3 130 (cor h i):=λi=>H.ok _ (cX (by have:=H.n3;omega) i)
section
variable {h:List T3} {r X:T3} {t:Nat->Int}
theorem md_ok (H:HK h) (hr:R3 64 r) (et:∀ i,t i=tl r (cor h i)\/t i = - tl r (cor h i)) (W:Wk h t r X) {i:Nat} (hi:i < h.length) (c:t i*t (i+1) < 0):P3 130 (md h t i)/\gg (md h t i).u (md h t i).v (md h t i).w=1:=by
 have ok:=H.cok
 have pr:=Ck (ok i) (ok (i+1)) c
 refine ⟨?_,pr⟩
 obtain ⟨m,m5,mz,m1,m2⟩:=H.sh i hi
 have o1:=BE (ok i) (ok (i+1)) c m1 m2
 have o2:=W.ml i c
 have u0:=W.mu i c
 have tp:tl r (cor h i)≠0:=λz=>by
  have:t i=0:=by rcases et i with e | e <;> rw [e,z] <;> rfl
  rw [this] at c
  omega
 obtain ⟨b1,b2,b3⟩:=on_two (m:=md h t i) u0 pr o1 o2 mz m1 tp
 have k1:=rS m5.a hr.b m5.b hr.a
 have k2:=rS m5.b hr.c m5.c hr.b
 have k3:=rS m5.c hr.a m5.a hr.c
 obtain ⟨g,x,y,g0,x0,y0,e1,e2,e3⟩:=(oX (ok i) (ok (i+1)) c).ex
 have v0:0<=(md h t i).v:=rJ g0 (by
  have e:g*(md h t i).v=x*(cor h i).v+y*(cor h (i+1)).v:=e2
  rw [e]
  have:=Int.mul_nonneg x0 (ok i).x0
  have:=Int.mul_nonneg y0 (ok (i+1)).x0
  omega)
 have w0:0<=(md h t i).w:=rJ g0 (by
  have e:g*(md h t i).w=x*(cor h i).w+y*(cor h (i+1)).w:=e3
  rw [e]
  have:=Int.mul_nonneg x0 (ok i).y0
  have:=Int.mul_nonneg y0 (ok (i+1)).y0
  omega)
 exact ⟨u0,v0,w0,by omega,by omega,by omega⟩
theorem xX (H:HK h) (hr:R3 64 r) (W:Wk h t r X):∀ k,k<=h.length->Nb (fl (stp h t) k)/\∀ L e,fl (stp h t) k=L++[e]->(t k<=0->Shr e (cor h k))/\(¬t k<=0->tl r e=0)
 | 0,_=>⟨trivial,λL e z=>by rw [sj] at z;exact absurd z (by simp)⟩
 | k+1,hk=>by
  obtain ⟨n,o⟩:=xX H hr W k (by omega)
  have ok:=H.cok
  have on_r:∀{a b:T3},tl r a=0->tl r b=0->Shr a b:=λh1 h2=>⟨r,hr,W.m0,h1,h2⟩
  have sd:t k*t (k+1) < 0->Shr (cor h k) (md h t k)/\Shr (md h t k) (cor h (k+1)):=λc=>by
   obtain ⟨m,m5,mz,m1,m2⟩:=H.sh k (by omega)
   have o1:=BE (ok k) (ok (k+1)) c m1 m2
   exact ⟨⟨m,m5,mz,m1,o1⟩,⟨m,m5,mz,o1,m2⟩⟩
  have add:∀ x,(∀ L e,fl (stp h t) k=L++[e]->Shr e x)->Nb (fl (stp h t) k++[x]):=λx hx=>by
   rcases List.eq_nil_or_concat (fl (stp h t) k) with z | ⟨L,e,z⟩
   ·rw [z];exact trivial
   ·rw [List.concat_eq_append] at z
    have n':=n
    rw [z] at n' ⊢
    have:=rP n' (hx L e z)
    simpa using this
  have last1:∀{A:List T3} {x:T3} {L:List T3} {e:T3},A++[x]=L++[e]->e=x:=λz=>by
   have:=congrArg List.getLast? z
   simp at this
   exact this.symm
  rw [aV]
  by_cases a:t k<=0
  ·have nk:=add (cor h k) λL e z=>(o L e z).1 a
   by_cases b:t (k+1)<=0
   ·have c:¬t k*t (k+1) < 0:=by
     have:=Int.mul_nonneg_of_nonpos_of_nonpos a b
     omega
    rw [lH a c]
    refine ⟨nk,λL e z=>?_⟩
    rw [last1 z]
    exact ⟨λ_=>H.sh k (by omega),λy=>absurd b y⟩
   ·by_cases d:t k < 0
    ·have c:t k*t (k+1) < 0:=Int.mul_neg_of_neg_of_pos d (by omega)
     rw [nF a c]
     refine ⟨rP nk (sd c).1,λL e z=>?_⟩
     have z':(fl (stp h t) k++[cor h k])++[md h t k]=L++[e]:=by rw [<- z];simp
     rw [last1 z']
     exact ⟨λy=>absurd y b,λ_=>W.ml k c⟩
    ·have t0:t k=0:=by omega
     rw [lH a (by rw [t0];omega)]
     refine ⟨nk,λL e z=>?_⟩
     rw [last1 z]
     exact ⟨λy=>absurd y b,λ_=>W.cz k t0⟩
  ·by_cases b:t (k+1) < 0
   ·have c:t k*t (k+1) < 0:=Int.mul_neg_of_pos_of_neg (by omega) b
    rw [gU a c]
    refine ⟨add _ λL e z=>on_r ((o L e z).2 a) (W.ml k c),λL e z=>?_⟩
    rw [last1 z]
    exact ⟨λ_=>(sd c).2,λy=>absurd (show t (k+1)<=0 by omega) y⟩
   ·have c:¬t k*t (k+1) < 0:=by
     have:=Int.mul_nonneg (show 0<=t k by omega) (show 0<=t (k+1) by omega)
     omega
    rw [kh a c,List.append_nil]
    refine ⟨n,λL e z=>?_⟩
    have q:=(o L e z).2 a
    refine ⟨λy=>?_,λ_=>q⟩
    exact on_r q (W.cz (k+1) (by omega))
theorem uI (a:t 0<=0):∀ n,∃ s,fl (stp h t) (n+1)=cor h 0::s
 | 0=>by
  rw [aV,sj,List.nil_append]
  unfold stp
  rw [if_pos a]
  exact ⟨_,rfl⟩
 | n+1=>by
  obtain ⟨s,e⟩:=uI a n
  rw [aV,e]
  exact ⟨_,rfl⟩
theorem ud {L:List T3} {x:T3} {s:List T3} (e:L=x::s) (n:Nb L) (c:∀ A z,L=A++[z]->Shr z x):∀ i,i < L.length->Shr (cor L i) (cor L (i+1)):=λi hi=>by
 rcases Nat.lt_or_ge (i+1) L.length with z | z
 ·rw [dX hi,dX z]
  exact nb_at (i:=i) n (List.getElem?_eq_getElem hi) (List.getElem?_eq_getElem z)
 ·have ei:i+1=L.length:=by omega
  rw [ei,dC,dX hi,dX (show 0 < L.length by omega)]
  have hne:L≠[]:=by rw [e];simp
  have q:=c L.dropLast (L.getLast hne) (List.dropLast_concat_getLast hne).symm
  have g1:L[i]=L.getLast hne:=by rw [List.getLast_eq_getElem];congr 1;omega
  have g0:L[0]'(by omega)=x:=by simp only [e,List.getElem_cons_zero]
  rw [g1,g0]
  exact q
theorem cut_sh (H:HK h) (hr:R3 64 r) (W:Wk h t r X) (tn:t h.length=t 0) (ne:fl (stp h t) h.length≠[]):∀ i,i < (fl (stp h t) h.length).length->Shr (cor (fl (stp h t) h.length) i) (cor (fl (stp h t) h.length) (i+1)):=by
 obtain ⟨n,o⟩:=xX H hr W h.length (Nat.le_refl _)
 by_cases a:t 0<=0
 ·obtain ⟨m,em⟩:∃ m,h.length=m+1:=⟨h.length - 1,by have:=H.n3;omega⟩
  obtain ⟨s,es⟩:=uI (h:=h) a m
  rw [<- em] at es
  refine ud es n λA z e=>?_
  have:=(o A z e).1 (by rw [tn];exact a)
  rw [dC] at this
  exact this
 ·cases e:fl (stp h t) h.length with
  | nil=>exact absurd e ne
  | cons x s =>
   rw [<- e]
   have ox:=pf W a _ x s e
   refine ud e n λA z ez=>?_
   exact ⟨r,hr,W.m0,(o A z ez).2 (by rw [tn];exact a),ox.1⟩
noncomputable def ca (h:List T3) (t:Nat->Int) (i:Nat):List T3:=if t i<=0 then [cor h i] else []
noncomputable def cb (h:List T3) (t:Nat->Int) (i:Nat):List T3:=if t i*t (i+1) < 0 then [md h t i] else []
theorem Ax (i:Nat):stp h t i=ca h t i++cb h t i:=rfl
theorem ya:∀ n,(fl (stp h t) n).length=(fl (ca h t) n).length+(fl (cb h t) n).length
 | 0=>rfl
 | n+1=>by
  rw [aV,aV,aV,List.length_append,List.length_append,List.length_append,ya n,Ax,List.length_append]
  omega
theorem Dj {j:Nat} (tj:0 < t j):∀ n,(fl (ca h t) n).length<=n/\(j < n->(fl (ca h t) n).length+1<=n)
 | 0=>⟨Nat.le_refl _,λz=>absurd z (Nat.not_lt_zero _)⟩
 | n+1=>by
  obtain ⟨a,b⟩:=Dj tj n
  rw [aV,List.length_append]
  have c:(ca h t n).length<=1:=by unfold ca;split <;> simp
  refine ⟨by omega,λz=>?_⟩
  rcases Nat.lt_or_ge j n with y | y
  ·have:=b y;omega
  ·have ej:j=n:=by omega
   subst ej
   have:ca h t j=[]:=by unfold ca;rw [if_neg (by omega)]
   rw [this]
   simp
   omega
theorem Dg:∀ n,(fl (cb h t) n).Sublist (fl (stp h t) n)
 | 0=>List.Sublist.refl _
 | n+1=>by
  rw [aV,aV,Ax]
  exact (Dg n).append (List.sublist_append_right _ _)
theorem Dh (W:Wk h t r X) {n:Nat} {x:T3} (hx:x∈fl (cb h t) n):tl r x=0:=by
 obtain ⟨i,_,hi⟩:=sub_one hx
 unfold cb at hi
 split at hi
 ·rename_i c
  rw [List.mem_singleton.mp hi]
  exact W.ml i c
 ·cases hi
theorem ym (H:HK h) (W:Wk h t r X) (tn:t h.length=t 0) {j:Nat} (hj:j < h.length) (tj:0 < t j):(fl (stp h t) h.length).length<=h.length+1:=by
 have S:=pA H.cok H.tri H.n3 tn
 have a:=(Dj (h:=h) tj h.length).2 hj
 have b:(fl (cb h t) h.length).length<=2:=by
  rcases Nat.lt_or_ge 2 (fl (cb h t) h.length).length with z | z
  ·exfalso
   have s3:=lF (L:=fl (cb h t) h.length) (show 0 < 1 by omega) (show 1 < 2 by omega) z
   have d:=S _ _ _ (s3.trans (Dg h.length))
   have d0:=pq W.m0 (Dh W (n:=h.length) (List.getElem_mem (show 0 < (fl (cb h t) h.length).length by omega))) (Dh W (n:=h.length) (List.getElem_mem (show 1 < (fl (cb h t) h.length).length by omega))) (Dh W (n:=h.length) (List.getElem_mem z))
   omega
  ·exact z
 rw [ya]
 omega
theorem fA {f:Nat->List T3} {i:Nat}:∀ d,(fl f i).length<=(fl f (i+d)).length
 | 0=>Nat.le_refl _
 | d+1=>by
  rw [<- Nat.add_assoc,aV,List.length_append]
  have:=fA (f:=f) (i:=i) d
  omega
theorem xQ {i j:Nat} (hij:i < j) (ti:t i < 0) (tj:0 < t j):(fl (stp h t) i).length+2<=(fl (stp h t) j).length:=by
 have s1:1<=(stp h t i).length:=by unfold stp;rw [if_pos (by omega)];simp
 rcases Int.lt_or_le 0 (t (i+1)) with z | z
 ·have c:t i*t (i+1) < 0:=Int.mul_neg_of_neg_of_pos ti z
  have m:=fA (f:=stp h t) (i:=i+1) (j - (i+1))
  rw [show i+1+(j - (i+1))=j by omega,aV,List.length_append,nF (by omega) c] at m
  simpa using m
 ·have ij:i+1 < j:=by
   rcases Nat.lt_or_ge (i+1) j with y | y
   ·exact y
   ·rw [show j=i+1 by omega] at tj;omega
  have s2:1<=(stp h t (i+1)).length:=by unfold stp;rw [if_pos z];simp
  have m:=fA (f:=stp h t) (i:=i+1+1) (j - (i+1+1))
  rw [show i+1+1+(j - (i+1+1))=j by omega,aV,aV,List.length_append,List.length_append] at m
  omega
theorem rZ:∀(d:Nat) {j:Nat},0 < t j->t (j+d) < 0->(fl (stp h t) j).length+1<=(fl (stp h t) (j+d)).length
 | 0,j,tj,ti=>by rw [Nat.add_zero] at ti;omega
 | d+1,j,tj,ti=>by
  have e:j+(d+1)=j+1+d:=by omega
  rw [e] at ti ⊢
  have m:=fA (f:=stp h t) (i:=j+1) d
  rcases Int.lt_trichotomy (t (j+1)) 0 with z | z | z
  ·have c:t j*t (j+1) < 0:=Int.mul_neg_of_pos_of_neg tj z
   rw [aV,List.length_append,gU (by omega) c] at m
   simp at m
   omega
  ·cases d with
   | zero=>rw [Nat.add_zero] at ti;omega
   | succ d =>
    have s2:1<=(stp h t (j+1)).length:=by unfold stp;rw [if_pos (by omega)];simp
    have m2:=fA (f:=stp h t) (i:=j+1+1) d
    rw [show j+1+1+d=j+1+(d+1) by omega,aV (j+1),List.length_append,aV j,List.length_append] at m2
    omega
  ·have:=rZ d z ti
   rw [aV,List.length_append] at this
   omega
theorem zG {n i j:Nat} (hi:i < n) (hj:j < n) (tn:t n=t 0) (ti:t i < 0) (tj:0 < t j):3<=(fl (stp h t) n).length:=by
 rcases Nat.lt_or_ge i j with z | z
 ·have o:=xQ (h:=h) z ti tj
  rcases Int.lt_trichotomy (t 0) 0 with y | y | y
  ·have k:=rZ (h:=h) (n - j) tj (by rw [show j+(n - j)=n by omega,tn];exact y)
   rw [show j+(n - j)=n by omega] at k
   omega
  ·have m:=fA (f:=stp h t) (i:=j) (n - j)
   rw [show j+(n - j)=n by omega] at m
   have i0:0 < i:=by
    rcases Nat.eq_zero_or_pos i with x | x
    ·rw [x] at ti;omega
    ·exact x
   have m2:=fA (f:=stp h t) (i:=1) (i - 1)
   rw [show 1+(i - 1)=i by omega,aV,List.length_append] at m2
   have s2:1<=(stp h t 0).length:=by unfold stp;rw [if_pos (by omega)];simp
   omega
  ·have k:=rZ (h:=h) (t:=t) i (j:=0) y (by rw [Nat.zero_add];exact ti)
   rw [Nat.zero_add] at k
   have m:=fA (f:=stp h t) (i:=j) (n - j)
   rw [show j+(n - j)=n by omega] at m
   omega
 ·have ij:j < i:=by
   rcases Nat.lt_or_ge j i with y | y
   ·exact y
   ·rw [show i=j by omega] at ti;omega
  have k:=rZ (h:=h) (i - j) tj (by rw [show j+(i - j)=i by omega];exact ti)
  rw [show j+(i - j)=i by omega] at k
  rcases Int.lt_or_le 0 (t 0) with y | y
  ·have o:=xQ (h:=h) hi ti (by rw [tn];exact y)
   omega
  ·
   have s2:1<=(stp h t 0).length:=by unfold stp;rw [if_pos y];simp
   have s3:1<=(stp h t i).length:=by unfold stp;rw [if_pos (by omega)];simp
   have j0:0 < j:=by
    rcases Nat.eq_zero_or_pos j with x | x
    ·rw [x] at tj;omega
    ·exact x
   have m2:=fA (f:=stp h t) (i:=1) (j - 1)
   rw [show 1+(j - 1)=j by omega,aV,List.length_append] at m2
   have m3:=fA (f:=stp h t) (i:=i+1) (n - (i+1))
   rw [show i+1+(n - (i+1))=n by omega,aV,List.length_append] at m3
   omega
theorem CY (H:HK h) (hr:R3 64 r) (et:∀ i,t i=tl r (cor h i)\/t i = - tl r (cor h i)) (W:Wk h t r X) (tn:t h.length=t 0) {i j:Nat} (hi:i < h.length) (hj:j < h.length) (ti:t i < 0) (tj:0 < t j):HK (fl (stp h t) h.length):=by
 have n3:=zG (h:=h) hi hj tn ti tj
 have mem:∀ x∈fl (stp h t) h.length,P3 130 x/\gg x.u x.v x.w=1:=λx hx=>by
  obtain ⟨k,hk,hx⟩:=sub_one hx
  rcases qY H.cok hx with ⟨_,e⟩ | ⟨c,e,_⟩
  ·rw [e]
   have:=cX (h:=h) (by omega) k
   exact ⟨H.ok _ this,H.pr _ this⟩
  ·rw [e]
   exact md_ok H hr et W hk c
 exact ⟨pA H.cok H.tri H.n3 tn,n3,λx hx=>(mem x hx).1,λx hx=>(mem x hx).2,cut_sh H hr W tn (λz=>by rw [z] at n3;exact absurd n3 (by decide))⟩
end
section
variable {h:List T3} {r:T3}
structure Cut (h:List T3) (r:T3):Prop where
 lo:HK (low r h)
 hi:HK (high r h)
 ll:(low r h).length<=h.length+1
 lh:(high r h).length<=h.length+1
 pl:0 < jX (low r h)
 ph:0 < jX (high r h)
 ad:jX (low r h)+jX (high r h)=jX h
theorem HK.hull (H:HK h):sJ 130 h.length h:=⟨H.tri.tri,H.ok,by have:=H.n3;omega,Nat.le_refl _⟩
theorem yn (H:HK h) (hr:R3 64 r) {p q:T3} (hp:p∈h) (hq:q∈h) (p0:tl r p < 0) (q0:0 < tl r q):Cut h r:=by
 have ok:=H.cok
 have nz:r.u≠0\/r.v≠0\/r.w≠0:=by
  rcases Decidable.em (r.u=0) with z1 | z1
  ·rcases Decidable.em (r.v=0) with z2 | z2
   ·refine .inr (.inr λz3=>?_)
    unfold tl at p0
    rw [z1,z2,z3] at p0
    omega
   ·exact .inr (.inl z2)
  ·exact .inl z1
 have xs:∃ X:T3,0 < X.u/\tl r X=0:=by
  refine ⟨⟨tl r q*p.u + -(tl r p)*q.u,tl r q*p.v + -(tl r p)*q.v,tl r q*p.w + -(tl r p)*q.w⟩,?_,?_⟩
  ·show 0 < tl r q*p.u + -(tl r p)*q.u
   have:=Int.mul_pos q0 (H.ok p hp).n0
   have:=Int.mul_pos (show 0 < -(tl r p) by omega) (H.ok q hq).n0
   omega
  ·show r.u*(tl r q*p.v + -(tl r p)*q.v)+r.v*(tl r q*p.w + -(tl r p)*q.w)+r.w*(tl r q*p.u + -(tl r p)*q.u)=0
   simp only [tl]
   grind
 obtain ⟨X,xu,xl⟩:=xs
 obtain ⟨W1,W2⟩:=Ag ok nz xu xl
 obtain ⟨i,hi,ei⟩:=List.mem_iff_getElem.mp hp
 obtain ⟨j,hj,ej⟩:=List.mem_iff_getElem.mp hq
 have ei':cor h i=p:=(dX hi).trans ei
 have ej':cor h j=q:=(dX hj).trans ej
 have tl0:tv r h h.length=tv r h 0:=by unfold tv;rw [dC]
 have th0:tn r h h.length=tn r h 0:=by unfold tn;rw [dC]
 have a1:tv r h i < 0:=by unfold tv;rw [ei'];exact p0
 have a2:0 < tv r h j:=by unfold tv;rw [ej'];exact q0
 have b1:0 < tn r h i:=by unfold tn;rw [ei'];omega
 have b2:tn r h j < 0:=by unfold tn;rw [ej'];omega
 have L:=CY H hr (λk=>.inl rfl) W1 tl0 hi hj a1 a2
 have G:=CY H hr (λk=>.inr rfl) W2 th0 hj hi b2 b1
 exact ⟨L,G,ym H W1 tl0 hj a2,ym H W2 th0 hi b1,uW (λx hx=>(L.ok x hx).n0) L.tri L.n3,uW (λx hx=>(G.ok x hx).n0) G.tri G.n3,zO H.hull hp hq p0 q0⟩
theorem ko:HK sqH:=by
 refine ⟨λp q r s=>?_,by decide,λp hp=>?_,λp hp=>?_,λi hi=>?_⟩
 ·simp only [sqH,List.sublist_cons_iff,List.sublist_nil,List.cons.injEq,reduceCtorEq,false_or,or_false] at s
  simp only [List.nil_eq,exists_eq_right_right',and_assoc] at s
  grind [det]
 ·have:=(sq_hull.ok p hp).mono (show 1<=130 by decide)
  exact this
 ·simp only [sqH,List.mem_cons,List.not_mem_nil,or_false] at hp
  rcases hp with e | e | e | e <;> rw [e] <;> decide
 ·have hi':i < 4:=hi
  rcases (by omega:i=0\/i=1\/i=2\/i=3) with e | e | e | e <;> rw [e]
  ·exact ⟨⟨0,1,0⟩,⟨by decide,by decide,by decide⟩,.inr (.inl (by decide)),by decide,by decide⟩
  ·exact ⟨⟨1,0,-1⟩,⟨by decide,by decide,by decide⟩,.inl (by decide),by decide,by decide⟩
  ·exact ⟨⟨0,1,-1⟩,⟨by decide,by decide,by decide⟩,.inr (.inl (by decide)),by decide,by decide⟩
  ·exact ⟨⟨1,0,0⟩,⟨by decide,by decide,by decide⟩,.inl (by decide),by decide,by decide⟩
end
end Hu
namespace Hu
section
variable {h:List T3} {r X:T3} {t:Nat->Int} {Rl:T3->T3->Prop}
end
end Hu
namespace Hu
noncomputable def iz (h:List T3) (p:T3):Prop:=∀ f:T3,(∀ c∈h,0<=tl f c)->0<=tl f p
theorem Am (f p:T3):tl ⟨-f.u,-f.v,-f.w⟩ p = - tl f p:=by simp only [tl];grind
theorem iz.le {h:List T3} {p:T3} (C:iz h p) {f:T3} (hf:∀ c∈h,tl f c<=0):tl f p<=0:=by
 have z:=C ⟨-f.u,-f.v,-f.w⟩ λc hc=>by rw [Am];have:=hf c hc;omega
 rw [Am] at z
 omega
theorem pB {h:List T3} {c:T3} (hc:c∈h):iz h c:=λf hf=>hf c hc
theorem iz.sub {h g:List T3} (s:∀ c∈g,iz h c) {p:T3} (C:iz g p):iz h p:=λf hf=>C f λc hc=>s c hc f hf
inductive Row where
 | lf (k:Nat)
 | nt (i:Nat)
 | fd (k i j:Nat)
noncomputable def z0:T3:=⟨0,0,0⟩
noncomputable def fld (k:Nat) (n a b:Int):Int :=
 if k=0 then (if a+b < n then a+b else n) else if k=1 then (if a+b - n > 0 then a+b - n else 0) else if k=2 then (if b > a then b else a) else if k=3 then (if b < a then b else a) else (if n - a+b < n then n - a+b else n)
noncomputable def lfw (k:Nat) (p:T3):Int:=if k=0 then 0 else if k=1 then p.u else if k=2 then p.v else p.w
noncomputable def wof (ws:List Int) (p:T3):Row->Int
 | .lf k=>lfw k p
 | .nt i=>p.u - ws.getD i 0
 | .fd k i j=>fld k p.u (ws.getD i 0) (ws.getD j 0)
noncomputable def lft (k:Nat):T3:=if k=0 then ⟨0,0,0⟩ else if k=1 then ⟨0,0,1⟩ else if k=2 then ⟨1,0,0⟩ else ⟨0,1,0⟩
noncomputable def pl (a b:T3):T3:=⟨a.u+b.u,a.v+b.v,a.w+b.w⟩
noncomputable def mi (a b:T3):T3:=⟨a.u - b.u,a.v - b.v,a.w - b.w⟩
noncomputable def al:T3:=⟨0,0,1⟩
theorem sP (a b p:T3):tl (pl a b) p=tl a p+tl b p:=by simp only [tl,pl];grind
theorem ke (a b p:T3):tl (mi a b) p=tl a p - tl b p:=by simp only [tl,mi];grind
theorem mJ (p:T3):tl al p=p.u:=by simp only [tl,al];grind
theorem mI (p:T3):tl z0 p=0:=by simp only [tl,z0];grind
theorem An (k:Nat) (p:T3):tl (lft k) p=lfw k p:=by
 unfold lft lfw tl
 split
 ·simp
 ·split
  ·simp
  ·split <;> simp
noncomputable def fch (k:Nat) (a b:T3):T3×T3×T3 :=
 if k=0 then (mi (pl a b) al,pl a b,al) else if k=1 then (mi (pl a b) al,z0,mi (pl a b) al) else if k=2 then (mi a b,b,a) else if k=3 then (mi a b,a,b) else (mi b a,pl al (mi b a),al)
noncomputable def choice (rs:List T3):Row->T3×T3×T3
 | .lf k=>(z0,lft k,lft k)
 | .nt i=>(z0,mi al (rs.getD i z0),mi al (rs.getD i z0))
 | .fd k i j=>fch k (rs.getD i z0) (rs.getD j z0)
open Classical in
noncomputable def aS (h:List T3) (c:T3×T3×T3):Option T3:=if ∀ q∈h,tl c.1 q<=0 then some c.2.1 else if ∀ q∈h,0<=tl c.1 q then some c.2.2 else none
inductive Out where
 | rules (rs:List T3)
 | mixed (k:Nat) (t:T3)
noncomputable def run (h:List T3):List Row->List T3->Out
 | [],rs=>.rules rs
 | r::rest,rs=>match aS h (choice rs r) with
  | some x=>run h rest (rs++[x])
  | none=>.mixed rs.length (choice rs r).1
noncomputable def tv2 (rs:List T3) (p:T3):List Int:=rs.map λr=>tl r p
theorem nS (rs:List T3) (p:T3) (i:Nat):(tv2 rs p).getD i 0=tl (rs.getD i z0) p:=by
 unfold tv2
 rw [List.getD_eq_getElem?_getD,List.getD_eq_getElem?_getD,List.getElem?_map]
 cases rs[i]? with
 | none=>exact (mI p).symm
 | some r=>rfl
noncomputable def vy (ws:List Int) (p:T3):Row->Int
 | .lf _=>0
 | .nt _=>0
 | .fd k i j=>if k=0 then ws.getD i 0+ws.getD j 0 - p.u else if k=1 then ws.getD i 0+ws.getD j 0 - p.u else if k=2 then ws.getD i 0 - ws.getD j 0 else if k=3 then ws.getD i 0 - ws.getD j 0 else ws.getD j 0 - ws.getD i 0
theorem eX (rs:List T3) (p:T3) (r:Row):tl (choice rs r).1 p=vy (tv2 rs p) p r:=by
 cases r with
 | lf k=>exact mI p
 | nt i=>exact mI p
 | fd k i j =>
  show tl (fch k _ _).1 p=vy _ p (.fd k i j)
  unfold fch vy
  simp only [nS]
  split
  ·show tl (mi (pl _ _) al) p=_
   rw [ke,sP,mJ]
  ·split
   ·show tl (mi (pl _ _) al) p=_
    rw [ke,sP,mJ]
   ·split
    ·show tl (mi _ _) p=_
     rw [ke]
    ·split
     ·show tl (mi _ _) p=_
      rw [ke]
     ·show tl (mi _ _) p=_
      rw [ke]
theorem Cq (rs:List T3) (p:T3) (r:Row) (h:vy (tv2 rs p) p r<=0):tl (choice rs r).2.1 p=wof (tv2 rs p) p r:=by
 cases r with
 | lf k=>exact An k p
 | nt i =>
  show tl (mi al _) p=p.u - _
  rw [ke,mJ,nS]
 | fd k i j =>
  show tl (fch k _ _).2.1 p=fld k p.u _ _
  unfold vy at h
  unfold fch fld
  simp only [nS] at h ⊢
  split at h <;> rename_i c0
  ·rw [if_pos c0,if_pos c0]
   show tl (pl _ _) p=_
   rw [sP]
   split <;> omega
  ·rw [if_neg c0,if_neg c0]
   split at h <;> rename_i c1
   ·rw [if_pos c1,if_pos c1]
    show tl z0 p=_
    rw [mI]
    split <;> omega
   ·rw [if_neg c1,if_neg c1]
    split at h <;> rename_i c2
    ·rw [if_pos c2,if_pos c2]
     show tl (rs.getD j z0) p=_
     split <;> omega
    ·rw [if_neg c2,if_neg c2]
     split at h <;> rename_i c3
     ·rw [if_pos c3,if_pos c3]
      show tl (rs.getD i z0) p=_
      split <;> omega
     ·rw [if_neg c3,if_neg c3]
      show tl (pl al (mi _ _)) p=_
      rw [sP,mJ,ke]
      split <;> omega
theorem CA (rs:List T3) (p:T3) (r:Row) (h:0<=vy (tv2 rs p) p r):tl (choice rs r).2.2 p=wof (tv2 rs p) p r:=by
 cases r with
 | lf k=>exact An k p
 | nt i =>
  show tl (mi al _) p=p.u - _
  rw [ke,mJ,nS]
 | fd k i j =>
  show tl (fch k _ _).2.2 p=fld k p.u _ _
  unfold vy at h
  unfold fch fld
  simp only [nS] at h ⊢
  split at h <;> rename_i c0
  ·rw [if_pos c0,if_pos c0]
   show tl al p=_
   rw [mJ]
   split <;> omega
  ·rw [if_neg c0,if_neg c0]
   split at h <;> rename_i c1
   ·rw [if_pos c1,if_pos c1]
    show tl (mi (pl _ _) al) p=_
    rw [ke,sP,mJ]
    split <;> omega
   ·rw [if_neg c1,if_neg c1]
    split at h <;> rename_i c2
    ·rw [if_pos c2,if_pos c2]
     show tl (rs.getD i z0) p=_
     split <;> omega
    ·rw [if_neg c2,if_neg c2]
     split at h <;> rename_i c3
     ·rw [if_pos c3,if_pos c3]
      show tl (rs.getD j z0) p=_
      split <;> omega
     ·rw [if_neg c3,if_neg c3]
      show tl al p=_
      rw [mJ]
      split <;> omega
theorem fR {h:List T3} {rs:List T3} {r:Row} {x:T3} (e:aS h (choice rs r)=some x) {p:T3} (C:iz h p):tl x p=wof (tv2 rs p) p r:=by
 unfold aS at e
 split at e
 ·rename_i c
  cases e
  exact Cq rs p r (by rw [<- eX];exact C.le c)
 ·split at e
  ·rename_i c
   cases e
   exact CA rs p r (by rw [<- eX];exact C _ c)
  ·cases e
theorem ka (rs:List T3) (x p:T3):tv2 (rs++[x]) p=tv2 rs p++[tl x p]:=by unfold tv2;rw [List.map_append];rfl
theorem gF {h:List T3} {c:T3×T3×T3} (e:aS h c=none):(∃ q∈h,0 < tl c.1 q)/\∃ q∈h,tl c.1 q < 0:=by
 unfold aS at e
 split at e
 ·cases e
 ·rename_i c1
  split at e
  ·cases e
  ·rename_i c2
   constructor
   ·refine Classical.byContradiction λz=>c1 λq hq=>?_
    refine Classical.byContradiction λy=>z ⟨q,hq,by omega⟩
   ·refine Classical.byContradiction λz=>c2 λq hq=>?_
    refine Classical.byContradiction λy=>z ⟨q,hq,by omega⟩
theorem tN {h g:List T3} (s:∀ c∈g,iz h c):∀(rows:List Row) (rs rs':List T3),rs.length=rs'.length->(∀ p,iz g p->tv2 rs p=tv2 rs' p)->∀ k t,run h rows rs=.mixed k t->
  ((∀ c∈g,tl t c<=0)\/∀ c∈g,0<=tl t c)->∀ k' t',run g rows rs'=.mixed k' t'->k < k'
 | [],rs,rs',_,_,k,t,e,_,_,_,_=>by cases e
 | r::rest,rs,rs',el,et,k,t,e,hs,k',t',e'=>by
  have tt:∀ c∈g,tl (choice rs r).1 c=tl (choice rs' r).1 c:=λc hc=>by rw [eX,eX,et c (pB hc)]
  have ex:((∀ c∈g,tl (choice rs r).1 c<=0)\/∀ c∈g,0<=tl (choice rs r).1 c)->∃ x,aS g (choice rs' r)=some x:=λhh=>by
   cases q:aS g (choice rs' r) with
   | some x=>exact ⟨x,rfl⟩
   | none =>
    exfalso
    obtain ⟨⟨a,ha,a0⟩,b,hb,b0⟩:=gF q
    rw [<- tt a ha] at a0
    rw [<- tt b hb] at b0
    rcases hh with z | z
    ·have:=z a ha;omega
    ·have:=z b hb;omega
  unfold run at e
  cases q:aS h (choice rs r) with
  | none =>
   rw [q] at e
   injection e with e1 e2
   subst e2
   obtain ⟨x,qx⟩:=ex hs
   unfold run at e'
   rw [qx] at e'
   have ge:∀(rows:List Row) (rs:List T3) (k:Nat) (t:T3),run g rows rs=.mixed k t->rs.length<=k:=by
    intro rows
    induction rows with
    | nil=>intro rs k t z;cases z
    | cons r rest ih =>
     intro rs k t z
     unfold run at z
     cases y:aS g (choice rs r) with
     | none=>rw [y] at z;injection z with z1 z2;omega
     | some x =>
      rw [y] at z
      have:=ih _ _ _ z
      rw [List.length_append,List.length_singleton] at this
      omega
   have:=ge _ _ _ _ e'
   rw [List.length_append,List.length_singleton] at this
   omega
  | some y =>
   rw [q] at e
   have us:(∀ c∈g,tl (choice rs r).1 c<=0)\/∀ c∈g,0<=tl (choice rs r).1 c:=by
    unfold aS at q
    split at q
    ·rename_i c
     exact .inl λc' hc=>(s c' hc).le c
    ·split at q
     ·rename_i c
      exact .inr λc' hc=>s c' hc _ c
     ·cases q
   obtain ⟨x,qx⟩:=ex us
   unfold run at e'
   rw [qx] at e'
   refine tN s rest _ _ (by simp [el]) (λp hp=>?_) k t e hs k' t' e'
   rw [ka,ka,fR q (hp.sub s),fR qx hp,et p hp]
noncomputable def Rb (rs:List T3):Prop:=∀ i x,rs[i]?=some x->R3 (i+1) x
theorem r3_pl {m:Nat} {a b:T3} (ha:R3 m a) (hb:R3 m b):R3 (m+1) (pl a b):=by
 have e:2 ^ (m+1)=2*2 ^ m:=by rw [Nat.pow_succ];omega
 have:=ha.a;have:=ha.b;have:=ha.c;have:=hb.a;have:=hb.b;have:=hb.c
 refine ⟨?_,?_,?_⟩ <;> (simp only [pl];rw [e];omega)
theorem qv {m:Nat} {a b:T3} (ha:R3 m a) (hb:R3 m b):R3 (m+1) (mi a b):=by
 have e:2 ^ (m+1)=2*2 ^ m:=by rw [Nat.pow_succ];omega
 have:=ha.a;have:=ha.b;have:=ha.c;have:=hb.a;have:=hb.b;have:=hb.c
 refine ⟨?_,?_,?_⟩ <;> (simp only [mi];rw [e];omega)
theorem vM {m:Nat} {a b:T3} (ha:R3 m a) (hb:R3 m b):R3 (m+1) (mi (pl a b) al):=by
 have e:2 ^ (m+1)=2*2 ^ m:=by rw [Nat.pow_succ];omega
 have:=ha.a;have:=ha.b;have:=ha.c;have:=hb.a;have:=hb.b;have:=hb.c
 refine ⟨?_,?_,?_⟩ <;> (simp only [pl,mi,al];rw [e];omega)
theorem r3_alm {m:Nat} {a b:T3} (ha:R3 m a) (hb:R3 m b):R3 (m+1) (pl al (mi b a)):=by
 have e:2 ^ (m+1)=2*2 ^ m:=by rw [Nat.pow_succ];omega
 have:=ha.a;have:=ha.b;have:=ha.c;have:=hb.a;have:=hb.b;have:=hb.c
 refine ⟨?_,?_,?_⟩ <;> (simp only [pl,mi,al];rw [e];omega)
theorem oM (m:Nat):R3 (m+1) al:=by
 have:=Nat.one_le_two_pow (n:=m)
 have e:2 ^ (m+1)=2*2 ^ m:=by rw [Nat.pow_succ];omega
 refine ⟨?_,?_,?_⟩ <;> (simp only [al];rw [e];omega)
theorem Bj (m:Nat):R3 (m+1) z0:=by
 have:=Nat.one_le_two_pow (n:=m)
 have e:2 ^ (m+1)=2*2 ^ m:=by rw [Nat.pow_succ];omega
 refine ⟨?_,?_,?_⟩ <;> (simp only [z0];rw [e];omega)
theorem Bl (k m:Nat):R3 (m+1) (lft k):=by
 have:=Nat.one_le_two_pow (n:=m)
 have e:2 ^ (m+1)=2*2 ^ m:=by rw [Nat.pow_succ];omega
 unfold lft
 split
 ·refine ⟨?_,?_,?_⟩ <;> (simp only [];rw [e];omega)
 ·split
  ·refine ⟨?_,?_,?_⟩ <;> (simp only [];rw [e];omega)
  ·split <;> (refine ⟨?_,?_,?_⟩ <;> (simp only [];rw [e];omega))
noncomputable def Row.Ok (n:Nat):Row->Prop
 | .lf k=>k < 4
 | .nt i=>i < n
 | .fd k i j=>k < 5/\i < n/\j < n
theorem qu {rs:List T3} (h:Rb rs) {i:Nat} (hi:i < rs.length):R3 rs.length (rs.getD i z0):=by
 have e:rs[i]?=some (rs.getD i z0):=by rw [List.getD_eq_getElem?_getD,List.getElem?_eq_getElem hi];rfl
 exact (h i _ e).mono (by omega)
theorem kZ {rs:List T3} (h:Rb rs) {r:Row} (ok:r.Ok rs.length):R3 (rs.length+1) (choice rs r).1/\R3 (rs.length+1) (choice rs r).2.1/\R3 (rs.length+1) (choice rs r).2.2:=by
 cases r with
 | lf k=>exact ⟨Bj _,Bl k _,Bl k _⟩
 | nt i =>
  have a:=qu h ok
  have l0:∃ m,rs.length=m+1:=⟨rs.length - 1,by have:i < rs.length:=ok;omega⟩
  obtain ⟨m,em⟩:=l0
  have o:R3 rs.length al:=by rw [em];exact oM m
  exact ⟨Bj _,qv o a,qv o a⟩
 | fd k i j =>
  obtain ⟨_,hi,hj⟩:=ok
  have a:=qu h hi
  have b:=qu h hj
  show R3 _ (fch k _ _).1/\R3 _ (fch k _ _).2.1/\R3 _ (fch k _ _).2.2
  unfold fch
  split
  ·exact ⟨vM a b,r3_pl a b,oM _⟩
  ·split
   ·exact ⟨vM a b,Bj _,vM a b⟩
   ·split
    ·exact ⟨qv a b,b.mono (by omega),a.mono (by omega)⟩
    ·split
     ·exact ⟨qv a b,a.mono (by omega),b.mono (by omega)⟩
     ·exact ⟨qv b a,r3_alm a b,oM _⟩
theorem rF {rs:List T3} {x:T3} (h:Rb rs) (hx:R3 (rs.length+1) x):Rb (rs++[x]):=λi y e=>by
 rcases Nat.lt_or_ge i rs.length with z | z
 ·rw [List.getElem?_append_left z] at e
  exact h i y e
 ·rw [List.getElem?_append_right z] at e
  have:i - rs.length=0:=by
   rcases Nat.eq_zero_or_pos (i - rs.length) with q | q
   ·exact q
   ·rw [List.getElem?_eq_none (by simp;omega)] at e;cases e
  rw [this] at e
  cases e
  rw [show i=rs.length by omega]
  exact hx
theorem pF {rs:List T3} {h:List T3} {r:Row} {x:T3} (hb:Rb rs) (ok:r.Ok rs.length) (e:aS h (choice rs r)=some x):R3 (rs.length+1) x:=by
 obtain ⟨_,b1,b2⟩:=kZ hb ok
 unfold aS at e
 split at e
 ·cases e;exact b1
 ·split at e
  ·cases e;exact b2
  ·cases e
end Hu
end Mine
set_option maxHeartbeats 1000000
namespace Mine
namespace Hu
theorem jo {h:List T3} (H:HK h) {t:Nat->Int}:∀ c∈fl (stp h t) h.length,iz h c:=λc hc=>by
 have ok:=H.cok
 have n3:=H.n3
 obtain ⟨i,hi,hx⟩:=sub_one hc
 unfold stp at hx
 rcases List.mem_append.mp hx with z | z
 ·split at z
  ·rw [List.mem_singleton.mp z];exact pB (cX (by omega) i)
  ·cases z
 ·split at z
  ·rename_i c0
   rw [List.mem_singleton.mp z]
   intro f hf
   obtain ⟨g,x,y,g0,x0,y0,e1,e2,e3⟩:=(oX (ok i) (ok (i+1)) c0).ex
   have a1:=hf _ (cX (show 0 < h.length by omega) i)
   have a2:=hf _ (cX (show 0 < h.length by omega) (i+1))
   have e:g*tl f (mid (cor h i) (cor h (i+1)) (t i) (t (i+1)))=x*tl f (cor h i)+y*tl f (cor h (i+1)):=by
    have:g*tl f (mid (cor h i) (cor h (i+1)) (t i) (t (i+1)))=f.u*(g*(mid (cor h i) (cor h (i+1)) (t i) (t (i+1))).v)+f.v*(g*(mid (cor h i) (cor h (i+1)) (t i) (t (i+1))).w)+f.w*(g*(mid (cor h i) (cor h (i+1)) (t i) (t (i+1))).u):=by simp only [tl];grind
    rw [this,e1,e2,e3]
    simp only [tl]
    grind
   have m1:=Int.mul_nonneg x0 a1
   have m2:=Int.mul_nonneg y0 a2
   exact rJ g0 (by rw [e];omega)
  ·cases z
theorem qz {h:List T3} {r X:T3} {t:Nat->Int} (W:Wk h t r X) {s:Int} (et:∀ i,t i=s*tl r (cor h i)):∀ c∈fl (stp h t) h.length,s*tl r c<=0:=λc hc=>by
 obtain ⟨i,hi,hx⟩:=sub_one hc
 unfold stp at hx
 rcases List.mem_append.mp hx with z | z
 ·split at z
  ·rename_i c0
   rw [List.mem_singleton.mp z,<- et i];exact c0
  ·cases z
 ·split at z
  ·rename_i c0
   rw [List.mem_singleton.mp z]
   have:=W.ml i c0
   have e:tl r (mid (cor h i) (cor h (i+1)) (t i) (t (i+1)))=0:=this
   rw [e]
   omega
  ·cases z
theorem wk_cut {h:List T3} {r:T3} (H:HK h) {p q:T3} (hp:p∈h) (hq:q∈h) (p0:tl r p < 0) (q0:0 < tl r q):∃ X,Wk h (tv r h) r X/\Wk h (tn r h) r X:=by
 have ok:=H.cok
 have nz:r.u≠0\/r.v≠0\/r.w≠0:=by
  rcases Decidable.em (r.u=0) with z1 | z1
  ·rcases Decidable.em (r.v=0) with z2 | z2
   ·refine .inr (.inr λz3=>?_)
    unfold tl at p0
    rw [z1,z2,z3] at p0
    omega
   ·exact .inr (.inl z2)
  ·exact .inl z1
 have xs:∃ X:T3,0 < X.u/\tl r X=0:=by
  refine ⟨⟨tl r q*p.u + -(tl r p)*q.u,tl r q*p.v + -(tl r p)*q.v,tl r q*p.w + -(tl r p)*q.w⟩,?_,?_⟩
  ·show 0 < tl r q*p.u + -(tl r p)*q.u
   have:=Int.mul_pos q0 (H.ok p hp).n0
   have:=Int.mul_pos (show 0 < -(tl r p) by omega) (H.ok q hq).n0
   omega
  ·show r.u*(tl r q*p.v + -(tl r p)*q.v)+r.v*(tl r q*p.w + -(tl r p)*q.w)+r.w*(tl r q*p.u + -(tl r p)*q.u)=0
   simp only [tl]
   grind
 obtain ⟨X,xu,xl⟩:=xs
 obtain ⟨W1,W2⟩:=Ag ok nz xu xl
 exact ⟨X,W1,W2⟩
theorem lR {h:List T3}:∀(rows:List Row) (rs:List T3) (k:Nat) (t:T3),run h rows rs=.mixed k t->(∃ q∈h,0 < tl t q)/\∃ q∈h,tl t q < 0
 | [],rs,k,t,e=>by cases e
 | r::rest,rs,k,t,e=>by
  unfold run at e
  cases q:aS h (choice rs r) with
  | some x=>rw [q] at e;exact lR rest _ k t e
  | none =>
   rw [q] at e
   injection e with e1 e2
   rw [<- e2]
   exact gF q
theorem ma {h:List T3} {rows:List Row} {k:Nat} {t:T3} (e:run h rows []=.mixed k t):¬gH t h:=λz=>by
 obtain ⟨⟨a,ha,a0⟩,b,hb,b0⟩:=lR rows [] k t e
 rcases z with z | z
 ·have:=z b hb;omega
 ·have:=z a ha;omega
noncomputable def isFd:Row->Bool
 | .fd _ _ _=>true
 | _=>false
noncomputable def fds (rows:List Row):Nat:=rows.countP isFd
theorem oV {h:List T3}:∀(rows:List Row) (rs:List T3) (k:Nat) (t:T3),run h rows rs=.mixed k t->∃ i r,rows[i]?=some r/\k=rs.length+i/\isFd r=true
 | [],rs,k,t,e=>by cases e
 | r::rest,rs,k,t,e=>by
  unfold run at e
  cases q:aS h (choice rs r) with
  | some x =>
   rw [q] at e
   obtain ⟨i,r',h1,h2,h3⟩:=oV rest _ k t e
   exact ⟨i+1,r',by simpa using h1,by rw [h2,List.length_append,List.length_singleton];omega,h3⟩
  | none =>
   rw [q] at e
   injection e with e1 e2
   refine ⟨0,r,rfl,by omega,?_⟩
   cases r with
   | fd _ _ _=>rfl
   | lf k' =>
    obtain ⟨⟨a,_,a0⟩,_⟩:=gF q
    have:tl z0 a=0:=mI a
    have a0':0 < tl z0 a:=a0
    omega
   | nt i =>
    obtain ⟨⟨a,_,a0⟩,_⟩:=gF q
    have:tl z0 a=0:=mI a
    have a0':0 < tl z0 a:=a0
    omega
theorem CO {rows:List Row} {k:Nat} {r:Row} (h:rows[k]?=some r) (f:isFd r=true):fds (rows.drop k)=fds (rows.drop (k+1))+1:=by
 have hk:k < rows.length:=(List.getElem?_eq_some_iff.mp h).1
 have e:rows.drop k=r::rows.drop (k+1):=by
  rw [List.drop_eq_getElem_cons hk]
  rw [List.getElem?_eq_getElem hk] at h
  cases h
  rfl
 rw [e]
 unfold fds
 rw [List.countP_cons_of_pos f]
theorem pj {rows:List Row} {i j:Nat} (h:i<=j):fds (rows.drop j)<=fds (rows.drop i):=by
 have e:rows.drop j=(rows.drop i).drop (j - i):=by rw [List.drop_drop];congr 1;omega
 rw [e]
 exact (List.drop_sublist _ _).countP_le
theorem AW {h:List T3}:∀(rows:List Row) (rs:List T3),Rb rs->(∀(i:Nat) (r:Row),rows[i]?=some r->r.Ok (rs.length+i))->(∀ k t,run h rows rs=.mixed k t->R3 (k+1) t)/\∀ out,run h rows rs=.rules out->Rb out/\out.length=rs.length+rows.length
 | [],rs,hb,_=>⟨λk t e=>(by cases e),λout e=>(by cases e;exact ⟨hb,by simp⟩)⟩
 | r::rest,rs,hb,ok=>by
  have o0:r.Ok rs.length:=by have:=ok 0 r rfl;rwa [Nat.add_zero] at this
  have cb:=kZ hb o0
  cases q:aS h (choice rs r) with
  | none =>
   refine ⟨λk t e=>?_,λout e=>?_⟩
   ·unfold run at e
    rw [q] at e
    injection e with e1 e2
    rw [<- e2,<- e1]
    exact cb.1
   ·unfold run at e
    rw [q] at e
    cases e
  | some x =>
   have hx:=pF hb o0 q
   obtain ⟨i1,i2⟩:=AW (h:=h) rest (rs++[x]) (rF hb hx) (λi r' hr=>by have:=ok (i+1) r' (by simpa using hr);rw [List.length_append,List.length_singleton];rwa [show rs.length+1+i=rs.length+(i+1) by omega])
   refine ⟨λk t e=>?_,λout e=>?_⟩
   ·unfold run at e
    rw [q] at e
    exact i1 k t e
   ·unfold run at e
    rw [q] at e
    obtain ⟨j1,j2⟩:=i2 out e
    exact ⟨j1,by rw [j2,List.length_append,List.length_singleton,List.length_cons];omega⟩
inductive Tc where
 | leaf
 | cut (r:T3) (l g:Tc)
noncomputable def Tc.bQ:Tc->Nat
 | .leaf=>0
 | .cut _ l g=>1+l.bQ+g.bQ
end Hu
namespace Hu
theorem bQ {h:List T3} (H:HK h) {r:T3} (hr:R3 64 r) (n:¬gH r h):Cut h r:=by
 have a:∃ p∈h,tl r p < 0:=Decidable.byContradiction λz=>n (.inl λp hp=>by
  rcases Int.lt_or_le (tl r p) 0 with y | y
  ·exact absurd ⟨p,hp,y⟩ z
  ·exact y)
 have b:∃ p∈h,0 < tl r p:=Decidable.byContradiction λz=>n (.inr λp hp=>by
  rcases Int.lt_or_le 0 (tl r p) with y | y
  ·exact absurd ⟨p,hp,y⟩ z
  ·exact y)
 obtain ⟨p,hp,p0⟩:=a
 obtain ⟨q,hq,q0⟩:=b
 exact yn H hr hp hq p0 q0
namespace Tc
noncomputable def deep:Tc->Nat
 | leaf=>0
 | cut _ l g=>max l.deep g.deep+1
noncomputable def size:Tc->Nat
 | leaf=>1
 | cut _ l g=>l.size+g.size+1
noncomputable def Sm (b:Nat):Tc->Prop
 | leaf=>True
 | cut r l g=>R3 b r/\l.Sm b/\g.Sm b
theorem Sm.mono {a b:Nat} (h:a<=b):∀{t:Tc},t.Sm a->t.Sm b
 | leaf,_=>trivial
 | cut r l g,⟨x,y,z⟩=>⟨x.mono h,Sm.mono h y,Sm.mono h z⟩
theorem size_pos:∀ t:Tc,0 < t.size
 | leaf=>by decide
 | cut _ l g=>by simp only [size];omega
theorem size_le:∀{t:Tc} {d:Nat},t.deep<=d->t.size+1<=2 ^ (d+1)
 | leaf,d,_=>by
  have:=Nat.one_le_two_pow (n:=d)
  simp only [size]
  rw [Nat.pow_succ]
  omega
 | cut r l g,0,h=>by simp only [deep] at h;omega
 | cut r l g,d+1,h=>by
  simp only [deep] at h
  have a:=size_le (t:=l) (d:=d) (by omega)
  have b:=size_le (t:=g) (d:=d) (by omega)
  simp only [size]
  rw [Nat.pow_succ]
  omega
open Classical in
noncomputable def told:Tc->List T3->Option (List (List T3))
 | leaf,h=>some [h]
 | cut r l g,h=>if gH r h then none else match l.told (low r h),g.told (high r h) with
  | some a,some b=>some (a++b)
  | _,_=>none
theorem jf:∀{t:Tc} {h:List T3} {L:List (List T3)},HK h->t.Sm 64->t.told h=some L->∀ g∈L,HK g/\g.length<=h.length+t.deep
 | leaf,h,L,H,_,e,g,hg=>by
  cases e
  rw [List.mem_singleton.mp hg]
  exact ⟨H,Nat.le_add_right _ _⟩
 | cut r l g,h,L,H,sm,e,x,hx=>by
  unfold told at e
  split at e
  ·cases e
  ·rename_i nc
   have c:=Hu.bQ H sm.1 nc
   cases ea:l.told (low r h) with
   | none=>rw [ea] at e;cases e
   | some a=>cases eb:g.told (high r h) with
    | none=>rw [ea,eb] at e;cases e
    | some b =>
     rw [ea,eb] at e
     cases e
     have l1:=c.ll
     have l2:=c.lh
     rcases List.mem_append.mp hx with z | z
     ·have:=jf c.lo sm.2.1 ea x z
      exact ⟨this.1,by simp only [deep];have:=this.2;omega⟩
     ·have:=jf c.hi sm.2.2 eb x z
      exact ⟨this.1,by simp only [deep];have:=this.2;omega⟩
noncomputable def dP:List (Tc×List T3)->Option (List (List T3))
 | []=>some []
 | (t,h)::r=>match t.told h,dP r with
  | some a,some b=>some (a++b)
  | _,_=>none
theorem vz (h:List T3) (r:List (Tc×List T3)):dP ((leaf,h)::r)=(dP r).map (h::·):=by
 simp only [dP,told]
 cases dP r <;> rfl
theorem Ak {q:T3} {l g:Tc} {h:List T3} (n:gH q h) (r:List (Tc×List T3)):dP ((cut q l g,h)::r)=none:=by
 simp only [dP,told,if_pos n]
theorem yC {q:T3} {l g:Tc} {h:List T3} (n:¬gH q h) (r:List (Tc×List T3)):dP ((cut q l g,h)::r)=dP ((l,low q h)::(g,high q h)::r):=by
 simp only [dP,told,if_neg n]
 cases l.told (low q h) with
 | none=>rfl
 | some a=>cases g.told (high q h) with
  | none=>cases dP r <;> rfl
  | some b=>cases dP r with
   | none=>rfl
   | some c=>simp only [List.append_assoc]
end Tc
theorem AV {h:List T3}:∀(rows:List Row) (rs:List T3) (k:Nat) (t:T3),run h rows rs=.mixed k t->rs.length<=k
 | [],rs,k,t,e=>by cases e
 | r::rest,rs,k,t,e=>by
  unfold run at e
  cases q:aS h (choice rs r) with
  | some x =>
   rw [q] at e
   have:=AV rest _ k t e
   rw [List.length_append] at this
   exact Nat.le_of_succ_le this
  | none=>rw [q] at e;injection e with e1 _;omega
theorem wz {g:List T3} {c:T3×T3×T3} (h:(∀ q∈g,tl c.1 q<=0)\/∀ q∈g,0<=tl c.1 q):∃ x,aS g c=some x:=by
 unfold aS
 split
 ·exact ⟨_,rfl⟩
 ·rename_i n
  rcases h with z | z
  ·exact absurd z n
  ·rw [if_pos z];exact ⟨_,rfl⟩
theorem uO {h:List T3} {c:T3×T3×T3} {x:T3} (e:aS h c=some x):(∀ q∈h,tl c.1 q<=0)\/∀ q∈h,0<=tl c.1 q:=by
 unfold aS at e
 split at e
 ·rename_i z;exact .inl z
 ·split at e
  ·rename_i z;exact .inr z
  ·cases e
theorem xG {h g:List T3} (s:∀ c∈g,iz h c):∀(rows:List Row) (rs rs':List T3),rs.length=rs'.length->(∀ p,iz g p->tv2 rs p=tv2 rs' p)->∀ k' t',run g rows rs'=.mixed k' t'->∃ k t,run h rows rs=.mixed k t/\k<=k'
 | [],rs,rs',_,_,k',t',e'=>by cases e'
 | r::rest,rs,rs',el,et,k',t',e'=>by
  have tt:∀ c∈g,tl (choice rs r).1 c=tl (choice rs' r).1 c:=λc hc=>by rw [eX,eX,et c (pB hc)]
  cases q:aS h (choice rs r) with
  | none =>
   refine ⟨rs.length,(choice rs r).1,by unfold run;rw [q],?_⟩
   rw [el]
   exact AV _ _ _ _ e'
  | some x =>
   have sg:(∀ c∈g,tl (choice rs' r).1 c<=0)\/∀ c∈g,0<=tl (choice rs' r).1 c:=by
    rcases uO q with z | z
    ·exact .inl λc hc=>by rw [<- tt c hc];exact (s c hc).le z
    ·exact .inr λc hc=>by rw [<- tt c hc];exact (s c hc) _ z
   obtain ⟨x',q'⟩:=wz sg
   unfold run at e'
   rw [q'] at e'
   obtain ⟨k,t,e,l⟩:=xG s rest (rs++[x]) (rs'++[x']) (by simp [el]) (λp C=>by rw [ka,ka,et p C,fR q (C.sub s),fR q' C,et p C]) k' t' e'
   exact ⟨k,t,by unfold run;rw [q];exact e,l⟩
noncomputable def need (h:List T3) (rows:List Row):Nat:=match run h rows [] with
 | .rules _=>0
 | .mixed k _=>fds (rows.drop k)
theorem need_le (h:List T3) (rows:List Row):need h rows<=fds rows:=by
 unfold need
 split
 ·exact Nat.zero_le _
 ·rename_i k t _
  have:=pj (rows:=rows) (Nat.zero_le k)
  simpa using this
theorem kO {h g:List T3} (s:∀ c∈g,iz h c) (rows:List Row):need g rows<=need h rows:=by
 unfold need
 cases e:run g rows [] with
 | rules rs=>exact Nat.zero_le _
 | mixed k' t' =>
  obtain ⟨k,t,e2,l⟩:=xG s rows [] [] rfl (λ_ _=>rfl) k' t' e
  rw [e2]
  exact pj l
theorem uc {h g:List T3} (s:∀ c∈g,iz h c) {rows:List Row} {k:Nat} {t:T3} (e:run h rows []=.mixed k t) (hs:(∀ c∈g,tl t c<=0)\/∀ c∈g,0<=tl t c):need g rows+1<=need h rows:=by
 obtain ⟨i,r,hr,ek,fr⟩:=oV rows [] k t e
 have ek:k=i:=by rw [ek];simp
 subst ek
 have fk:=CO hr fr
 unfold need
 rw [e]
 cases e':run g rows [] with
 | rules rs=>show 0+1<=fds (rows.drop k);omega
 | mixed k' t' =>
  have:=tN s rows [] [] rfl (λ_ _=>rfl) k t e hs k' t' e'
  have:=pj (rows:=rows) (show k+1<=k' by omega)
  show fds (rows.drop k')+1<=fds (rows.drop k)
  omega
structure TnL (Ls:List (List Row)) (d:Nat) (h:List T3):Prop where
 hk:HK h
 ln:h.length+d<=20
 nd:(Ls.map (need h)).sum<=d
theorem nV {α:Type} {f g:α->Nat}:∀(l:List α),(∀ x∈l,f x<=g x)->(l.map f).sum<=(l.map g).sum
 | [],_=>Nat.le_refl _
 | a::l,h=>by
  have:=h a List.mem_cons_self
  have:=nV l λx hx=>h x (List.mem_cons_of_mem _ hx)
  simp only [List.map_cons,List.sum_cons]
  omega
theorem vD {α:Type} {f g:α->Nat}:∀(l:List α) {x:α},(∀ x∈l,f x<=g x)->x∈l->f x+1<=g x->(l.map f).sum+1<=(l.map g).sum
 | a::l,x,h,hx,k=>by
  have h1:=h a List.mem_cons_self
  have h2:=λx hx=>h x (List.mem_cons_of_mem a hx)
  simp only [List.map_cons,List.sum_cons]
  rcases List.mem_cons.mp hx with rfl | z
  ·have:=nV l h2;omega
  ·have:=vD l h2 z k;omega
theorem TnL.cut {Ls:List (List Row)} {d:Nat} {h:List T3} (T:TnL Ls d h) {rows:List Row} (hm:rows∈Ls) (ok:∀(i:Nat) (r:Row),rows[i]?=some r->r.Ok i) (few:rows.length<=60) {k:Nat} {t:T3} (e:run h rows []=.mixed k t):R3 61 t/\∃ d',d=d'+1/\TnL Ls d' (low t h)/\TnL Ls d' (high t h):=by
 obtain ⟨i,r,hr,ek,fr⟩:=oV rows [] k t e
 have ek:k=i:=by rw [ek];simp
 subst ek
 have hk:k < rows.length:=(List.getElem?_eq_some_iff.mp hr).1
 have bt:R3 61 t:=((AW (h:=h) rows [] (λ_ _ z=>by simp at z) (λi r hr=>by simpa using ok i r hr)).1 k t e).mono (by omega)
 obtain ⟨⟨p2,hp2,ep2⟩,p1,hp1,ep1⟩:=lR rows [] k t e
 have cut:=yn T.hk (bt.mono (by decide)) hp1 hp2 ep1 ep2
 obtain ⟨X,W1,W2⟩:=wk_cut T.hk hp1 hp2 ep1 ep2
 have e1:∀ i,tv t h i=1*tl t (cor h i):=λi=>(Int.one_mul _).symm
 have e2:∀ i,tn t h i = -1*tl t (cor h i):=λi=>by show - tl t _=_;omega
 have t1:=qz W1 e1
 have t2:=qz W2 e2
 have c1:∀ c∈low t h,iz h c:=jo T.hk
 have c2:∀ c∈high t h,iz h c:=jo T.hk
 have l1:=cut.ll
 have l2:=cut.lh
 have ln:=T.ln
 have nd:=T.nd
 have n1:=vD (f:=need (low t h)) (g:=need h) Ls (λx _=>kO c1 x) hm (uc c1 e (.inl λc hc=>by have:=t1 c hc;omega))
 have n2:=vD (f:=need (high t h)) (g:=need h) Ls (λx _=>kO c2 x) hm (uc c2 e (.inr λc hc=>by have:=t2 c hc;omega))
 exact ⟨bt,d - 1,by omega,⟨cut.lo,by omega,by omega⟩,⟨cut.hi,by omega,by omega⟩⟩
theorem TnL.cutR {Ls:List (List Row)} {d:Nat} {h:List T3} (T:TnL Ls d h) {r:T3} (hr:R3 64 r) (n:¬gH r h) (ln:h.length+d+1<=20):TnL Ls d (low r h)/\TnL Ls d (high r h):=by
 have c:=bQ T.hk hr n
 have c1:∀ x∈low r h,iz h x:=jo T.hk
 have c2:∀ x∈high r h,iz h x:=jo T.hk
 have l1:=c.ll
 have l2:=c.lh
 have nd:=T.nd
 have n1:=nV (f:=need (low r h)) (g:=need h) Ls λx _=>kO c1 x
 have n2:=nV (f:=need (high r h)) (g:=need h) Ls λx _=>kO c2 x
 exact ⟨⟨c.lo,by omega,by omega⟩,⟨c.hi,by omega,by omega⟩⟩
end Hu
end Mine
set_option maxHeartbeats 4000000
namespace L2
open PySem PySem.Spec PyProof.Rows
noncomputable def tDead:TS:=λ_ _ _=>False
section
variable {X:Cx} {pins:List (Addr×Obj)} {σ:St} {H:Hp} {s:Shared} {scope:Scope} {cl:List (Str×Addr)} {x:Str} {js:List Nat} {fp:List Addr}
end
section
variable {X:Cx} {elt iter:Expr} {x:Str} {px pos:Pos} {ifs:List Expr} {scope:Scope} {cl:List (Str×Addr)} {wi:TI} {tc:TT} {te:TE} {js:List Nat}
end
open PySem.Calls PySem.W
section
variable {P:Program} {w:World} {K:PySem.W.Frag} {mg:Str->Option Value} {base:Heap} {N:List Str} {qual:Str} {scope:Scope} {f:Addr} {cd:Value} {A:Around} {outer:List Env} {s:Shared} {H:Hp} {E:XK}
theorem BA:Passes (CXr P w) (cM (CXr P w) P w K mg base N qual scope f cd A outer s H E) E:=by
 intro pins σ H1 s1 e s' I hq
 obtain ⟨ea,C,H2,rfl,⟨t,B,ho,hgn,un,hok,fl,h0,h1,cov⟩,q⟩:=hq
 have hthere:∀ b o,s.heap.get? b=some o->∃ o',s1.heap.get? b=some o':=λb o z=>I.base.there b o z (λz=>nomatch z)
 show wpAny (model P w) (A.deeper (envOfC qual scope s.heap.objs.size f cd)) (leaving (envOfC qual scope s.heap.objs.size f cd) (.ref ea)) _ _ _
 refine wpAny_leaves_onW I.ok.frames rfl fl λg fl2 up=>?_
 have I2:Inv (cM (CXr P w) P w K mg base N qual scope f cd A outer s H E) pins σ H2 {s' with heap:=g,toks:=s'.toks}:=I.caught (C:=C) (ea:=ea) (t:=ea) ho hgn un hok cov fl2.1 up
 have new:s.heap.get? ea=none:=by
  cases z:s.heap.get? ea with
  | none=>rfl
  | some o=>obtain ⟨o',e'⟩:=hthere ea o z;rw [h1] at e';cases e'
 refine ⟨ea,C,H2,rfl,⟨t,B,I2.os,I2.bare,I2.base,I2.hok,fl2,h0,new,λb o z n hb=>?_⟩,q⟩
 have nf:b ∉ frs (envOfC qual scope s.heap.objs.size f cd::outer):=λk=>by
  rcases hb with ⟨u,hu⟩ | ⟨o',ho'⟩
  ·have:=I2.stkFree b k
   rw [hu] at this;cases this
  ·exact (List.mem_cons.mp (I.stkSub b k)).elim (λy=>absurd (Nat.lt_of_lt_of_le (Heap.lt_size ho') I.ok.above) (by rw [y];exact Nat.lt_irrefl _)) n
 have key:(∃ o1,s'.heap.get? b=some o1)/\((∃ u,H2 b=some u)\/∃ o',s1.heap.get? b=some o'):=by
  rcases hb with ⟨u,hu⟩ | ⟨o',ho'⟩
  ·exact ⟨(hok b u hu).there,.inl ⟨u,hu⟩⟩
  ·obtain ⟨o2,e2⟩:=hthere b o' ho'
   exact ⟨un.there b o2 e2 (λz=>nomatch z),.inr ⟨o2,e2⟩⟩
 obtain ⟨⟨o1,e1⟩,k2⟩:=key
 have e2:=cov b o1 e1 nf k2
 have e3:=fl2.1 b o1 e2
 have e4:some o=some o1:=z.symm.trans e3
 cases e4
 exact e2
theorem xO {n:Nat} {x:Str} {ps:List Str} {sp:Sp} {e:Expr} {es:List Expr} {t:TA} {p pos:Pos} (D:lC P w K mg base n x ps sp) (hr:cY n (cM (CXr P w) P w K mg base N qual scope f cd A outer s H E).A) (hg:Gl (cM (CXr P w) P w K mg base N qual scope f cd A outer s H E) x) (ha:PA (cM (CXr P w) P w K mg base N qual scope f cd A outer s H E) (e::es) t)
  (hdb:(x == ("__debug__":Str))=false:=by decide) (he:starEach (e::es) (envOfC qual scope s.heap.objs.size f cd)=(false,eval e (envOfC qual scope s.heap.objs.size f cd))::starEach es (envOfC qual scope s.heap.objs.size f cd):=by rfl) (hpl:(backTo pos (starEach es (envOfC qual scope s.heap.objs.size f cd))).any (·.1)=false:=by rfl) :
  PE (cM (CXr P w) P w K mg base N qual scope f cd A outer s H E) (.Call (.Name x p) (e::es) [] pos) (qe sp [] E t):=by
 obtain ⟨g,fd,F,b,kp,m⟩:=D.ex
 exact rM F hr hg m kp b .nil BA ha hdb he hpl
end
noncomputable def tTryE (K:Frag) (Dc:Addr) (sp:Sp) (ta:TA) (ts:TS):TS:=λD σ H=>ta σ H λvs H1=>sp vs H1 (λ_ H2=>D.nx σ H2) λC _ H2=>∃ Cn,C=.ref Cn/\mroIn K Cn (.ref Dc)=some true/\ts D σ H2
theorem ps_tryE {X:Cx} {m:Nat} {x y:Str} {ps:List Str} {sp:Sp} {e:Expr} {es:List Expr} {ta:TA} {ts:TS} {p pos pos' np hpos tpos:Pos} {b₀:Stmt} {suite:List Stmt} {Dc:Addr}
  (hxe:X.xe=λ_ _=>False) (hstk:X.stack=X.env::X.outer) (hfr:X.env.frame=some X.env.locals)
  (Df:lC X.prog X.w X.K X.mg X.base m x ps sp) (hr:cY m X.A) (hg:Gl X x) (ha:PA X (e::es) ta) (hgy:Gl X y) (hmy:X.mg y=some (.ref Dc)) (cc:gn X.K Dc)
  (hs:∀ ea,PSs (X.mark ea) (b₀::suite) ts)
  (hdb:(x == ("__debug__":Str))=false:=by decide) (hdy:(y == ("__debug__":Str))=false:=by decide) (he:starEach (e::es) X.env=(false,eval e X.env)::starEach es X.env:=by rfl)
  (hpl:(backTo pos (starEach es X.env)).any (·.1)=false:=by rfl) (hsw:swapsWith (.Call (.Name x p) (e::es) [] pos) none pos'.line X.env=pure false:=by rfl) :
  PS X (.Try [.Expr (.Call (.Name x p) (e::es) [] pos) pos'] [.ExceptHandler (some (.Name y np)) none (b₀::suite) hpos] [] [] tpos) (tTryE X.K Dc sp ta ts):=by
 intro pins s σ H D I h
 obtain ⟨f,fd,F,b,kp,mf⟩:=Df.ex
 refine wpAny_Try_except (wpAny_execs_cons (wpAny_Expr_any ?_ I.quiet hsw))
 refine wpAny_Call_Name_kw (fu I hg mf ?_ hdb)
 refine callWith_K (h₀:=X.base) I.ok.mod.kin kp (wpAny_mono (ha pos pins s σ H _ I h) (λus s1 z=>?_) (λ_ _ z=>by rw [hxe] at z;exact z.elim)) he hpl
 obtain ⟨vs,H1,I1,r,q⟩:=z
 refine ⟨I1.kIn,?_⟩
 have hlen:us.length=ps.length:=by rw [<- r.length];exact F.len _ _ _ _ q
 have bnd:BindsTo s1 fd ⟨us,[]⟩ (ps.zip us):=by
  have z:=b s1 us I1.kIn (by rw [List.append_nil];exact hlen)
  rw [List.append_nil] at z
  exact z
 refine wpAny_call (codeAny_mono (F.run X.A X.stack s1 H1 ⟨us,[]⟩ us vs _ _ hr I1.env0 bnd r q) λres s' hq=>?_)
 cases res with
 | ok fl =>
  cases fl with
  | ret u =>
   obtain ⟨v,H2,I2,rv,q2⟩:=I1.after hq
   exact wpAny_execs_nil (wpAny_execs_nil ⟨σ,H2,I2,q2⟩)
  | next=>exact False.elim hq
  | brk=>exact False.elim hq
  | cont=>exact False.elim hq
 | error ex =>
  obtain ⟨ea,C,H2,rfl,⟨t,B,ho,hgn,un,hok,fl,h0,h1,cov⟩,Cn,rfl,hm,q3⟩:=hq
  have hfrm:X.A.frames=some (X.env::X.outer):=by rw [<- hstk];exact I.ok.frames
  rw [hstk] at fl
  refine wpAny_looks_onW (L:=X.env.locals) hfrm hfr fl λh4 held up4=>?_
  refine wpAny_landsW held λh5 fl5 up5'=>?_
  have up5:=up4.trans up5'
  have I5:Inv X pins σ H2 {s' with heap:=h5}:=I1.caught (C:=.ref Cn) (ea:=ea) (t:=t) (tk:=s'.toks) ho hgn un hok cov fl5.1 up5
  refine wpAny_handleBy_cons (codeAny_handlers_test (fu (X:=X.mark ea) (I5.mark ea) hgy hmy ?_ hdy)) (by intro z;cases z)
  refine mW (K:=X.K) I5.kIn fl5.there cc hm ?_
  show codeAny _ _ (.handlers (.ref ea) [.ExceptHandler none none (b₀::suite) hpos] X.env) _ _
  refine codeAny_handlers_suite ?_
  refine lands_againW fl5 λh6 fl6 up6=>?_
  have I6:Inv X pins σ H2 {s' with heap:=h6}:=I1.caught (C:=.ref Cn) (ea:=ea) (t:=t) (tk:=s'.toks) ho hgn un hok cov fl6.1 (up5.trans up6)
  refine wpAny_mono (hs ea pins _ _ _ _ (I6.mark ea) q3) (λfl8 s8 q8=>?_) (λee ss z=>by
   have z':X.xe ee ss:=z
   rw [hxe] at z'
   exact z'.elim)
  cases fl8 with
  | next=>obtain ⟨σ8,H8,J,n8⟩:=q8;exact ⟨σ8,H8,J.unmark I.ok,n8⟩
  | brk=>obtain ⟨σ8,H8,J,n8⟩:=q8;exact ⟨σ8,H8,J.unmark I.ok,n8⟩
  | cont=>obtain ⟨σ8,H8,J,n8⟩:=q8;exact ⟨σ8,H8,J.unmark I.ok,n8⟩
  | ret u=>obtain ⟨v,σ8,H8,J,rv,n8⟩:=q8;exact ⟨v,σ8,H8,J.unmark I.ok,rv,n8⟩
variable {X:Cx}
noncomputable def plainArg (e:Expr):Bool:=match e with
 | .Starred _ _=>false
 | _=>true
theorem vF {e:Expr} {es:List Expr} {env:Env} (h:plainArg e=true):starEach (e::es) env=(false,eval e env)::starEach es env:=by
 cases e <;> first | rfl | cases h
theorem paS {e:Expr} {es:List Expr} {te:TE} {t:TA} (ha:PE X e te) (hr:PA X es t) (h:plainArg e=true:=by rfl):PA X (e::es) (dZ te t):=aa ha hr (vF h)
section
variable {prog:Program} {w:World} {A:Around} {E:Value->Shared->Prop} {h:Heap} {g:Array GenState} {d:Drawn} {t:Nat} {os:OsState}
variable {C fI:Addr} {bmB:List Value} {B newId initId:String}
end
section
variable {M:Model} {A:Around} {E:Value->Shared->Prop} {s:Shared} {base:Heap} {env:Env} {outer l:List Env} {L e:Addr} {cl fl:Value} {dc:Option Addr} {Q:Unit->Shared->Prop}
end
open PySem.Builtin PySem.Builtin.ObjectAttr
section
variable {prog:Program} {w:World} {A:Around} {s:Shared} {K:Frag} {x C:Addr} {ox:Obj} {od:Option Obj} {name:Str} {v:Value}
end
section
variable {P:Program} {w:World} {H:Hp} {h:Heap} {e C d:Addr} {dc:Option Addr} {fs:List (Str×V)}
end
section
variable {X:Cx} {pins:List (Addr×Obj)} {σ:St} {H:Hp} {s:Shared} {a C d:Addr} {fs:List (Str×V)} {f:Str} {y:V} {u:Value} {A:Around} {E:Value->Shared->Prop} {Q:Unit->Shared->Prop}
end
section
variable {X:Cx} {k:Nat} {f C:Addr} {fd:FuncData} {ps:List Str} {sp:Sp} {x:Str} {p pos:Pos} {e:Expr} {es:List Expr} {t:TA}
end
section
variable {P:Program} {w:World} {K:PySem.W.Frag} {mg:Str->Option Value} {base:Heap} {N:List Str} {qual:Str} {scope:Scope} {f:Addr} {cd:Value} {A:Around} {outer:List Env} {s:Shared} {H:Hp} {E:XK}
end
open PySem.Builtin.Getset_descriptor
section
variable {P:Program} {w:World} {K:PySem.W.Frag} {mg:Str->Option Value} {base:Heap} {N:List Str} {qual:Str} {scope:Scope} {f:Addr} {cd:Value} {A:Around} {outer:List Env} {s:Shared} {H:Hp} {E:XK}
end
section
variable {X:Cx}
end
section
variable {P:Program} {w:World} {K:PySem.W.Frag} {mg:Str->Option Value} {base:Heap} {N:List Str} {qual:Str} {scope:Scope} {f:Addr} {cd:Value} {A:Around} {outer:List Env} {s:Shared} {H:Hp} {E:XK}
end
theorem ar0 {p:List Value->Prop} (h:p []) (us:List Value) (e:us.length=0):p us:=by
 rw [List.eq_nil_of_length_eq_zero e]
 exact h
theorem arS {p:List Value->Prop} {n:Nat} (h:∀ a us,us.length=n->p (a::us)) (us:List Value) (e:us.length=n+1):p us:=by
 cases us with
 | nil=>exact absurd e.symm (Nat.succ_ne_zero n)
 | cons a t=>exact h a t (Nat.succ.inj e)
theorem ar1 {p:List Value->Prop} (h:∀ a,p [a]):∀ us:List Value,us.length=1->p us:=arS λa=>ar0 (h a)
theorem ar2 {p:List Value->Prop} (h:∀ a b,p [a,b]):∀ us:List Value,us.length=2->p us:=arS λa=>ar1 (h a)
theorem ar3 {p:List Value->Prop} (h:∀ a b c,p [a,b,c]):∀ us:List Value,us.length=3->p us:=arS λa=>ar2 (h a)
theorem ar4 {p:List Value->Prop} (h:∀ a b c d,p [a,b,c,d]):∀ us:List Value,us.length=4->p us:=arS λa=>ar3 (h a)
theorem c4 {k:Nat} (h:k < 4):k=0\/k=1\/k=2\/k=3:=by omega
theorem c5 {k:Nat} (h:k < 5):k=0\/k=1\/k=2\/k=3\/k=4:=by omega
section
variable {P:Program} {w:World} {K:PySem.W.Frag} {mg:Str->Option Value} {base:Heap} {N:List Str} {qual:Str} {scope:Scope} {f:Addr} {cd:Value} {A:Around} {outer:List Env} {s:Shared} {H:Hp} {E:XK}
end
end L2
namespace Mine
open PySem L2
noncomputable def top (i:Nat):Stmt:=PySem.Challenge.pw_leansay_k47_whole_looker.main.body.getD i (.Pass ⟨0,0,0,0⟩)
noncomputable abbrev bX:Stmt:=inClass (top 14) 0
noncomputable abbrev cB:Stmt:=inClass (top 14) 1
noncomputable abbrev eE:Stmt:=inClass (top 14) 2
noncomputable abbrev jD:Stmt:=inClass (top 14) 3
noncomputable abbrev iZ:Stmt:=inClass (top 14) 5
noncomputable abbrev cK:Stmt:=inClass (top 14) 6
noncomputable abbrev cI:Stmt:=inClass (top 15) 0
noncomputable abbrev cF:Stmt:=inClass (top 16) 0
noncomputable abbrev fm:Stmt:=inClass (top 17) 0
noncomputable abbrev bB:Stmt:=inClass (top 17) 1
noncomputable abbrev ip:Stmt:=inClass (top 18) 0
noncomputable abbrev fj:Stmt:=inClass (top 18) 1
noncomputable abbrev cV:Stmt:=inClass (top 18) 2
noncomputable abbrev fQ:Stmt:=inClass (top 18) 3
noncomputable abbrev gw:Stmt:=inClass (top 19) 0
noncomputable abbrev eF:Stmt:=inClass (top 19) 1
noncomputable abbrev fq:Stmt:=inClass (top 19) 2
noncomputable abbrev cN:Stmt:=inClass (top 20) 0
noncomputable abbrev cO:Stmt:=inClass (top 21) 0
noncomputable abbrev cj:Stmt:=inClass (top 22) 0
noncomputable abbrev cE:Stmt:=inClass (top 23) 0
noncomputable abbrev cJ:Stmt:=inClass (top 24) 0
noncomputable abbrev sLaid:Stmt:=eE
noncomputable abbrev fM:Stmt:=top 6
noncomputable abbrev kG:Stmt:=top 8
noncomputable abbrev lL:Stmt:=top 9
noncomputable abbrev cD:Stmt:=top 10
noncomputable abbrev bJ:Stmt:=top 11
noncomputable abbrev iW:Stmt:=top 12
noncomputable abbrev eZ:Stmt:=top 26
noncomputable abbrev oK:Stmt:=top 32
noncomputable abbrev hI:Stmt:=top 33
noncomputable abbrev iR:Stmt:=top 34
noncomputable abbrev gP:Stmt:=top 35
noncomputable abbrev iY:Stmt:=top 36
noncomputable abbrev iX:Stmt:=top 37
noncomputable abbrev fK:Stmt:=top 38
noncomputable abbrev jO:Stmt:=top 42
noncomputable abbrev fi:Stmt:=top 43
noncomputable abbrev lK:Stmt:=top 44
noncomputable abbrev lP:Stmt:=top 45
noncomputable abbrev bf:Stmt:=top 46
noncomputable abbrev fL:Stmt:=top 47
noncomputable abbrev cS:Stmt:=top 48
noncomputable abbrev s_holds : Stmt := top 49
noncomputable abbrev iV:Stmt:=top 51
noncomputable abbrev hU:Stmt:=top 52
noncomputable abbrev lM:Stmt:=top 53
noncomputable abbrev oH:Stmt:=top 54
noncomputable abbrev di:Stmt:=top 55
noncomputable abbrev dw:Stmt:=top 56
noncomputable abbrev iS:Stmt:=top 57
noncomputable abbrev ik:Stmt:=top 58
noncomputable abbrev hV:Stmt:=top 59
noncomputable abbrev oJ:Stmt:=top 60
noncomputable abbrev hJ:Stmt:=top 61
noncomputable abbrev gh:Stmt:=top 62
noncomputable abbrev jM:Stmt:=top 63
noncomputable abbrev rq:Stmt:=top 64
noncomputable abbrev iT:Stmt:=top 65
noncomputable abbrev jN:Stmt:=top 66
noncomputable abbrev lO:Stmt:=top 67
noncomputable abbrev cf:Stmt:=top 68
noncomputable abbrev jL:Stmt:=top 69
noncomputable abbrev dO:Stmt:=top 70
noncomputable abbrev il:Stmt:=top 71
noncomputable abbrev lN:Stmt:=top 72
noncomputable abbrev oI:Stmt:=top 73
noncomputable abbrev rz:Stmt:=top 74
noncomputable abbrev iU:Stmt:=top 75
noncomputable abbrev gf:Stmt:=top 76
noncomputable abbrev sLaw:Stmt:=top 76
section
variable {P:Program} {w:World} {K:PySem.W.Frag} {mg:Str->Option Value} {base:Heap}
theorem oE:aG ["self","name"] ["self","name"] (ak fm):=L2.fsc rfl (by decide +kernel)
theorem vU {x:Str} {C:Addr} (T:MkF K mg x C "Letter.__init__" fm) (n:eR K C "name"):pI P w K mg base x C 1 ["self","name"] (jg C kX):=by
 refine Cj T oE (λ_ _ _ _ _ _=>L2.ar2 λ_ _=>rfl) (λvs H Q E h=>?_) (λf cdv A outer s H vs Q E hr h=>?_)
 ·obtain ⟨a,dx,y,rfl,e,q⟩:=h
  rfl
 obtain ⟨a,dx,y,rfl,e,q⟩:=h
 have nd:=oE.nd
 refine ⟨_,(ao (rH (pv 0) (pv 1) rfl)),?_⟩
 exact ⟨_,rfl,_,rfl,a,C,dx,[],rfl,e,T.cl,n,(by show 0 < 1000;decide),q⟩
theorem xD:aG ["self","part"] ["self","part"] (ak ip):=L2.fsc rfl (by decide +kernel)
theorem ok_iNot {x:Str} {C:Addr} (T:MkF K mg x C "Not.__init__" ip) (n:eR K C "part"):pI P w K mg base x C 1 ["self","part"] (jg C mV):=by
 refine Cj T xD (λ_ _ _ _ _ _=>L2.ar2 λ_ _=>rfl) (λvs H Q E h=>?_) (λf cdv A outer s H vs Q E hr h=>?_)
 ·obtain ⟨a,dx,y,rfl,e,q⟩:=h
  rfl
 obtain ⟨a,dx,y,rfl,e,q⟩:=h
 have nd:=xD.nd
 refine ⟨_,(ao (rH (pv 0) (pv 1) rfl)),?_⟩
 exact ⟨_,rfl,_,rfl,a,C,dx,[],rfl,e,T.cl,n,(by show 0 < 1000;decide),q⟩
theorem tM:aG ["self","one","other"] ["self","one","other"] (ak gw):=L2.fsc rfl (by decide +kernel)
theorem BS {x:Str} {C:Addr} (T:MkF K mg x C "Fold.__init__" gw) (n:eR K C "one") (n':eR K C "other"):pI P w K mg base x C 1 ["self","one","other"] (rj C):=by
 refine Cj T tM (λ_ _ _ _ _ _=>L2.ar3 λ_ _ _=>rfl) (λvs H Q E h=>?_) (λf cdv A outer s H vs Q E hr h=>?_)
 ·obtain ⟨a,dx,y,z,rfl,e,q⟩:=h
  rfl
 obtain ⟨a,dx,y,z,rfl,e,q⟩:=h
 have nd:=tM.nd
 refine ⟨_,(ah (rH (pv 0) (pv 1) rfl)
  (ao (rH (pv 0) (pv 2) rfl))),?_⟩
 refine ⟨_,rfl,_,rfl,a,C,dx,[],rfl,e,T.cl,n,(by show 0 < 1000;decide),?_⟩
 refine ⟨_,rfl,_,rfl,a,C,dx,_,rfl,ae,T.cl,n',(by show 1 < 1000;decide),?_⟩
 rw [Bp,upd_upd]
 exact q
theorem sc_mS:aG ["self"] ["self"] (ak bX):=L2.fsc rfl (by decide +kernel)
theorem xU {c:CCs} {C:Addr} {t:Tr} (T:bz K C "made_of" "Saying.made_of" bX) (ht:t.kids=[]):bw P w K mg base C "made_of" 1 ["self"] (rg c t):=by
 refine cq T sc_mS (λ_ _ _ _ _ _=>L2.ar1 λ_=>rfl) (λvs H Q E h=>?_) (λf cdv A outer s H vs Q E hr h=>?_)
 ·obtain ⟨a,rfl,o,q⟩:=h
  rfl
 obtain ⟨a,rfl,o,q⟩:=h
 have nd:=sc_mS.nd
 refine ⟨_,(ao (av (bo ag))),?_⟩
 refine ⟨(by show 0<=sizeLine;decide),λl hl=>q l [] hl ?_⟩
 rw [ht]
 exact .nil
theorem xB:aG ["self"] ["self"] (ak fj):=L2.fsc rfl (by decide +kernel)
theorem ok_mNot {c:CCs} {t:Tr} (T:bz K c.no "made_of" "Not.made_of" fj) (F:Fx K c):bw P w K mg base c.no "made_of" 1 ["self"] (rg c (.no t)):=by
 refine cq T xB (λ_ _ _ _ _ _=>L2.ar1 λ_=>rfl) (λvs H Q E h=>?_) (λf cdv A outer s H vs Q E hr h=>?_)
 ·obtain ⟨a,rfl,o,q⟩:=h
  rfl
 obtain ⟨a,rfl,o,q⟩:=h
 have nd:=xB.nd
 refine ⟨_,(ao (av (bo (aa (ja (pv 0) rfl) ag)))),?_⟩
 cases o with
 | no e o =>
  refine ⟨_,rfl,a,c.no,_,_,_,rfl,e,T.cl,F.nPart,qE _,(by show 1<=sizeLine;decide),λl hl=>q l _ hl ?_⟩
  exact .cons ⟨_,rfl,o⟩ .nil
theorem tH:aG ["self"] ["self"] (ak eF):=L2.fsc rfl (by decide +kernel)
theorem BP {c:CCs} {u:W5} {t t':Tr} (T:bz K (c.fold u) "made_of" "Fold.made_of" eF) (F:Fx K c):bw P w K mg base (c.fold u) "made_of" 1 ["self"] (rg c (.fold u t t')):=by
 refine cq T tH (λ_ _ _ _ _ _=>L2.ar1 λ_=>rfl) (λvs H Q E h=>?_) (λf cdv A outer s H vs Q E hr h=>?_)
 ·obtain ⟨a,rfl,o,q⟩:=h
  rfl
 obtain ⟨a,rfl,o,q⟩:=h
 have nd:=tH.nd
 refine ⟨_,(ao (av (bo (aa (ja (pv 0) rfl) (aa (ja (pv 0) rfl) ag))))),?_⟩
 cases o with
 | fold e o o' =>
  refine ⟨_,rfl,a,_,_,_,_,rfl,e,T.cl,F.nOne u,uB _ _,_,rfl,a,_,_,_,_,rfl,e,T.cl,F.nOther u,oZ _ _,(by show 2<=sizeLine;decide),λl hl=>q l _ hl ?_⟩
  exact .cons ⟨_,rfl,o⟩ (.cons ⟨_,rfl,o'⟩ .nil)
theorem ql:aG ["self"] ["self"] (ak cI):=L2.fsc rfl (by decide +kernel)
theorem yP {c:CCs} {C:Addr} (T:bz K C "making_word" "Never.making_word" cI):bw P w K mg base C "making_word" 1 ["self"] (eB c .never):=by
 refine cq T ql (λ_ _ _ _ _ _=>L2.ar1 λ_=>rfl) (λvs H Q E h=>?_) (λf cdv A outer s H vs Q E hr h=>?_)
 ·obtain ⟨a,rfl,o,q⟩:=h
  rfl
 obtain ⟨a,rfl,o,q⟩:=h
 have nd:=ql.nd
 refine ⟨_,(ao (av aK)),?_⟩
 exact q
theorem oh:aG ["self"] ["self"] (ak cF):=L2.fsc rfl (by decide +kernel)
theorem vS {c:CCs} {C:Addr} (T:bz K C "making_word" "Always.making_word" cF):bw P w K mg base C "making_word" 1 ["self"] (eB c .always):=by
 refine cq T oh (λ_ _ _ _ _ _=>L2.ar1 λ_=>rfl) (λvs H Q E h=>?_) (λf cdv A outer s H vs Q E hr h=>?_)
 ·obtain ⟨a,rfl,o,q⟩:=h
  rfl
 obtain ⟨a,rfl,o,q⟩:=h
 have nd:=oh.nd
 refine ⟨_,(ao (av aK)),?_⟩
 exact q
theorem AN:aG ["self"] ["self"] (ak bB):=L2.fsc rfl (by decide +kernel)
theorem ok_wLp {c:CCs} (T:bz K c.le "making_word" "Letter.making_word" bB) (F:Fx K c):bw P w K mg base c.le "making_word" 1 ["self"] (eB c .lp):=by
 refine cq T AN (λ_ _ _ _ _ _=>L2.ar1 λ_=>rfl) (λvs H Q E h=>?_) (λf cdv A outer s H vs Q E hr h=>?_)
 ·obtain ⟨a,rfl,o,q⟩:=h
  rfl
 obtain ⟨a,rfl,o,q⟩:=h
 have nd:=AN.nd
 refine ⟨_,(ao (av (ja (pv 0) rfl))),?_⟩
 cases o with
 | lp e=>exact ⟨_,rfl,a,_,_,_,_,rfl,e,T.cl,F.nName,qF _,q⟩
theorem AM:aG ["self"] ["self"] (ak bB):=L2.fsc rfl (by decide +kernel)
theorem ok_wLq {c:CCs} (T:bz K c.le "making_word" "Letter.making_word" bB) (F:Fx K c):bw P w K mg base c.le "making_word" 1 ["self"] (eB c .lq):=by
 refine cq T AM (λ_ _ _ _ _ _=>L2.ar1 λ_=>rfl) (λvs H Q E h=>?_) (λf cdv A outer s H vs Q E hr h=>?_)
 ·obtain ⟨a,rfl,o,q⟩:=h
  rfl
 obtain ⟨a,rfl,o,q⟩:=h
 have nd:=AM.nd
 refine ⟨_,(ao (av (ja (pv 0) rfl))),?_⟩
 cases o with
 | lq e=>exact ⟨_,rfl,a,_,_,_,_,rfl,e,T.cl,F.nName,qF _,q⟩
theorem xx:aG ["self"] ["self"] (ak cV):=L2.fsc rfl (by decide +kernel)
theorem ok_wNot {c:CCs} {C:Addr} {t:Tr} (T:bz K C "making_word" "Not.making_word" cV):bw P w K mg base C "making_word" 1 ["self"] (eB c (.no t)):=by
 refine cq T xx (λ_ _ _ _ _ _=>L2.ar1 λ_=>rfl) (λvs H Q E h=>?_) (λf cdv A outer s H vs Q E hr h=>?_)
 ·obtain ⟨a,rfl,o,q⟩:=h
  rfl
 obtain ⟨a,rfl,o,q⟩:=h
 have nd:=xx.nd
 refine ⟨_,(ao (av aK)),?_⟩
 exact q
theorem tE:aG ["self"] ["self"] (ak cN):=L2.fsc rfl (by decide +kernel)
theorem BF {c:CCs} {C:Addr} {t t':Tr} (T:bz K C "making_word" "More.making_word" cN):bw P w K mg base C "making_word" 1 ["self"] (eB c (.fold .more t t')):=by
 refine cq T tE (λ_ _ _ _ _ _=>L2.ar1 λ_=>rfl) (λvs H Q E h=>?_) (λf cdv A outer s H vs Q E hr h=>?_)
 ·obtain ⟨a,rfl,o,q⟩:=h
  rfl
 obtain ⟨a,rfl,o,q⟩:=h
 have nd:=tE.nd
 refine ⟨_,(ao (av aK)),?_⟩
 exact q
theorem tF:aG ["self"] ["self"] (ak cO):=L2.fsc rfl (by decide +kernel)
theorem BG {c:CCs} {C:Addr} {t t':Tr} (T:bz K C "making_word" "Less.making_word" cO):bw P w K mg base C "making_word" 1 ["self"] (eB c (.fold .less t t')):=by
 refine cq T tF (λ_ _ _ _ _ _=>L2.ar1 λ_=>rfl) (λvs H Q E h=>?_) (λf cdv A outer s H vs Q E hr h=>?_)
 ·obtain ⟨a,rfl,o,q⟩:=h
  rfl
 obtain ⟨a,rfl,o,q⟩:=h
 have nd:=tF.nd
 refine ⟨_,(ao (av aK)),?_⟩
 exact q
theorem mL:aG ["self"] ["self"] (ak cj):=L2.fsc rfl (by decide +kernel)
theorem tW {c:CCs} {C:Addr} {t t':Tr} (T:bz K C "making_word" "Greater.making_word" cj):bw P w K mg base C "making_word" 1 ["self"] (eB c (.fold .greater t t')):=by
 refine cq T mL (λ_ _ _ _ _ _=>L2.ar1 λ_=>rfl) (λvs H Q E h=>?_) (λf cdv A outer s H vs Q E hr h=>?_)
 ·obtain ⟨a,rfl,o,q⟩:=h
  rfl
 obtain ⟨a,rfl,o,q⟩:=h
 have nd:=mL.nd
 refine ⟨_,(ao (av aK)),?_⟩
 exact q
theorem og:aG ["self"] ["self"] (ak cE):=L2.fsc rfl (by decide +kernel)
theorem vR {c:CCs} {C:Addr} {t t':Tr} (T:bz K C "making_word" "Lesser.making_word" cE):bw P w K mg base C "making_word" 1 ["self"] (eB c (.fold .lesser t t')):=by
 refine cq T og (λ_ _ _ _ _ _=>L2.ar1 λ_=>rfl) (λvs H Q E h=>?_) (λf cdv A outer s H vs Q E hr h=>?_)
 ·obtain ⟨a,rfl,o,q⟩:=h
  rfl
 obtain ⟨a,rfl,o,q⟩:=h
 have nd:=og.nd
 refine ⟨_,(ao (av aK)),?_⟩
 exact q
theorem qm:aG ["self"] ["self"] (ak cJ):=L2.fsc rfl (by decide +kernel)
theorem yQ {c:CCs} {C:Addr} {t t':Tr} (T:bz K C "making_word" "Leads.making_word" cJ):bw P w K mg base C "making_word" 1 ["self"] (eB c (.fold .leads t t')):=by
 refine cq T qm (λ_ _ _ _ _ _=>L2.ar1 λ_=>rfl) (λvs H Q E h=>?_) (λf cdv A outer s H vs Q E hr h=>?_)
 ·obtain ⟨a,rfl,o,q⟩:=h
  rfl
 obtain ⟨a,rfl,o,q⟩:=h
 have nd:=qm.nd
 refine ⟨_,(ao (av aK)),?_⟩
 exact q
theorem xy:aG ["self"] ["self"] (ak cB):=L2.fsc rfl (by decide +kernel)
theorem nL {c:CCs} {t:Tr} (T:bz K (c.of t) "pieces" "Saying.pieces" cB) (ht:t.pieces=[.w t.word]) (G:bw P w K mg base (c.of t) "making_word" 1 ["self"] (eB c t)):bw P w K mg base (c.of t) "pieces" 2 ["self"] (kr c t):=by
 refine cq T xy (λ_ _ _ _ _ _=>L2.ar1 λ_=>rfl) (λvs H Q E h=>?_) (λf cdv A outer s H vs Q E hr h=>?_)
 ·obtain ⟨a,rfl,o,q⟩:=h
  rfl
 obtain ⟨a,rfl,o,q⟩:=h
 have nd:=xy.nd
 refine ⟨_,(ao (av (bo (aa (cT (k:=1) (pv 0) (hr.mono (by decide))) ag)))),?_⟩
 obtain ⟨dx,fs,ea,nf⟩:=o.cls
 refine ⟨_,rfl,a,_,_,_,_,_,rfl,ea,nf _ (by decide +kernel),G,a,rfl,o,(by show 1<=sizeLine;decide),λl hl=>q l _ hl ?_⟩
 rw [ht]
 exact .cons (.w _) .nil
theorem xA:aG ["self"] ["self"] (ak fQ):=L2.fsc rfl (by decide +kernel)
theorem ok_pNot {c:CCs} {t:Tr} (T:bz K c.no "pieces" "Not.pieces" fQ) (F:Fx K c):bw P w K mg base c.no "pieces" 2 ["self"] (kr c (.no t)):=by
 refine cq T xA (λ_ _ _ _ _ _=>L2.ar1 λ_=>rfl) (λvs H Q E h=>?_) (λf cdv A outer s H vs Q E hr h=>?_)
 ·obtain ⟨a,rfl,o,q⟩:=h
  rfl
 obtain ⟨a,rfl,o,q⟩:=h
 have nd:=xA.nd
 refine ⟨_,(ao (av (bo (aa aK (aa (ja (pv 0) rfl) ag))))),?_⟩
 cases o with
 | no e o=>exact ⟨_,rfl,a,_,_,_,_,rfl,e,T.cl,F.nPart,qE _,(by show 2<=sizeLine;decide),λl hl=>q l _ hl (.cons (.w _) (.cons (.t o) .nil))⟩
theorem tG:aG ["self"] ["self"] (ak fq):=L2.fsc rfl (by decide +kernel)
theorem BM {c:CCs} {u:W5} {t t':Tr} (T:bz K (c.fold u) "pieces" "Fold.pieces" fq) (F:Fx K c) (G:bw P w K mg base (c.fold u) "making_word" 1 ["self"] (eB c (.fold u t t'))):bw P w K mg base (c.fold u) "pieces" 2 ["self"] (kr c (.fold u t t')):=by
 refine cq T tG (λ_ _ _ _ _ _=>L2.ar1 λ_=>rfl) (λvs H Q E h=>?_) (λf cdv A outer s H vs Q E hr h=>?_)
 ·obtain ⟨a,rfl,o,q⟩:=h
  rfl
 obtain ⟨a,rfl,o,q⟩:=h
 have nd:=tG.nd
 refine ⟨_,(ao (av (bo (aa aK (aa (ja (pv 0) rfl) (aa (cT (k:=1) (pv 0) (hr.mono (by decide))) (aa (ja (pv 0) rfl) (aa aK ag)))))))),?_⟩
 cases o with
 | fold e o o' =>
  refine ⟨_,rfl,a,_,_,_,_,rfl,e,T.cl,F.nOne u,uB _ _,_,rfl,a,_,_,_,_,_,rfl,e,ff (by decide +kernel) (ff (by decide +kernel) rfl),G,a,rfl,.fold e o o',?_⟩
  exact ⟨_,rfl,a,_,_,_,_,rfl,e,T.cl,F.nOther u,oZ _ _,(by show 5<=sizeLine;decide),λl hl=>q l _ hl (.cons (.w _) (.cons (.t o) (.cons (.w _) (.cons (.t o') (.cons (.w _) .nil)))))⟩
end
noncomputable abbrev nj:List Str:=["one","other","greater","lesser","rest"]
theorem hE:aG nj ["one","other"] (ak fM):=L2.fsc rfl (by decide +kernel)
noncomputable abbrev Ce:List Str:=[]
theorem yI:aG Ce [] (ak kG):=L2.fsc rfl (by decide +kernel)
noncomputable abbrev ze:List Str:=["rule","point"]
theorem oi:aG ze ["rule","point"] (ak lL):=L2.fsc rfl (by decide +kernel)
noncomputable abbrev kP:List Str:=["rule","hull"]
theorem fY:aG kP ["rule","hull"] (ak cD):=L2.fsc rfl (by decide +kernel)
noncomputable abbrev lY:List Str:=["one","other","at_one","at_other","numbers","factor"]
theorem gv:aG lY ["one","other","at_one","at_other"] (ak bJ):=L2.fsc rfl (by decide +kernel)
noncomputable abbrev uo:List Str:=["hull","rule","told","low","high","k","corner","following","between"]
theorem AO:aG uo ["hull","rule"] (ak iW):=L2.fsc rfl (by decide +kernel)
noncomputable abbrev n_both:List Str:=["one","other"]
theorem xE:aG n_both ["one","other"] (ak oK):=L2.fsc rfl (by decide +kernel)
noncomputable abbrev zc:List Str:=["one","other"]
theorem nZ:aG zc ["one","other"] (ak hI):=L2.fsc rfl (by decide +kernel)
noncomputable abbrev ug:List Str:=["word"]
theorem ku:aG ug ["word"] (ak iR):=L2.fsc rfl (by decide +kernel)
noncomputable abbrev pR:List Str:=["word","one","other"]
theorem iQ:aG pR ["word","one","other"] (ak gP):=L2.fsc rfl (by decide +kernel)
noncomputable abbrev uu:List Str:=["row","rules","rule"]
theorem kF:aG uu ["row","rules"] (ak iY):=L2.fsc rfl (by decide +kernel)
noncomputable abbrev uq:List Str:=["hull","choice","told"]
theorem kE:aG uq ["hull","choice"] (ak iX):=L2.fsc rfl (by decide +kernel)
noncomputable abbrev mZ:List Str:=["rows","hull","rules","k","row","choice","rule"]
theorem gX:aG mZ ["rows","hull"] (ak fK):=L2.fsc rfl (by decide +kernel)
noncomputable abbrev vZ:List Str:=["tree","found","trees","hulls","branch","hull","parts"]
theorem mM:aG vZ ["tree"] (ak jO):=L2.fsc rfl (by decide +kernel)
noncomputable abbrev pQ:List Str:=["folds"]
theorem eC:aG pQ ["folds"] (ak fi):=L2.fsc rfl (by decide +kernel)
noncomputable abbrev zd:List Str:=["hull","rows","told","test","parts"]
theorem jJ:aG zd ["hull","rows"] (ak lK):=L2.fsc rfl (by decide +kernel)
noncomputable abbrev zk:List Str:=["saying"]
theorem oF:aG zk ["saying"] (ak lP):=L2.fsc rfl (by decide +kernel)
noncomputable abbrev kQ:List Str:=["rows","tree","hulls","told"]
theorem fZ:aG kQ ["rows","tree"] (ak bf):=L2.fsc rfl (by decide +kernel)
noncomputable abbrev nh:List Str:=["rule","corner","least"]
theorem gZ:aG nh ["rule","corner","least"] (ak fL):=L2.fsc rfl (by decide +kernel)
noncomputable abbrev ng:List Str:=["rule","hull","least"]
theorem gY:aG ng ["rule","hull","least"] (ak cS):=L2.fsc rfl (by decide +kernel)
noncomputable abbrev n_holds : List Str := ["saying", "tree", "least", "leaves"]
theorem sc_holds : aG n_holds ["saying", "tree", "least"] (ak s_holds) := L2.fsc rfl (by decide +kernel)
noncomputable abbrev uj:List Str:=["_law_script","_law_k"]
theorem kB:aG uj ["_law_script","_law_k"] (ak iV):=L2.fsc rfl (by decide +kernel)
noncomputable abbrev qD:List Str:=["_law_script","_law_k","_law_cell","_law_found"]
theorem oB:aG qD ["_law_script","_law_k"] (ak hU):=L2.fsc rfl (by decide +kernel)
noncomputable abbrev zf:List Str:=["_law_rule","_law_corner"]
theorem ow:aG zf ["_law_rule","_law_corner"] (ak lM):=L2.fsc rfl (by decide +kernel)
noncomputable abbrev Cf:List Str:=["_law_one","_law_other","_law_rest"]
theorem qp:aG Cf ["_law_one","_law_other"] (ak oH):=L2.fsc rfl (by decide +kernel)
noncomputable abbrev uk:List Str:=["_law_one","_law_other","_law_near_here","_law_far","_law_found","_law_part_here"]
theorem kC:aG uk ["_law_one","_law_other","_law_near_here","_law_far"] (ak di):=L2.fsc rfl (by decide +kernel)
noncomputable abbrev kR:List Str:=["_law_hull","_law_rule","_law_tells_here","_law_parts","_law_k","_law_corner","_law_after","_law_middle"]
theorem tL:aG kR ["_law_hull","_law_rule"] (ak dw):=L2.fsc rfl (by decide +kernel)
noncomputable abbrev uh:List Str:=["_law_cell"]
theorem ky:aG uh ["_law_cell"] (ak iS):=L2.fsc rfl (by decide +kernel)
noncomputable abbrev vW:List Str:=[]
theorem tJ:aG vW [] (ak ik):=L2.fsc rfl (by decide +kernel)
noncomputable abbrev zj:List Str:=["_law_one","_law_other","_law_sign"]
theorem oC:aG zj ["_law_one","_law_other","_law_sign"] (ak hV):=L2.fsc rfl (by decide +kernel)
noncomputable abbrev Ci:List Str:=["_law_word","_law_one","_law_other","_law_full","_law_both","_law_test"]
theorem qr:aG Ci ["_law_word","_law_one","_law_other"] (ak oJ):=L2.fsc rfl (by decide +kernel)
noncomputable abbrev zg:List Str:=["_law_rows","_law_hull","_law_found","_law_k","_law_row","_law_test","_law_low","_law_high","_law_tells_here"]
theorem oz:aG zg ["_law_rows","_law_hull"] (ak hJ):=L2.fsc rfl (by decide +kernel)
noncomputable abbrev vY:List Str:=["_law_tree","_law_hull","_law_parts","_law_low","_law_high"]
theorem iP:aG vY ["_law_tree","_law_hull"] (ak jN):=L2.fsc rfl (by decide +kernel)
noncomputable abbrev zi:List Str:=["_law_lists","_law_hull","_law_rows","_law_found","_law_parts"]
theorem jK:aG zi ["_law_lists","_law_hull"] (ak lO):=L2.fsc rfl (by decide +kernel)
noncomputable abbrev oT:List Str:=["_law_rule","_law_cell"]
theorem iB:aG oT ["_law_rule","_law_cell"] (ak cf):=L2.fsc rfl (by decide +kernel)
noncomputable abbrev vX:List Str:=["_law_tree","_law_cell","_law_way"]
theorem iO:aG vX ["_law_tree","_law_cell"] (ak jL):=L2.fsc rfl (by decide +kernel)
noncomputable abbrev jy:List Str:=["_law_lists","_law_cell","_law_rule","_law_parts"]
theorem fD:aG jy ["_law_lists","_law_cell"] (ak dO):=L2.fsc rfl (by decide +kernel)
noncomputable abbrev rQ:List Str:=["_law_top","_law_bottom","_law_part_here"]
theorem jC:aG rQ ["_law_top","_law_bottom"] (ak il):=L2.fsc rfl (by decide +kernel)
noncomputable abbrev zh:List Str:=["_law_rows","_law_least_here","_law_hull","_law_rule","_law_corner","_law_tells_here"]
theorem oA:aG zh ["_law_rows"] (ak lN):=L2.fsc rfl (by decide +kernel)
noncomputable abbrev Cg:List Str:=["_law_least_here","_law_cell","_law_some"]
theorem qq:aG Cg ["_law_least_here","_law_cell"] (ak oI):=L2.fsc rfl (by decide +kernel)
noncomputable abbrev n_l_due:List Str:=["_law_rows","_law_tree","_law_least_here","_law_hulls","_law_hull","_law_found","_law_corner"]
theorem tK:aG n_l_due ["_law_rows","_law_tree","_law_least_here"] (ak rz):=L2.fsc rfl (by decide +kernel)
noncomputable abbrev ui:List Str:=["_law_saying_here","_law_tree","_law_refused_here"]
theorem kA:aG ui ["_law_saying_here","_law_tree"] (ak iU):=L2.fsc rfl (by decide +kernel)
noncomputable def t3D (p:T3):PyData:=.tuple [.int p.u,.int p.v,.int p.w]
section
variable {K:PySem.W.Frag} {H H':Hp} {a:Addr} {v:V} {p:T3}
theorem bU (g:SqT K H a [.int p.u,.int p.v,.int p.w]):Dat K H (t3D p) (.ref a):=⟨a,_,rfl,g,_,_,rfl,rfl,_,_,rfl,rfl,_,_,rfl,rfl,rfl⟩
theorem eA (g:Dat K H (t3D p) v):∃ a,v=.ref a/\SqT K H a [.int p.u,.int p.v,.int p.w]:=by
 obtain ⟨a,xs,rfl,g,x,r,rfl,hx,y,t,rfl,hy,z,u,rfl,hz,hu⟩:=g
 cases (show x=V.int p.u from hx)
 cases (show y=V.int p.v from hy)
 cases (show z=V.int p.w from hz)
 cases (show u=[] from hu)
 exact ⟨a,rfl,g⟩
theorem iL {xs:List V} {h:List T3} (g:DatAll K H (h.map t3D) xs) {i:Nat} (e:h[i]?=some p):∃ x,xs[i]?=some x/\Dat K H (t3D p) x:=g.get (by rw [List.getElem?_map,e];rfl)
theorem lG {xs:List V} {h:List T3} (g:DatAll K H (h.map t3D) xs) {i:Nat} {x:V} (e:xs[i]?=some x):∃ p,h[i]?=some p/\Dat K H (t3D p) x:=by
 obtain ⟨d,e1,e2⟩:=g.get' e
 rw [List.getElem?_map] at e1
 cases z:h[i]? with
 | none=>rw [z] at e1;cases e1
 | some s=>rw [z] at e1;cases e1;exact ⟨s,rfl,e2⟩
theorem fJ {xs:List V} {h:List T3} (g:DatAll K H (h.map t3D) xs):xs.length=h.length:=by rw [g.len,List.length_map]
end
noncomputable def Bg (x:Int):Prop:=x.natAbs < 2 ^ 8000
theorem dW {a b:Int} (ha:Bg a) (hb:Bg b):IntMulOk a b:=IntMulOk.of_le (m:=8000) (n:=8000) (nQ ha) (nQ hb) (by decide)
theorem bL {x:Int} {n:Nat} (h:x.natAbs < 2 ^ n) (hn:n<=8000):Bg x:=Nat.lt_of_lt_of_le h (Nat.pow_le_pow_right (by decide) hn)
theorem divB {t x:Int} (h0:x≠0) (h:Bg x):CDivK t x:=⟨h0,Nat.lt_of_lt_of_le ((Nat.log2_lt (by omega)).mpr h) (by decide)⟩
noncomputable def sZ:Sp:=λvs H Q _=>∃ a b:Int,vs=[.int a,.int b]/\Q (.int (Lo.gc a b)) H
noncomputable def vG:Sp:=λvs H Q _=>∃ a b:Int,vs=[.int a,.int b]/\0<=a/\0<=b/\Q (.int (Lo.gc a b)) H
noncomputable def sW (K:PySem.W.Frag):Sp:=λvs H Q _=>∃(x y:V) (r p:T3),vs=[x,y]/\Dat K H (t3D r) x/\Dat K H (t3D p) y/\Hu.R3 3000 r/\Hu.R3 3000 p/\Q (.int (Hu.tl r p)) H
noncomputable def Ay (K:PySem.W.Frag):Sp:=λvs H Q _=>∃(x:V) (l:Addr) (us:List V) (r:T3) (h:List T3),vs=[x,.ref l]/\Dat K H (t3D r) x/\SqL K H l us/\DatAll K H (h.map t3D) us/\Hu.R3 3000 r/\(∀ p∈h,Hu.R3 3000 p)/\h.length<=900/\(∀ H',aJ H H'->SqL K H' l us)/\
 ∀(d:Addr) (H':Hp),aJ H H'->H d=none->H' d=some (.lst ((h.map (Hu.tl r)).map V.int))->Q (.ref d) H'
noncomputable def spCB (K:PySem.W.Frag):Sp:=λvs H Q _=>∃(x y:V) (p q:T3) (s t:Int),vs=[x,y,.int s,.int t]/\Dat K H (t3D p) x/\Dat K H (t3D q) y/\Hu.P3 600 p/\Hu.P3 600 q/\s*t < 0/\s.natAbs < 2 ^ 2000/\t.natAbs < 2 ^ 2000/\
 ∀(v:V) (H':Hp),aJ H H'->Dat K H' (t3D (Hu.mid p q s t)) v->Q v H'
section
variable {P:Program} {w:World} {K:PySem.W.Frag} {mg:Str->Option Value} {base:Heap}
theorem yX (T:aE K mg "common_factor" fM) (gk:mg "abs"=none):Def P w K mg base 1 "common_factor" ["one","other"] sZ:=by
 refine aO T hE (λ_ _ _ _ _ _=>L2.ar2 λ_ _=>rfl) (λvs H Q E h=>?_) (λf cdv A outer s H vs Q E hr h=>?_)
 ·obtain ⟨a,b,rfl,_⟩:=h
  rfl
 obtain ⟨a,b,rfl,q⟩:=h
 have nd:=hE.nd
 refine ⟨_,(ah (aF (i:=2) nd rfl (Or.inl rfl) (aR gj rfl gk (by decide +kernel) (aa (pv 0) ag)))
  (ah (aF (i:=3) nd rfl (Or.inl rfl) (aR gj rfl gk (by decide +kernel) (aa (pv 1) ag)))
  (ah (kI PassesOwn.never (aC BC (pv 3) af (aI _)) (ah (aF (i:=4) nd rfl (Or.inl rfl) (aA kM (pv 2) (pv 3)))
  (ah (aF (i:=2) nd rfl (Or.inl rfl) (pv 3))
  (ao (aF (i:=3) nd rfl (Or.inl rfl) (pv 4))))))
  (ao (av (pv 2)))))),?_⟩
 refine ⟨_,rfl,_,rfl,_,rfl,_,rfl,?_⟩
 rw [bK,bK]
 refine ⟨λm σ H'=>H'=H/\∃(g l:Int) (o:Option V),σ=[some (.int a),some (.int b),some (.int g),some (.int l),o]/\0<=g/\0<=l/\l.toNat=m/\Lo.gc g l=Lo.gc a b,⟨_,rfl,_,_,_,rfl,by omega,by omega,rfl,Lo.zD a b⟩,?_⟩
 rintro m σ H' ⟨rfl,g,l,o,rfl,hg,hl,rfl,e⟩
 refine ⟨_,rfl,rfl,_,rfl,?_⟩
 refine bY (λc=>?_) (λc=>?_)
 ·have c':l≠0:=λz=>by
   rw [z,decide_eq_true (rfl:V.int 0=V.int 0)] at c
   cases c
  have c2:0 < l:=by omega
  refine ⟨fun σ' H''=>H''=H'/\σ'=[some (.int a),some (.int b),some (.int l),some (.int (g.fmod l)),some (.int (g.fmod l))],?_,?_⟩
  ·rintro σ' H'' ⟨rfl,rfl⟩
   have z0:=Int.fmod_nonneg_of_pos g c2
   have z1:=Int.fmod_lt_of_pos g c2
   exact ⟨_,(show (g.fmod l).toNat < l.toNat by omega),rfl,l,g.fmod l,_,rfl,by omega,z0,rfl,by rw [Lo.ye];exact e⟩
  ·exact ⟨_,rfl,_,rfl,_,_,rfl,rfl,c',_,rfl,_,rfl,rfl,rfl⟩
 ·have l0:l=0:=by
   by_cases z:l=0
   ·exact z
   ·exfalso
    refine c ?_
    have n:¬ (V.int l=V.int 0):=λq=>z (V.int.inj q)
    simp [n]
  subst l0
  rw [Lo.yd hg] at e
  subst e
  exact ⟨_,rfl,q⟩
theorem xS (T:aE K mg "_law_part" oH):Def P w K mg base 1 "_law_part" ["_law_one","_law_other"] vG:=by
 refine aO T qp (λ_ _ _ _ _ _=>L2.ar2 λ_ _=>rfl) (λvs H Q E h=>?_) (λf cdv A outer s H vs Q E hr h=>?_)
 ·obtain ⟨a,b,rfl,_⟩:=h
  rfl
 obtain ⟨a,b,rfl,a0,b0,q⟩:=h
 have nd:=qp.nd
 refine ⟨_,(ah (kI PassesOwn.never (aC tV (pv 1) af (aI _)) (ah (aF (i:=2) nd rfl (Or.inl rfl) (aA kM (pv 0) (pv 1)))
  (ah (aF (i:=0) nd rfl (Or.inl rfl) (pv 1))
  (ao (aF (i:=1) nd rfl (Or.inl rfl) (pv 2))))))
  (ao (av (pv 0)))),?_⟩
 refine ⟨λm σ H'=>H'=H/\∃(g l:Int) (o:Option V),σ=[some (.int g),some (.int l),o]/\0<=g/\0<=l/\l.toNat=m/\Lo.gc g l=Lo.gc a b,⟨_,rfl,_,_,_,rfl,a0,b0,rfl,rfl⟩,?_⟩
 rintro m σ H' ⟨rfl,g,l,o,rfl,hg,hl,rfl,e⟩
 refine ⟨_,rfl,_,_,rfl,rfl,_,rfl,?_⟩
 refine bY (λc=>?_) (λc=>?_)
 ·have c2:0 < l:=of_decide_eq_true c
  refine ⟨fun σ' H''=>H''=H'/\σ'=[some (.int l),some (.int (g.fmod l)),some (.int (g.fmod l))],?_,?_⟩
  ·rintro σ' H'' ⟨rfl,rfl⟩
   have z0:=Int.fmod_nonneg_of_pos g c2
   have z1:=Int.fmod_lt_of_pos g c2
   exact ⟨_,(show (g.fmod l).toNat < l.toNat by omega),rfl,l,g.fmod l,_,rfl,by omega,z0,rfl,by rw [Lo.ye];exact e⟩
  ·exact ⟨_,rfl,_,rfl,_,_,rfl,rfl,(by omega),_,rfl,_,rfl,rfl,rfl⟩
 ·have c2:¬0 < l:=λz=>c (decide_eq_true z)
  have l0:l=0:=by omega
  subst l0
  rw [Lo.yd hg] at e
  subst e
  exact ⟨_,rfl,q⟩
theorem r3b {r:T3} (h:Hu.R3 3000 r):Bg r.u/\Bg r.v/\Bg r.w:=⟨bL h.a (by decide),bL h.b (by decide),bL h.c (by decide)⟩
theorem ok_told (T:aE K mg "told_by" lL):Def P w K mg base 1 "told_by" ["rule","point"] (sW K):=by
 refine aO T oi (λ_ _ _ _ _ _=>L2.ar2 λ_ _=>rfl) (λvs H Q E h=>?_) (λf cdv A outer s H vs Q E hr h=>?_)
 ·obtain ⟨x,y,r,p,rfl,_⟩:=h
  rfl
 obtain ⟨x,y,r,p,rfl,dx,dy,br,bp,q⟩:=h
 obtain ⟨ar,rfl,sr⟩:=eA dx
 obtain ⟨ap,rfl,st⟩:=eA dy
 obtain ⟨r1,r2,r3⟩:=r3b br
 obtain ⟨p1,p2,p3⟩:=r3b bp
 have nd:=oi.nd
 refine ⟨_,(ao (av (aA bR (aA bR (aA bg (aw az (pv 0) af (λ_ _=>rfl)) (aw az (pv 1) af (λ_ _=>rfl))) (aA bg (aw az (pv 0) af (λ_ _=>rfl)) (aw az (pv 1) af (λ_ _=>rfl)))) (aA bg (aw az (pv 0) af (λ_ _=>rfl)) (aw az (pv 1) af (λ_ _=>rfl)))))),?_⟩
 exact ⟨_,rfl,_,_,_,_,rfl,rfl,sr,rfl,_,rfl,_,_,_,_,rfl,rfl,st,rfl,_,_,rfl,rfl,dW r1 p2,_,rfl,_,_,_,_,rfl,rfl,sr,rfl,_,rfl,_,_,_,_,rfl,rfl,st,rfl,_,_,rfl,rfl,dW r2 p3,_,_,rfl,rfl,_,rfl,_,_,_,_,rfl,rfl,sr,rfl,_,rfl,_,_,_,_,rfl,rfl,st,rfl,_,_,rfl,rfl,dW r3 p1,_,_,rfl,rfl,q⟩
theorem BH (T:aE K mg "_law_tells" lM):Def P w K mg base 1 "_law_tells" ["_law_rule","_law_corner"] (sW K):=by
 refine aO T ow (λ_ _ _ _ _ _=>L2.ar2 λ_ _=>rfl) (λvs H Q E h=>?_) (λf cdv A outer s H vs Q E hr h=>?_)
 ·obtain ⟨x,y,r,p,rfl,_⟩:=h
  rfl
 obtain ⟨x,y,r,p,rfl,dx,dy,br,bp,q⟩:=h
 obtain ⟨ar,rfl,sr⟩:=eA dx
 obtain ⟨ap,rfl,st⟩:=eA dy
 obtain ⟨r1,r2,r3⟩:=r3b br
 obtain ⟨p1,p2,p3⟩:=r3b bp
 have nd:=ow.nd
 refine ⟨_,(ao (av (aA bR (aA bR (aA bg (aw az (pv 0) af (λ_ _=>rfl)) (aw az (pv 1) af (λ_ _=>rfl))) (aA bg (aw az (pv 0) af (λ_ _=>rfl)) (aw az (pv 1) af (λ_ _=>rfl)))) (aA bg (aw az (pv 0) af (λ_ _=>rfl)) (aw az (pv 1) af (λ_ _=>rfl)))))),?_⟩
 exact ⟨_,rfl,_,_,_,_,rfl,rfl,sr,rfl,_,rfl,_,_,_,_,rfl,rfl,st,rfl,_,_,rfl,rfl,dW r1 p2,_,rfl,_,_,_,_,rfl,rfl,sr,rfl,_,rfl,_,_,_,_,rfl,rfl,st,rfl,_,_,rfl,rfl,dW r2 p3,_,_,rfl,rfl,_,rfl,_,_,_,_,rfl,rfl,sr,rfl,_,rfl,_,_,_,_,rfl,rfl,st,rfl,_,_,rfl,rfl,dW r3 p1,_,_,rfl,rfl,q⟩
theorem nU {H1:Hp} {l D:Addr} {us:List V} {r:T3} {h:List T3} {te:TE} {js:List Nat} {σ:St} {R:Hp->Prop} (hl:∀ H',aJ H1 H'->SqL K H' l us) (da:DatAll K H1 (h.map t3D) us) (few:h.length<=900) (hD:H1 D=none)
  (step:∀(v:V) (p:T3) (H':Hp) (k:VK),aJ H1 H'->p∈h->Dat K H' (t3D p) v->k (.int (Hu.tl r p)) H'->te (some v::cw js σ) H' k)
  (fin:∀ H',aJ H1 H'->H' D=some (.lst ((h.map (Hu.tl r)).map V.int))->R H') :
  ∃ W:Nat->Nat->Hp->Prop,(∃ m,W 0 m (upd H1 D (.lst [])))/\∀ i m H2,W i m H2->((Itl K l).stop i H2/\R H2)\/
   ((
    Itl K l).go i H2/\∀ v H3,(Itl K l).yld i H2 v H3->mK (some v::cw js σ) H3 λb H4=>if b=true then te (some v::cw js σ) H4 λy H5 =>
    ∃ ys,H5 D=some (.lst ys)/\ys.length < sizeLine/\∃ m',m' < m/\W (i+1) m' (upd H5 D (.lst (ys++[y]))) else ∃ m',m' < m/\W (i+1) m' H4):=by
 have lu:=fJ da
 refine ⟨λi m H2=>m=us.length - i/\i<=us.length/\aJ H1 H2/\H2 D=some (.lst (((h.take i).map (Hu.tl r)).map V.int)),⟨_,rfl,Nat.zero_le _,aq hD _,ae⟩,?_⟩
 rintro i m H2 ⟨rfl,hi,sm,hlD⟩
 by_cases hlt:i < us.length
 ·refine .inr ⟨⟨us,_,hl _ sm,List.getElem?_eq_getElem hlt⟩,λv H3 y=>?_⟩
  obtain ⟨rfl,y⟩:=y
  obtain ⟨p,hp,dp⟩:=lG (da.ts sm.ts) (y us (hl _ sm))
  refine gS ?_
  refine step v p _ _ sm (List.mem_of_getElem? hp) dp ?_
  refine ⟨_,hlD,aN (by simp;omega),us.length - (i+1),by omega,rfl,hlt,aT sm hD _,?_⟩
  rw [ae]
  have e:h.take (i+1)=h.take i++[p]:=by
   obtain ⟨q1,q2⟩:=List.getElem?_eq_some_iff.mp hp
   rw [List.take_succ_eq_append_getElem q1,q2]
  rw [e,List.map_append,List.map_append]
  rfl
 ·have ei:i=us.length:=by omega
  subst ei
  refine .inl ⟨⟨us,hl _ sm,Nat.le_refl _⟩,fin _ sm ?_⟩
  rw [hlD,lu,List.take_length]
theorem ok_tic (T:aE K mg "told_in_corners" cD) (mB:Def P w K mg base 1 "told_by" ["rule","point"] (sW K)):Def P w K mg base 2 "told_in_corners" ["rule","hull"] (Ay K):=by
 refine aO T fY (λ_ _ _ _ _ _=>L2.ar2 λ_ _=>rfl) (λvs H Q E h=>?_) (λf cdv A outer s H vs Q E hr h=>?_)
 ·obtain ⟨x,l,us,r,h,rfl,_⟩:=h
  rfl
 obtain ⟨x,l,us,r,h,rfl,dx,sl,da,br,bp,few,hl,k⟩:=h
 have nd:=fY.nd
 refine ⟨_,(ao (av (eJ rfl (ck (pv 1)) rfl (by decide +kernel) (by decide +kernel) rfl (show ∀ p∈Scope.names _,p.2=NameKind.free->List.lookup p.1 (ak cD).names=some .cell\/List.lookup p.1 (ak cD).names=some .free by decide +kernel) (bP (j:=0) rfl (Or.inl rfl) (by decide +kernel) (Or.inl rfl) cP) (show (["corner","rule"]:List Str).Nodup by decide +kernel) (λ_ _ _ _=>dB) (λ_ _ _ _=>(aD mB (hr.mono (by decide)) rfl (aa (pv 1) (aa (pv 0) ag))))))),?_⟩
 refine ⟨_,rfl,l,rfl,⟨us,sl⟩,λD hD=>?_⟩
 exact nU (r:=r) hl da few hD (λv p H' kk sm hp dp q=>⟨_,rfl,_,rfl,x,v,r,p,rfl,dx.ts sm.ts,dp,br,bp p hp,q⟩) λH' sm e=>k D H' sm hD e
end
theorem kK {X:Cx} {K:PySem.W.Frag} {es:List Expr} {k:Nat} {pos:Pos} {t:TGs} {n:Nat} (e:X.K=K) (hc:X.calm=true) (h:PGs X es t)
  (hn:(assignEach es X.env).length=n:=by rfl) (hst:(assignEach es X.env).findIdx? (·.1)=none:=by rfl):PG X (.Tuple es k pos) (gTup K n t):=by
 subst e
 exact lV hc h hn hst
theorem len2 {o:St} (h:o.length=2):∃ a b,o=[a,b]:=match o,h with | [a,b],_=>⟨a,b,rfl⟩
section
variable {P:Program} {w:World} {K:PySem.W.Frag} {mg:Str->Option Value} {base:Heap}
theorem uK {H1:Hp} {l D:Addr} {a b c g:Int} {te:TE} {js:List Nat} {σ:St} {R:Hp->Prop} (hl:H1 l=some (.lst [.int a,.int b,.int c])) (hD:H1 D=none)
  (step:∀(n:Int) (H':Hp) (k:VK),k (.int (n.fdiv g)) H'->te (some (.int n)::cw js σ) H' k)
  (fin:∀ H',aJ H1 H'->H' D=some (.lst [.int (a.fdiv g),.int (b.fdiv g),.int (c.fdiv g)])->R H') :
  ∃ W:Nat->Nat->Hp->Prop,(∃ m,W 0 m (upd H1 D (.lst [])))/\∀ i m H2,W i m H2->((Itl K l).stop i H2/\R H2)\/
   ((
    Itl K l).go i H2/\∀ v H3,(Itl K l).yld i H2 v H3->mK (some v::cw js σ) H3 λb H4=>if b=true then te (some v::cw js σ) H4 λy H5 =>
    ∃ ys,H5 D=some (.lst ys)/\ys.length < sizeLine/\∃ m',m' < m/\W (i+1) m' (upd H5 D (.lst (ys++[y]))) else ∃ m',m' < m/\W (i+1) m' H4):=by
 refine ⟨λi m H2=>m=3 - i/\i<=3/\aJ H1 H2/\H2 D=some (.lst ([V.int (a.fdiv g),.int (b.fdiv g),.int (c.fdiv g)].take i)),⟨_,rfl,Nat.zero_le _,aq hD _,ae⟩,?_⟩
 rintro i m H2 ⟨rfl,hi,sm,hlD⟩
 have sl:SqL K H2 l [.int a,.int b,.int c]:=SqL.of (sm _ _ hl)
 by_cases hlt:i < 3
 ·refine .inr ⟨⟨_,_,sl,List.getElem?_eq_getElem (show i < 3 from hlt)⟩,λv H3 y=>?_⟩
  obtain ⟨rfl,y⟩:=y
  have z:=y _ sl
  refine gS ?_
  rcases (show i=0\/i=1\/i=2 by omega) with rfl | rfl | rfl
  ·cases z
   exact step _ _ _ ⟨_,hlD,aN (by simp),3 - 1,by omega,rfl,by omega,aT sm hD _,ae⟩
  ·cases z
   exact step _ _ _ ⟨_,hlD,aN (by simp),3 - 2,by omega,rfl,by omega,aT sm hD _,ae⟩
  ·cases z
   exact step _ _ _ ⟨_,hlD,aN (by simp),3 - 3,by omega,rfl,by omega,aT sm hD _,ae⟩
 ·have ei:i=3:=by omega
  subst ei
  exact .inl ⟨⟨_,sl,Nat.le_refl _⟩,fin _ sm hlD⟩
theorem qC {p q s t:Int} {a b:T3} (p0:0<=p) (q0:0<=q) (p1:p < 2 ^ 600) (q1:q < 2 ^ 600) (hs:s.natAbs < 2 ^ 2000) (ht:t.natAbs < 2 ^ 2000):0<=Hu.nm p q s t/\Bg (Hu.nm p q s t):=by
 obtain ⟨a,b⟩:=Hu.nm_b p0 q0 p1 q1 hs ht
 exact ⟨a,bL b (by decide)⟩
theorem gg_bg {U V W:Int} (h0:0 < U) (h:Bg U):Hu.gg U V W≠0/\Bg (Hu.gg U V W):=by
 have g0:=Hu.jW (V:=V) (W:=W) h0
 have g1:=Hu.gg_le (V:=V) (W:=W) h0
 exact ⟨by omega,Nat.lt_of_le_of_lt (by omega) h⟩
theorem ok_cb (T:aE K mg "corner_between" bJ) (iD:mg "zip"=none) (gk:mg "abs"=none) (bI:mg "tuple"=none) (iF:Def P w K mg base 1 "common_factor" ["one","other"] sZ):Def P w K mg base 2 "corner_between" ["one","other","at_one","at_other"] (spCB K):=by
 refine aO T gv (λ_ _ _ _ _ _=>L2.ar4 λ_ _ _ _=>rfl) (λvs H Q E h=>?_) (λf cdv A outer s H vs Q E hr h=>?_)
 ·obtain ⟨x,y,p,q,s,t,rfl,_⟩:=h
  rfl
 obtain ⟨x,y,p,q,s,t,rfl,dx,dy,hp,hq,st,hs,ht,k⟩:=h
 obtain ⟨ax,rfl,sx⟩:=eA dx
 obtain ⟨ay,rfl,sy⟩:=eA dy
 have nd:=gv.nd
 obtain ⟨u0,ub⟩:=qC (a:=p) (b:=p) (Int.le_of_lt hp.n0) (Int.le_of_lt hq.n0) hp.n1 hq.n1 hs ht
 obtain ⟨v0,vb⟩:=qC (a:=p) (b:=p) hp.x0 hq.x0 hp.x1 hq.x1 hs ht
 obtain ⟨w0,wb⟩:=qC (a:=p) (b:=p) hp.y0 hq.y0 hp.y1 hq.y1 hs ht
 have up:=Hu.gD hp hq st
 obtain ⟨g0,gb⟩:=gg_bg (V:=Hu.nm p.v q.v s t) (W:=Hu.nm p.w q.w s t) up ub
 have bs:Bg (s.natAbs:Int):=bL (n:=2000) (by simpa using hs) (by decide)
 have bt:Bg (t.natAbs:Int):=bL (n:=2000) (by simpa using ht) (by decide)
 have pb:=r3b (hp.r.mono (by decide))
 have qb:=r3b (hq.r.mono (by decide))
 refine ⟨_,(ah (Bq (i:=4) (xs:=["first","second"]) nd rfl (Or.inl rfl) (Or.inl rfl) rfl rfl (rK rfl iD (pv 0) (pv 1)) rfl (by decide +kernel) (by decide +kernel) (show ∀ p∈Scope.names _,p.2=NameKind.free->List.lookup p.1 (ak bJ).names=some .cell\/List.lookup p.1 (ak bJ).names=some .free by decide +kernel) (bP (j:=3) rfl (Or.inl rfl) (by decide +kernel) (Or.inl rfl) (bP (j:=2) rfl (Or.inl rfl) (by decide +kernel) (Or.inl rfl) cP)) (show (["first","second","at_other","at_one"]:List Str).Nodup by decide +kernel) (λ_ _ _ _=>kK (K:=K) (n:=2) rfl rfl (bx (aW (i:=0) (show (["first","second","at_other","at_one"]:List Str).Nodup by decide +kernel) rfl (Or.inl rfl) (.inr rfl)) (bx (aW (i:=1) (show (["first","second","at_other","at_one"]:List Str).Nodup by decide +kernel) rfl (Or.inl rfl) (.inr rfl)) ft))) (λ_ _ _ _=>(aA bR (aA bg (aR gj rfl gk (by decide +kernel) (aa (pv 2) ag)) (pv 0)) (aA bg (aR gj rfl gk (by decide +kernel) (aa (pv 3) ag)) (pv 1)))))
  (ah (aF (i:=5) nd rfl (Or.inr rfl) (aD iF (hr.mono (by decide)) rfl (aa (aD iF (hr.mono (by decide)) rfl (aa (aw aU (pv 4) af (λ_ _=>rfl)) (aa (aw aU (pv 4) af (λ_ _=>rfl)) ag))) (aa (aw aU (pv 4) af (λ_ _=>rfl)) ag))))
  (ao (av (cC bV rfl bI (by decide +kernel) (aa (eJ rfl (ck (pv 4)) rfl (by decide +kernel) (by decide +kernel) rfl (show ∀ p∈Scope.names _,p.2=NameKind.free->List.lookup p.1 (ak bJ).names=some .cell\/List.lookup p.1 (ak bJ).names=some .free by decide +kernel) (bP (j:=5) rfl (Or.inl rfl) (by decide +kernel) (Or.inl rfl) cP) (show (["number","factor"]:List Str).Nodup by decide +kernel) (λ_ _ _ _=>dB) (λ_ _ _ _=>(aA kN (pv 0) (pv 1)))) ag)))))),?_⟩
 refine ⟨_,rfl,_,rfl,ax,ay,_,_,rfl,rfl,sx,sy,λD hD=>?_⟩
 refine ⟨λi m H2=>m=3 - i/\i<=3/\aJ H H2/\H2 D=some (.lst ([V.int (Hu.nm p.u q.u s t),.int (Hu.nm p.v q.v s t),.int (Hu.nm p.w q.w s t)].take i)),⟨_,rfl,Nat.zero_le _,aq hD _,ae⟩,?_⟩
 rintro i m H2 ⟨rfl,hi,sm,hlD⟩
 have sx2:=sx.ts sm.ts
 have sy2:=sy.ts sm.ts
 by_cases hlt:i < 3
 ·refine .inr ⟨⟨_,_,sx2,sy2,hlt,Nat.le_refl _⟩,λo ho v H3 y=>?_⟩
  obtain ⟨T',vs,nT,rfl,rfl,x,y,rfl,hx,hy⟩:=y
  have zx:=hx _ sx2
  have zy:=hy _ sy2
  obtain ⟨o1,o2,rfl⟩:=len2 ho
  have uT:=aq nT (.tup [x,y])
  refine ⟨T',_,rfl,SqT.of ae,rfl,_,_,rfl,_,_,rfl,rfl,[some x,some y],rfl,rfl,?_⟩
  have hlD2:=uT _ _ hlD
  rcases (show i=0\/i=1\/i=2 by omega) with rfl | rfl | rfl
  ·cases zx
   cases zy
   refine ⟨_,rfl,_,rfl,_,rfl,_,_,rfl,rfl,(by rw [bK];exact dW bt pb.1),_,rfl,_,rfl,_,rfl,_,_,rfl,rfl,(by rw [bK];exact dW bs qb.1),_,_,rfl,rfl,?_⟩
   refine ⟨_,hlD2,aN (by simp),3 - 1,by omega,rfl,by omega,aT (sm.trans uT) hD _,?_⟩
   rw [ae,bK,bK]
   rfl
  ·cases zx
   cases zy
   refine ⟨_,rfl,_,rfl,_,rfl,_,_,rfl,rfl,(by rw [bK];exact dW bt pb.2.1),_,rfl,_,rfl,_,rfl,_,_,rfl,rfl,(by rw [bK];exact dW bs qb.2.1),_,_,rfl,rfl,?_⟩
   refine ⟨_,hlD2,aN (by simp),3 - 2,by omega,rfl,by omega,aT (sm.trans uT) hD _,?_⟩
   rw [ae,bK,bK]
   rfl
  ·cases zx
   cases zy
   refine ⟨_,rfl,_,rfl,_,rfl,_,_,rfl,rfl,(by rw [bK];exact dW bt pb.2.2),_,rfl,_,rfl,_,rfl,_,_,rfl,rfl,(by rw [bK];exact dW bs qb.2.2),_,_,rfl,rfl,?_⟩
   refine ⟨_,hlD2,aN (by simp),3 - 3,by omega,rfl,by omega,aT (sm.trans uT) hD _,?_⟩
   rw [ae,bK,bK]
   rfl
 have ei:i=3:=by omega
 subst ei
 refine .inl ⟨⟨_,_,sx2,sy2,Nat.le_refl _,Nat.le_refl _⟩,?_⟩
 have hl3:H2 D=some (.lst [.int (Hu.nm p.u q.u s t),.int (Hu.nm p.v q.v s t),.int (Hu.nm p.w q.w s t)]):=hlD
 have sD:SqL K H2 D [.int (Hu.nm p.u q.u s t),.int (Hu.nm p.v q.v s t),.int (Hu.nm p.w q.w s t)]:=SqL.of hl3
 refine ⟨_,rfl,_,_,_,_,rfl,rfl,sD,rfl,_,rfl,_,_,_,_,rfl,rfl,sD,rfl,_,_,rfl,_,rfl,_,_,_,_,rfl,rfl,sD,rfl,_,_,rfl,?_⟩
 refine ⟨_,rfl,D,rfl,⟨_,sD⟩,λD2 hD2=>?_⟩
 refine uK (K:=K) (g:=Hu.gg (Hu.nm p.u q.u s t) (Hu.nm p.v q.v s t) (Hu.nm p.w q.w s t)) hl3 hD2 ?step ?fin
 case step =>
  intro n H' kk q
  exact ⟨_,rfl,_,rfl,_,_,rfl,rfl,divB g0 gb,q⟩
 intro H' sm2 e2
 refine ⟨D2,_,rfl,.inl ⟨SqL.of e2,λtt htt=>?_⟩⟩
 have u3:=aq htt (.tup [.int ((Hu.nm p.u q.u s t).fdiv (Hu.gg (Hu.nm p.u q.u s t) (Hu.nm p.v q.v s t) (Hu.nm p.w q.w s t))),.int ((Hu.nm p.v q.v s t).fdiv (Hu.gg (Hu.nm p.u q.u s t) (Hu.nm p.v q.v s t) (Hu.nm p.w q.w s t))),.int ((Hu.nm p.w q.w s t).fdiv (Hu.gg (Hu.nm p.u q.u s t) (Hu.nm p.v q.v s t) (Hu.nm p.w q.w s t)))])
 exact k _ _ (sm.trans (sm2.trans u3)) (bU (p:=Hu.mid p q s t) (SqT.of ae))
theorem vV (T:aE K mg "_law_between" di) (jw:mg "range"=none) (gk:mg "abs"=none) (bI:mg "tuple"=none) (gJ:Def P w K mg base 1 "_law_part" ["_law_one","_law_other"] vG):Def P w K mg base 2 "_law_between" ["_law_one","_law_other","_law_near_here","_law_far"] (spCB K):=by
 refine aO T kC (λ_ _ _ _ _ _=>L2.ar4 λ_ _ _ _=>rfl) (λvs H Q E h=>?_) (λf cdv A outer s H vs Q E hr h=>?_)
 ·obtain ⟨x,y,p,q,s,t,rfl,_⟩:=h
  rfl
 obtain ⟨x,y,p,q,s,t,rfl,dx,dy,hp,hq,st,hs,ht,k⟩:=h
 obtain ⟨ax,rfl,sx⟩:=eA dx
 obtain ⟨ay,rfl,sy⟩:=eA dy
 have nd:=kC.nd
 obtain ⟨u0,ub⟩:=qC (a:=p) (b:=p) (Int.le_of_lt hp.n0) (Int.le_of_lt hq.n0) hp.n1 hq.n1 hs ht
 obtain ⟨v0,vb⟩:=qC (a:=p) (b:=p) hp.x0 hq.x0 hp.x1 hq.x1 hs ht
 obtain ⟨w0,wb⟩:=qC (a:=p) (b:=p) hp.y0 hq.y0 hp.y1 hq.y1 hs ht
 have up:=Hu.gD hp hq st
 obtain ⟨g0,gb⟩:=gg_bg (V:=Hu.nm p.v q.v s t) (W:=Hu.nm p.w q.w s t) up ub
 have bs:Bg (s.natAbs:Int):=bL (n:=2000) (by simpa using hs) (by decide)
 have bt:Bg (t.natAbs:Int):=bL (n:=2000) (by simpa using ht) (by decide)
 have pb:=r3b (hp.r.mono (by decide))
 have qb:=r3b (hq.r.mono (by decide))
 refine ⟨_,(ah (kJ (i:=4) nd rfl (Or.inl rfl) (Or.inl rfl) rfl rfl (qy rfl jw (dM ag)) rfl (by decide +kernel) (by decide +kernel) rfl (show ∀ p∈Scope.names _,p.2=NameKind.free->List.lookup p.1 (ak di).names=some .cell\/List.lookup p.1 (ak di).names=some .free by decide +kernel) (bP (j:=3) rfl (Or.inl rfl) (by decide +kernel) (Or.inl rfl) (bP (j:=0) rfl (Or.inl rfl) (by decide +kernel) (Or.inl rfl) (bP (j:=2) rfl (Or.inl rfl) (by decide +kernel) (Or.inl rfl) (bP (j:=1) rfl (Or.inl rfl) (by decide +kernel) (Or.inl rfl) cP)))) (show (["_law_k","_law_far","_law_one","_law_near_here","_law_other"]:List Str).Nodup by decide +kernel) (λ_ _ _ _=>dB) (λ_ _ _ _=>(aA bR (aA bg (aR gj rfl gk (by decide +kernel) (aa (pv 1) ag)) (aw (jq (K:=K) rfl) (pv 2) (pv 0) (λ_ _=>rfl))) (aA bg (aR gj rfl gk (by decide +kernel) (aa (pv 3) ag)) (aw (jq (K:=K) rfl) (pv 4) (pv 0) (λ_ _=>rfl))))))
  (ah (aF (i:=5) nd rfl (Or.inr rfl) (aD gJ (hr.mono (by decide)) rfl (aa (aD gJ (hr.mono (by decide)) rfl (aa (aw aU (pv 4) af (λ_ _=>rfl)) (aa (aw aU (pv 4) af (λ_ _=>rfl)) ag))) (aa (aw aU (pv 4) af (λ_ _=>rfl)) ag))))
  (ao (av (cC bV rfl bI (by decide +kernel) (aa (eJ rfl (ck (pv 4)) rfl (by decide +kernel) (by decide +kernel) rfl (show ∀ p∈Scope.names _,p.2=NameKind.free->List.lookup p.1 (ak di).names=some .cell\/List.lookup p.1 (ak di).names=some .free by decide +kernel) (bP (j:=5) rfl (Or.inl rfl) (by decide +kernel) (Or.inl rfl) cP) (show (["_law_number","_law_part_here"]:List Str).Nodup by decide +kernel) (λ_ _ _ _=>dB) (λ_ _ _ _=>(aA kN (pv 0) (pv 1)))) ag)))))),?_⟩
 refine ⟨_,rfl,by decide,by decide,λD hD=>?_⟩
 refine ⟨λi m H2=>m=3 - i/\i<=3/\aJ H H2/\H2 D=some (.lst ([V.int (Hu.nm p.u q.u s t),.int (Hu.nm p.v q.v s t),.int (Hu.nm p.w q.w s t)].take i)),⟨_,rfl,Nat.zero_le _,aq hD _,ae⟩,?_⟩
 rintro i m H2 ⟨rfl,hi,sm,hlD⟩
 have sx2:=sx.ts sm.ts
 have sy2:=sy.ts sm.ts
 by_cases hlt:i < 3
 ·refine .inr ⟨hlt,λv H3 y=>?_⟩
  obtain ⟨rfl,rfl⟩:=y
  refine gS ?_
  rcases (show i=0\/i=1\/i=2 by omega) with rfl | rfl | rfl
  ·refine ⟨_,rfl,_,rfl,_,rfl,_,rfl,_,_,_,_,rfl,rfl,sx2,rfl,_,_,rfl,rfl,(by rw [bK];exact dW bt pb.1),_,rfl,_,rfl,_,rfl,_,rfl,_,_,_,_,rfl,rfl,sy2,rfl,_,_,rfl,rfl,(by rw [bK];exact dW bs qb.1),_,_,rfl,rfl,?_⟩
   refine ⟨_,hlD,aN (by simp),3 - 1,by omega,rfl,by omega,aT sm hD _,?_⟩
   rw [ae,bK,bK]
   rfl
  ·refine ⟨_,rfl,_,rfl,_,rfl,_,rfl,_,_,_,_,rfl,rfl,sx2,rfl,_,_,rfl,rfl,(by rw [bK];exact dW bt pb.2.1),_,rfl,_,rfl,_,rfl,_,rfl,_,_,_,_,rfl,rfl,sy2,rfl,_,_,rfl,rfl,(by rw [bK];exact dW bs qb.2.1),_,_,rfl,rfl,?_⟩
   refine ⟨_,hlD,aN (by simp),3 - 2,by omega,rfl,by omega,aT sm hD _,?_⟩
   rw [ae,bK,bK]
   rfl
  ·refine ⟨_,rfl,_,rfl,_,rfl,_,rfl,_,_,_,_,rfl,rfl,sx2,rfl,_,_,rfl,rfl,(by rw [bK];exact dW bt pb.2.2),_,rfl,_,rfl,_,rfl,_,rfl,_,_,_,_,rfl,rfl,sy2,rfl,_,_,rfl,rfl,(by rw [bK];exact dW bs qb.2.2),_,_,rfl,rfl,?_⟩
   refine ⟨_,hlD,aN (by simp),3 - 3,by omega,rfl,by omega,aT sm hD _,?_⟩
   rw [ae,bK,bK]
   rfl
 have ei:i=3:=by omega
 subst ei
 refine .inl ⟨Nat.le_refl _,?_⟩
 have hl3:H2 D=some (.lst [.int (Hu.nm p.u q.u s t),.int (Hu.nm p.v q.v s t),.int (Hu.nm p.w q.w s t)]):=hlD
 have sD:SqL K H2 D [.int (Hu.nm p.u q.u s t),.int (Hu.nm p.v q.v s t),.int (Hu.nm p.w q.w s t)]:=SqL.of hl3
 refine ⟨_,rfl,_,_,_,_,rfl,rfl,sD,rfl,_,rfl,_,_,_,_,rfl,rfl,sD,rfl,_,_,rfl,u0,v0,_,rfl,_,_,_,_,rfl,rfl,sD,rfl,_,_,rfl,Lo.qO _ _,w0,?_⟩
 refine ⟨_,rfl,D,rfl,⟨_,sD⟩,λD2 hD2=>?_⟩
 refine uK (K:=K) (g:=Hu.gg (Hu.nm p.u q.u s t) (Hu.nm p.v q.v s t) (Hu.nm p.w q.w s t)) hl3 hD2 ?step ?fin
 case step =>
  intro n H' kk q
  exact ⟨_,rfl,_,rfl,_,_,rfl,rfl,divB g0 gb,q⟩
 intro H' sm2 e2
 refine ⟨D2,_,rfl,.inl ⟨SqL.of e2,λtt htt=>?_⟩⟩
 have u3:=aq htt (.tup [.int ((Hu.nm p.u q.u s t).fdiv (Hu.gg (Hu.nm p.u q.u s t) (Hu.nm p.v q.v s t) (Hu.nm p.w q.w s t))),.int ((Hu.nm p.v q.v s t).fdiv (Hu.gg (Hu.nm p.u q.u s t) (Hu.nm p.v q.v s t) (Hu.nm p.w q.w s t))),.int ((Hu.nm p.w q.w s t).fdiv (Hu.gg (Hu.nm p.u q.u s t) (Hu.nm p.v q.v s t) (Hu.nm p.w q.w s t)))])
 exact k _ _ (sm.trans (sm2.trans u3)) (bU (p:=Hu.mid p q s t) (SqT.of ae))
end
noncomputable def jr (s:Stmt):List Stmt:=match s with
 | .For _ _ b _ _=>b
 | _=>[]
noncomputable def yF (s:Stmt) (i:Nat):Stmt:=(aY s).getD i (.Pass ⟨0,0,0,0⟩)
noncomputable def CutR (K:PySem.W.Frag) (H H':Hp) (r:T3) (h:List T3) (v:V):Prop:=∃(t a b:Addr) (us1 us2:List V),v=.ref t/\a≠b/\H a=none/\H b=none/\SqT K H' t [.ref a,.ref b]/\H' a=some (.lst us1)/\H' b=some (.lst us2)/\DatAll K H' ((Hu.low r h).map t3D) us1/\DatAll K H' ((Hu.high r h).map t3D) us2
noncomputable def AJ (K:PySem.W.Frag) (CN:Addr):Sp:=λvs H Q E=>∃(l:Addr) (x:V) (us:List V) (h:List T3) (r:T3),vs=[.ref l,x]/\H l=some (.lst us)/\DatAll K H (h.map t3D) us/\Dat K H (t3D r) x/\Hu.sJ 600 256 h/\Hu.R3 1200 r/\
 (Hu.gH r h->∀ H',aJ H H'->E (.ref CN) none H')/\(¬Hu.gH r h->∀(v:V) (H':Hp),aJ H H'->CutR K H H' r h v->Q v H')
noncomputable def ri (K:PySem.W.Frag):Sp:=λvs H Q _=>∃(l:Addr) (x:V) (us:List V) (h:List T3) (r:T3),vs=[.ref l,x]/\H l=some (.lst us)/\DatAll K H (h.map t3D) us/\Dat K H (t3D r) x/\Hu.sJ 600 256 h/\Hu.R3 1200 r/\
 (Hu.gH r h->∀ H',aJ H H'->Q .non H')/\(¬Hu.gH r h->∀(v:V) (H':Hp),aJ H H'->CutR K H H' r h v->Q v H')
structure MI (K:PySem.W.Frag) (H H':Hp) (lo hi:Addr) (L1 L2:List T3):Prop where
 sm:aJ H H'
 ex:∃ us1 us2,H' lo=some (.lst us1)/\H' hi=some (.lst us2)/\DatAll K H' (L1.map t3D) us1/\DatAll K H' (L2.map t3D) us2
section
variable {K:PySem.W.Frag} {H H' H'':Hp} {lo hi:Addr} {L1 L2:List T3} {p:T3} {v:V} {us:List V}
theorem MI.new (m:MI K H H' lo hi L1 L2) (s:aJ H' H''):MI K H H'' lo hi L1 L2:=by
 obtain ⟨u1,u2,e1,e2,d1,d2⟩:=m.ex
 exact ⟨m.sm.trans s,u1,u2,s _ _ e1,s _ _ e2,d1.ts s.ts,d2.ts s.ts⟩
theorem MI.app1 (m:MI K H H' lo hi L1 L2) (h0:H lo=none) (ne:lo≠hi) (e:H' lo=some (.lst us)) (d:Dat K H' (t3D p) v):MI K H (upd H' lo (.lst (us++[v]))) lo hi (L1++[p]) L2:=by
 obtain ⟨u1,u2,e1,e2,d1,d2⟩:=m.ex
 rw [e] at e1
 cases e1
 have t:Tst H' (upd H' lo (.lst (us++[v]))):=cA e
 refine ⟨aT m.sm h0 _,_,u2,ae,by rw [au (Ne.symm ne)];exact e2,?_,d2.ts t⟩
 rw [List.map_append]
 exact (d1.ts t).snoc (d.ts t)
theorem MI.app2 (m:MI K H H' lo hi L1 L2) (h0:H hi=none) (ne:lo≠hi) (e:H' hi=some (.lst us)) (d:Dat K H' (t3D p) v):MI K H (upd H' hi (.lst (us++[v]))) lo hi L1 (L2++[p]):=by
 obtain ⟨u1,u2,e1,e2,d1,d2⟩:=m.ex
 rw [e] at e2
 cases e2
 have t:Tst H' (upd H' hi (.lst (us++[v]))):=cA e
 refine ⟨aT m.sm h0 _,u1,_,by rw [au ne];exact e1,ae,d1.ts t,?_⟩
 rw [List.map_append]
 exact (d2.ts t).snoc (d.ts t)
theorem MI.len (m:MI K H H' lo hi L1 L2) (l1:L1.length<=990) (l2:L2.length<=990):(∃ us,H' lo=some (.lst us)/\us.length<=1000)/\∃ us,H' hi=some (.lst us)/\us.length<=1000:=by
 obtain ⟨u1,u2,e1,e2,d1,d2⟩:=m.ex
 exact ⟨⟨u1,e1,by rw [fJ d1];omega⟩,u2,e2,by rw [fJ d2];omega⟩
end
theorem gp {r:T3} {h:List T3} {i:Nat} (hi:i < h.length):atI ((h.map (Hu.tl r)).map V.int) ((i:Nat):Int)=some (.int (Hu.tv r h i)):=by
 refine dD ?_
 rw [List.getElem?_map,List.getElem?_map,Hu.kY hi]
 rfl
section
variable {P:Program} {w:World} {K:PySem.W.Frag} {mg:Str->Option Value} {base:Heap}
theorem ok_cut {CN:Addr} (T:aE K mg "cut" iW) (sI:mg "NoCut"=some (.ref CN)) (X_NoCut:PySem.W.excIn K CN bmV "ValueError.__new__"=true) (ib:mg "min"=none) (gG:mg "max"=none) (bD:mg "enumerate"=none) (dN:mg "len"=none)
  (eT:Def P w K mg base 2 "told_in_corners" ["rule","hull"] (Ay K)) (mG:Def P w K mg base 2 "corner_between" ["one","other","at_one","at_other"] (spCB K)):lC P w K mg base 3 "cut" ["hull","rule"] (AJ K CN):=by
 refine nP T AO (λ_ _ _ _ _ _=>L2.ar2 λ_ _=>rfl) (λvs H Q E h=>?_) (λf cdv A outer s H vs Q E hr h=>?_)
 ·obtain ⟨l,x,us,h,r,rfl,_⟩:=h
  rfl
 obtain ⟨l,x,us,h,r,rfl,hl,da,dx,hu,hr3,kn,kc⟩:=h
 have nd:=AO.nd
 have lu:=fJ da
 have hpos:=hu.pos
 have hfew:=hu.few
 have br:Hu.R3 3000 r:=hr3.mono (by decide)
 have bp:∀ p∈h,Hu.R3 3000 p:=λp hp=>((hu.ok p hp).r).mono (by decide)
 have tb:∀ i,(Hu.tv r h i).natAbs < 2 ^ 2000:=λi=>Nat.lt_of_lt_of_le (Hu.Ap hr3 (hu.ok _ (Hu.cX hpos i)).r) (Nat.pow_le_pow_right (by decide) (by decide))
 have tB:∀ i,Bg (Hu.tv r h i):=λi=>bL (tb i) (by decide)
 have t3:∃ t,PSs (cM (CXr P w) P w K mg base uo "cut" (ak iW) f cdv A outer s H E) ((jr (yF iW 4)).drop 3) t/\
   ∀(
    N B:St->Hp->Prop) (H1 H':Hp) (d lo hi:Addr) (v:V) (i:Nat) (L1 L2:List T3) (o8:Option V),i < h.length->MI K H1 H' lo hi L1 L2->H1 l=some (.lst us)->H1 d=some (.lst ((h.map (Hu.tl r)).map V.int))->H1 lo=none->H1 hi=none->lo≠hi->DatAll K H1 (h.map t3D) us->Dat K H' (t3D (Hu.cor h i)) v->L1.length<=900->L2.length<=900->
    (∀(H'':Hp) (o8':Option V),MI K H1 H'' lo hi (L1++(if Hu.tv r h i*Hu.tv r h (i+1) < 0 then [Hu.mid (Hu.cor h i) (Hu.cor h (i+1)) (Hu.tv r h i) (Hu.tv r h (i+1))] else [])) (L2++(if Hu.tv r h i*Hu.tv r h (i+1) < 0 then [Hu.mid (Hu.cor h i) (Hu.cor h (i+1)) (Hu.tv r h i) (Hu.tv r h (i+1))] else []))->
     N [some (.ref l),some x,some (.ref d),some (.ref lo),some (.ref hi),some (.int i),some v,some (.int (((i+1) % h.length:Nat):Int)),o8'] H'')->
    t {nx:=N,ct:=N,bk:=B,rt:=Q} [some (.ref l),some x,some (.ref d),some (.ref lo),some (.ref hi),some (.int i),some v,some (.int (((i+1) % h.length:Nat):Int)),o8] H':=by
  refine ⟨_,(ao (aM (aC gy (aA bg (aw aU (pv 2) (pv 5) (λ_ _=>rfl)) (aw aU (pv 2) (pv 7) (λ_ _=>rfl))) af (aI _)) (ah (aF (i:=8) nd rfl (Or.inl rfl) (aD mG (hr.mono (by decide)) rfl (aa (pv 6) (aa (aw aU (pv 0) (pv 7) (λ_ _=>rfl)) (aa (aw aU (pv 2) (pv 5) (λ_ _=>rfl)) (aa (aw aU (pv 2) (pv 7) (λ_ _=>rfl)) ag))))))
  (ah (bj (dJ PySem.F.plainAttrs_list PySem.F.slot_list_append PySem.F.type_list_append bh (pv 3) (aa (pv 8) ag)))
  (ao (bj (dJ PySem.F.plainAttrs_list PySem.F.slot_list_append PySem.F.type_list_append bh (pv 4) (aa (pv 8) ag)))))) aH)),?_⟩
  intro N B H1 H' d lo hi v i L1 L2 o8 hi' mi hl1 hd1 hlo hhi ne da1 dv l1 l2 n
  have jl:(i+1) % h.length < h.length:=Nat.mod_lt _ hpos
  have sd:SqL K H' d ((h.map (Hu.tl r)).map V.int):=SqL.of (mi.sm _ _ hd1)
  have ai:=gp (r:=r) hi'
  have aj:=gp (r:=r) jl
  rw [Hu.Ai] at aj
  refine ⟨_,rfl,_,rfl,_,_,_,_,rfl,rfl,sd,ai,_,rfl,_,rfl,_,_,_,_,rfl,rfl,sd,aj,_,_,rfl,rfl,dW (tB _) (tB _),_,_,rfl,rfl,_,rfl,?_⟩
  refine bY (λc=>?_) (λc=>?_)
  ·have c':Hu.tv r h i*Hu.tv r h (i+1) < 0:=of_decide_eq_true c
   rw [if_pos c'] at n
   obtain ⟨y,hy,dy⟩:=iL (da1.ts mi.sm.ts) (Hu.kY jl)
   rw [Hu.yo] at dy
   have sl:SqL K H' l us:=SqL.of (mi.sm _ _ hl1)
   refine ⟨_,rfl,_,rfl,_,rfl,_,_,_,_,rfl,rfl,sl,dD hy,_,rfl,_,rfl,_,_,_,_,rfl,rfl,sd,ai,_,rfl,_,rfl,_,_,_,_,rfl,rfl,sd,aj,v,y,Hu.cor h i,Hu.cor h (i+1),_,_,rfl,dv,dy,hu.ok _ (Hu.cX hpos i),hu.ok _ (Hu.cX hpos (i+1)),c',tb _,tb _,λm H2 s2 dm=>?_⟩
   have m2:=mi.new s2
   obtain ⟨⟨u1,e1,k1⟩,u2,e2,k2⟩:=m2.len (by omega) (by omega)
   refine ⟨_,rfl,.inl ⟨rfl,_,SqL.of e1⟩,_,rfl,lo,u1,_,rfl,rfl,e1,aN k1,?_⟩
   have m3:=m2.app1 hlo ne e1 dm
   have e2':(upd H2 lo (.lst (u1++[m]))) hi=some (.lst u2):=by rw [au (Ne.symm ne)];exact e2
   refine ⟨_,rfl,.inl ⟨rfl,_,SqL.of e2'⟩,_,rfl,hi,u2,_,rfl,rfl,e2',aN k2,?_⟩
   exact n _ _ (m3.app2 hhi ne e2' (dm.ts (cA e1)))
  ·have c':¬Hu.tv r h i*Hu.tv r h (i+1) < 0:=λz=>c (decide_eq_true z)
   rw [if_neg c',List.append_nil,List.append_nil] at n
   exact n _ _ mi
 obtain ⟨t3,ht3,hq3⟩:=t3
 have t2:∃ t,PSs (cM (CXr P w) P w K mg base uo "cut" (ak iW) f cdv A outer s H E) ((jr (yF iW 4)).drop 2) t/\
   ∀(
    N B:St->Hp->Prop) (H1 H':Hp) (d lo hi:Addr) (v:V) (i:Nat) (L1 L2:List T3) (o8:Option V),i < h.length->MI K H1 H' lo hi L1 L2->H1 l=some (.lst us)->H1 d=some (.lst ((h.map (Hu.tl r)).map V.int))->H1 lo=none->H1 hi=none->lo≠hi->DatAll K H1 (h.map t3D) us->Dat K H' (t3D (Hu.cor h i)) v->L1.length<=800->L2.length<=800->
    (∀(H'':Hp) (o8':Option V),MI K H1 H'' lo hi (L1++(if Hu.tv r h i*Hu.tv r h (i+1) < 0 then [Hu.mid (Hu.cor h i) (Hu.cor h (i+1)) (Hu.tv r h i) (Hu.tv r h (i+1))] else [])) (L2++Hu.stp h (Hu.tn r h) i)->
     N [some (.ref l),some x,some (.ref d),some (.ref lo),some (.ref hi),some (.int i),some v,some (.int (((i+1) % h.length:Nat):Int)),o8'] H'')->
    t {nx:=N,ct:=N,bk:=B,rt:=Q} [some (.ref l),some x,some (.ref d),some (.ref lo),some (.ref hi),some (.int i),some v,some (.int (((i+1) % h.length:Nat):Int)),o8] H':=by
  refine ⟨_,ah (aM (aC qB (aw aU (pv 2) (pv 5) (λ_ _=>rfl)) af (aI _)) (ao (bj (dJ PySem.F.plainAttrs_list PySem.F.slot_list_append PySem.F.type_list_append bh (pv 4) (aa (pv 6) ag)))) aH) ht3,?_⟩
  intro N B H1 H' d lo hi v i L1 L2 o8 hi' mi hl1 hd1 hlo hhi ne da1 dv l1 l2 n
  have sd:SqL K H' d ((h.map (Hu.tl r)).map V.int):=SqL.of (mi.sm _ _ hd1)
  have ai:=gp (r:=r) hi'
  rw [Hu.sU] at n
  refine ⟨_,rfl,_,rfl,_,_,_,_,rfl,rfl,sd,ai,_,_,rfl,rfl,_,rfl,?_⟩
  refine bY (λc=>?_) (λc=>?_)
  ·have c':0<=Hu.tv r h i:=of_decide_eq_true c
   rw [if_pos c'] at n
   obtain ⟨_,u2,e2,k2⟩:=mi.len (by omega) (by omega)
   refine ⟨_,rfl,.inl ⟨rfl,_,SqL.of e2⟩,_,rfl,hi,u2,_,rfl,rfl,e2,aN k2,?_⟩
   refine hq3 N B H1 _ d lo hi v i L1 (L2++[Hu.cor h i]) o8 hi' (mi.app2 hhi ne e2 dv) hl1 hd1 hlo hhi ne da1 (dv.ts (cA e2)) (by omega) (by simp;omega) λH'' o' m=>n H'' o' ?_
   rw [List.append_assoc] at m
   exact m
  ·have c':¬0<=Hu.tv r h i:=λz=>c (decide_eq_true z)
   rw [if_neg c',List.nil_append] at n
   exact hq3 N B H1 _ d lo hi v i L1 L2 o8 hi' mi hl1 hd1 hlo hhi ne da1 dv (by omega) (by omega) n
 obtain ⟨t2,ht2,hq2⟩:=t2
 have t1:∃ t,PSs (cM (CXr P w) P w K mg base uo "cut" (ak iW) f cdv A outer s H E) (jr (yF iW 4)) t/\
   ∀(
    N B:St->Hp->Prop) (H1 H':Hp) (d lo hi:Addr) (v:V) (i:Nat) (L1 L2:List T3) (o7 o8:Option V),i < h.length->MI K H1 H' lo hi L1 L2->H1 l=some (.lst us)->H1 d=some (.lst ((h.map (Hu.tl r)).map V.int))->H1 lo=none->H1 hi=none->lo≠hi->DatAll K H1 (h.map t3D) us->Dat K H' (t3D (Hu.cor h i)) v->L1.length<=700->L2.length<=700->
    (∀(H'':Hp) (o7' o8':Option V),MI K H1 H'' lo hi (L1++Hu.stp h (Hu.tv r h) i) (L2++Hu.stp h (Hu.tn r h) i)->
     N [some (.ref l),some x,some (.ref d),some (.ref lo),some (.ref hi),some (.int i),some v,o7',o8'] H'')->
    t {nx:=N,ct:=N,bk:=B,rt:=Q} [some (.ref l),some x,some (.ref d),some (.ref lo),some (.ref hi),some (.int i),some v,o7,o8] H':=by
  refine ⟨_,ah (aF (i:=7) nd rfl (Or.inl rfl) (aA kM (aA bR (pv 5) af) (aR fG rfl dN (by decide +kernel) (aa (pv 0) ag)))) (ah (aM (aC qA (aw aU (pv 2) (pv 5) (λ_ _=>rfl)) af (aI _)) (ao (bj (dJ PySem.F.plainAttrs_list PySem.F.slot_list_append PySem.F.type_list_append bh (pv 3) (aa (pv 6) ag)))) aH) ht2),?_⟩
  intro N B H1 H' d lo hi v i L1 L2 o7 o8 hi' mi hl1 hd1 hlo hhi ne da1 dv l1 l2 n
  have sl:SqL K H' l us:=SqL.of (mi.sm _ _ hl1)
  have sd:SqL K H' d ((h.map (Hu.tl r)).map V.int):=SqL.of (mi.sm _ _ hd1)
  have ai:=gp (r:=r) hi'
  refine ⟨_,rfl,_,_,rfl,rfl,_,rfl,_,_,rfl,.inl ⟨_,sl,rfl⟩,_,_,rfl,rfl,(by rw [lu];omega),?_⟩
  rw [lu]
  dsimp only
  rw [Hu.uG]
  refine ⟨_,rfl,_,rfl,_,_,_,_,rfl,rfl,sd,ai,_,_,rfl,rfl,_,rfl,?_⟩
  refine bY (λc=>?_) (λc=>?_)
  ·have c':Hu.tv r h i<=0:=of_decide_eq_true c
   obtain ⟨⟨u1,e1,k1⟩,_⟩:=mi.len (by omega) (by omega)
   refine ⟨_,rfl,.inl ⟨rfl,_,SqL.of e1⟩,_,rfl,lo,u1,_,rfl,rfl,e1,aN k1,?_⟩
   refine hq2 N B H1 _ d lo hi v i (L1++[Hu.cor h i]) L2 o8 hi' (mi.app1 hlo ne e1 dv) hl1 hd1 hlo hhi ne da1 (dv.ts (cA e1)) (by simp;omega) (by omega) λH'' o' m=>n H'' _ o' ?_
   rw [List.append_assoc] at m
   rw [show Hu.stp h (Hu.tv r h) i=[Hu.cor h i]++(if Hu.tv r h i*Hu.tv r h (i+1) < 0 then [Hu.mid (Hu.cor h i) (Hu.cor h (i+1)) (Hu.tv r h i) (Hu.tv r h (i+1))] else []) by unfold Hu.stp;rw [if_pos c']]
   exact m
  ·have c':¬Hu.tv r h i<=0:=λz=>c (decide_eq_true z)
   refine hq2 N B H1 _ d lo hi v i L1 L2 o8 hi' mi hl1 hd1 hlo hhi ne da1 dv (by omega) (by omega) λH'' o' m=>n H'' _ o' ?_
   rw [show Hu.stp h (Hu.tv r h) i=(if Hu.tv r h i*Hu.tv r h (i+1) < 0 then [Hu.mid (Hu.cor h i) (Hu.cor h (i+1)) (Hu.tv r h i) (Hu.tv r h (i+1))] else []) by unfold Hu.stp;rw [if_neg c',List.nil_append]]
   exact m
 obtain ⟨t1,ht1,hq1⟩:=t1
 have t4:∃ t,PSs (cM (CXr P w) P w K mg base uo "cut" (ak iW) f cdv A outer s H E) ((aY iW).drop 2) t/\
   ∀(H1:Hp) (d:Addr),¬Hu.gH r h->aJ H H1->H1 d=some (.lst ((h.map (Hu.tl r)).map V.int))->t {nx:=λ_ H'=>Q .non H',rt:=Q} [some (.ref l),some x,some (.ref d),none,none,none,none,none,none] H1:=by
  refine ⟨_,ah (aF (i:=3) nd rfl (Or.inl rfl) (bo ag)) (ah (aF (i:=4) nd rfl (Or.inl rfl) (bo ag)) (ah (fN PassesOwn.leaving rfl (nK rfl bD (pv 0)) (lV rfl (bx (aW (i:=5) nd rfl (Or.inl rfl)) (bx (aW (i:=6) nd rfl (Or.inl rfl)) ft))) ht1) (ao (av (aL (aa (pv 3) (aa (pv 4) ag))))))),?_⟩
  intro H1 d nc sm hd
  have hl1:=sm _ _ hl
  have da1:=da.ts sm.ts
  refine ⟨(by show 0<=sizeLine;decide),λlo hlo=>⟨(by show 0<=sizeLine;decide),λhi hhi=>?_⟩⟩
  have u1:=aq hlo (.lst [])
  have u2:=aq hhi (.lst [])
  have ne:lo≠hi:=λz=>by subst z;rw [ae] at hhi;cases hhi
  have hhi1:H1 hi=none:=by rw [au (Ne.symm ne)] at hhi;exact hhi
  refine ⟨_,rfl,l,rfl,⟨us,SqL.of ((u1.trans u2) _ _ hl1)⟩,?_⟩
  refine kW (xs:=us) (λi σ H'=>i<=us.length/\MI K H1 H' lo hi (Hu.fl (Hu.stp h (Hu.tv r h)) i) (Hu.fl (Hu.stp h (Hu.tn r h)) i)/\∃ o5 o6 o7 o8,σ=[some (.ref l),some x,some (.ref d),some (.ref lo),some (.ref hi),o5,o6,o7,o8])
   ⟨Nat.zero_le _,⟨u1.trans u2,[],[],u2 _ _ ae,ae,rfl,rfl⟩,_,_,_,_,rfl⟩ (λi σ H' _ z=>SqL.of (z.2.1.sm _ _ hl1)) (λi v T' σ H' hv z hT=>?_) (fun σ H' z=>?_)
  ·obtain ⟨_,mi,o5,o6,o7,o8,rfl⟩:=z
   have hi':i < us.length:=(List.getElem?_eq_some_iff.mp hv).1
   have uT:=aq hT (.tup [.int i,v])
   obtain ⟨p,hp,dp⟩:=lG (da1.ts mi.sm.ts) hv
   have ep:p=Hu.cor h i:=by rw [Hu.kY (by omega)] at hp;exact (Option.some.inj hp).symm
   subst ep
   have f1:=Hu.pe (Hu.kg hu (Hu.tv r h)).len i
   have f2:=Hu.pe (Hu.kg hu (Hu.tn r h)).len i
   refine ⟨T',_,rfl,SqT.of ae,rfl,_,_,rfl,_,_,rfl,rfl,?_⟩
   refine hq1 _ _ H1 _ d lo hi v i _ _ o7 o8 (by omega) (mi.new uT) hl1 hd hlo hhi1 ne da1 (dp.ts uT.ts) (by omega) (by omega) λH'' o7' o8' m=>⟨hi',?_,_,_,_,_,rfl⟩
   rw [Hu.aV,Hu.aV]
   exact m
  ·obtain ⟨_,mi,o5,o6,o7,o8,rfl⟩:=z
   rw [lu] at mi
   refine ⟨_,rfl,_,rfl,(by show 2<=sizeLine;decide),λtt htt=>?_⟩
   have u3:=aq htt (.tup [.ref lo,.ref hi])
   obtain ⟨w1,w2,e1,e2,d1,d2⟩:=(mi.new u3).ex
   refine kc nc _ _ (sm.trans (mi.sm.trans u3)) ⟨tt,lo,hi,w1,w2,rfl,ne,?_,?_,SqT.of ae,e1,e2,d1,d2⟩
   ·exact sm.free hlo
   ·exact sm.free hhi1
 obtain ⟨t4,ht4,hq4⟩:=t4
 refine ⟨_,ah (aF (i:=2) nd rfl (Or.inl rfl) (aD eT (hr.mono (by decide)) rfl (aa (pv 1) (aa (pv 0) ag)))) (ah (aM (PW.pt (qw (aC qB (aR (ju rfl) rfl ib (by decide +kernel) (aa (pv 2) ag)) af (aI _)) (oN (aC qA (aR (ia rfl) rfl gG (by decide +kernel) (aa (pv 2) ag)) af (aI _))))) (ao (tS rfl sI X_NoCut (aa aK ag))) aH) ht4),?_⟩
 refine ⟨_,rfl,_,rfl,x,l,us,r,h,rfl,dx,SqL.of hl,da,br,bp,by omega,λH' s'=>SqL.of (s' _ _ hl),λd H1 s1 hd0 hd=>?_⟩
 have hne:0 < (h.map (Hu.tl r)).length:=by rw [List.length_map];exact hpos
 refine ⟨_,rfl,d,_,rfl,SqL.of hd,hne,λM hM hmin=>?_⟩
 refine ⟨_,_,rfl,rfl,_,rfl,?_⟩
 refine bY (λc=>?_) (λc=>?_)
 ·have c':0<=M:=of_decide_eq_true c
  exact ⟨(by show 1<=sizeLine;decide),kn (.inl λp hp=>Int.le_trans c' (hmin _ (List.mem_map.mpr ⟨p,hp,rfl⟩))) _ s1⟩
 have c1:¬0<=M:=λz=>c (decide_eq_true z)
 refine ⟨_,rfl,d,_,rfl,SqL.of hd,hne,λM2 hM2 hmax=>?_⟩
 refine ⟨_,_,rfl,rfl,_,rfl,?_⟩
 refine bY (λc=>?_) (λc=>?_)
 ·have c':M2<=0:=of_decide_eq_true c
  exact ⟨(by show 1<=sizeLine;decide),kn (.inr λp hp=>Int.le_trans (hmax _ (List.mem_map.mpr ⟨p,hp,rfl⟩)) c') _ s1⟩
 have c2:¬M2<=0:=λz=>c (decide_eq_true z)
 obtain ⟨p1,hp1,ep1⟩:=List.mem_map.mp hM
 obtain ⟨p2,hp2,ep2⟩:=List.mem_map.mp hM2
 refine hq4 H1 d (λnc=>?_) s1 hd
 rcases nc with z | z
 ·have:=z p1 hp1;omega
 ·have:=z p2 hp2;omega
end
noncomputable def lw (k:Nat):Str:=if k=0 then "never" else if k=1 then "always" else if k=2 then "p" else "q"
noncomputable def fw (k:Nat):Str:=if k=0 then "more" else if k=1 then "less" else if k=2 then "greater" else if k=3 then "lesser" else "leads"
noncomputable def rwV:Hu.Row->List PyData
 | .lf k=>[.str (lw k)]
 | .nt i=>[.str "not",.int i]
 | .fd k i j=>[.str (fw k),.int i,.int j]
noncomputable def rwX:Hu.Row->List V
 | .lf k=>[.str (lw k)]
 | .nt i=>[.str "not",.int i]
 | .fd k i j=>[.str (fw k),.int i,.int j]
noncomputable def kH (r:Hu.Row):PyData:=.tuple (rwV r)
noncomputable def jc (rows:List Hu.Row):Prop:=∀(k:Nat) (r:Hu.Row),rows[k]?=some r->r.Ok k
section
variable {K:PySem.W.Frag} {H H':Hp} {v:V} {r:Hu.Row}
theorem Bc (g:Dat K H (kH r) v):∃ a,v=.ref a/\SqT K H a (rwX r):=by
 cases r with
 | lf k =>
  obtain ⟨a,xs,rfl,g,x,t,rfl,hx,ht⟩:=g
  cases (show x=V.str (lw k) from hx)
  cases (show t=[] from ht)
  exact ⟨a,rfl,g⟩
 | nt i =>
  obtain ⟨a,xs,rfl,g,x,t,rfl,hx,y,u,rfl,hy,ht⟩:=g
  cases (show x=V.str "not" from hx)
  cases (show y=V.int i from hy)
  cases (show u=[] from ht)
  exact ⟨a,rfl,g⟩
 | fd k i j =>
  obtain ⟨a,xs,rfl,g,x,t,rfl,hx,y,u,rfl,hy,z,w,rfl,hz,ht⟩:=g
  cases (show x=V.str (fw k) from hx)
  cases (show y=V.int i from hy)
  cases (show z=V.int j from hz)
  cases (show w=[] from ht)
  exact ⟨a,rfl,g⟩
theorem row_mk {a:Addr} (g:SqT K H a (rwX r)):Dat K H (kH r) (.ref a):=by
 cases r with
 | lf k=>exact ⟨a,_,rfl,g,_,_,rfl,rfl,rfl⟩
 | nt i=>exact ⟨a,_,rfl,g,_,_,rfl,rfl,_,_,rfl,rfl,rfl⟩
 | fd k i j=>exact ⟨a,_,rfl,g,_,_,rfl,rfl,_,_,rfl,rfl,_,_,rfl,rfl,rfl⟩
theorem xI {xs:List V} {rows:List Hu.Row} (g:DatAll K H (rows.map kH) xs) {i:Nat} {x:V} (e:xs[i]?=some x):∃ r,rows[i]?=some r/\Dat K H (kH r) x:=by
 obtain ⟨d,e1,e2⟩:=g.get' e
 rw [List.getElem?_map] at e1
 cases z:rows[i]? with
 | none=>rw [z] at e1;cases e1
 | some s=>rw [z] at e1;cases e1;exact ⟨s,rfl,e2⟩
theorem xH {xs:List V} {rows:List Hu.Row} (g:DatAll K H (rows.map kH) xs):xs.length=rows.length:=by rw [g.len,List.length_map]
end
noncomputable def sp2 (K:PySem.W.Frag) (f:T3->T3->T3):Sp:=λvs H Q _=>∃(x y:V) (p q:T3),vs=[x,y]/\Dat K H (t3D p) x/\Dat K H (t3D q) y/\∀(t:Addr) (H':Hp),aJ H H'->Dat K H' (t3D (f p q)) (.ref t)->Q (.ref t) H'
noncomputable def Ch (K:PySem.W.Frag) (H:Hp) (c:T3×T3×T3) (v:V):Prop:=∃(t:Addr) (x y z:V),v=.ref t/\SqT K H t [x,y,z]/\Dat K H (t3D c.1) x/\Dat K H (t3D c.2.1) y/\Dat K H (t3D c.2.2) z
noncomputable def AE (K:PySem.W.Frag):Sp:=λvs H Q _=>∃ k:Nat,vs=[.str (lw k)]/\k < 4/\∀ v,Dat K H (t3D (Hu.lft k)) v->Q v H
noncomputable def AG (K:PySem.W.Frag):Sp:=λvs H Q _=>∃(k:Nat) (x y:V) (a b:T3),vs=[.str (fw k),x,y]/\k < 5/\Dat K H (t3D a) x/\Dat K H (t3D b) y/\∀(v:V) (H':Hp),aJ H H'->Ch K H' (Hu.fch k a b) v->Q v H'
section
variable {P:Program} {w:World} {K:PySem.W.Frag} {mg:Str->Option Value} {base:Heap}
theorem ok_both (T:aE K mg "both" oK) (iD:mg "zip"=none) (bI:mg "tuple"=none):Def P w K mg base 1 "both" ["one","other"] (sp2 K Hu.pl):=by
 refine aO T xE (λ_ _ _ _ _ _=>L2.ar2 λ_ _=>rfl) (λvs H Q E h=>?_) (λf cdv A outer s H vs Q E hr h=>?_)
 ·obtain ⟨x,y,p,q,rfl,_⟩:=h
  rfl
 obtain ⟨x,y,p,q,rfl,dx,dy,k⟩:=h
 obtain ⟨ax,rfl,sx⟩:=eA dx
 obtain ⟨ay,rfl,sy⟩:=eA dy
 have nd:=xE.nd
 refine ⟨_,(ao (av (cC bV rfl bI (by decide +kernel) (aa (jm (xs:=["first","second"]) rfl (rK rfl iD (pv 0) (pv 1)) rfl (by decide +kernel) (by decide +kernel) (show ∀ p∈Scope.names _,p.2=NameKind.free->List.lookup p.1 (ak oK).names=some .cell\/List.lookup p.1 (ak oK).names=some .free by decide +kernel) cP (show (["first","second"]:List Str).Nodup by decide +kernel) (λ_ _ _ _=>kK (K:=K) (n:=2) rfl rfl (bx (aW (i:=0) (show (["first","second"]:List Str).Nodup by decide +kernel) rfl (Or.inl rfl) (.inr rfl)) (bx (aW (i:=1) (show (["first","second"]:List Str).Nodup by decide +kernel) rfl (Or.inl rfl) (.inr rfl)) ft))) (λ_ _ _ _=>(aA bR (pv 0) (pv 1)))) ag)))),?_⟩
 refine ⟨_,rfl,_,rfl,ax,ay,_,_,rfl,rfl,sx,sy,λD hD=>?_⟩
 refine ⟨λi m H2=>m=3 - i/\i<=3/\aJ H H2/\H2 D=some (.lst ([V.int (p.u+q.u),.int (p.v+q.v),.int (p.w+q.w)].take i)),⟨_,rfl,Nat.zero_le _,aq hD _,ae⟩,?_⟩
 rintro i m H2 ⟨rfl,hi,sm,hlD⟩
 have sx2:=sx.ts sm.ts
 have sy2:=sy.ts sm.ts
 by_cases hlt:i < 3
 ·refine .inr ⟨⟨_,_,sx2,sy2,hlt,Nat.le_refl _⟩,λo ho v H3 y=>?_⟩
  obtain ⟨T',vs,nT,rfl,rfl,x,y,rfl,hx,hy⟩:=y
  have zx:=hx _ sx2
  have zy:=hy _ sy2
  obtain ⟨o1,o2,rfl⟩:=len2 ho
  have uT:=aq nT (.tup [x,y])
  refine ⟨T',_,rfl,SqT.of ae,rfl,_,_,rfl,_,_,rfl,rfl,[some x,some y],rfl,rfl,?_⟩
  have hlD2:=uT _ _ hlD
  rcases (show i=0\/i=1\/i=2 by omega) with rfl | rfl | rfl
  ·cases zx
   cases zy
   exact ⟨_,rfl,_,rfl,_,_,rfl,rfl,_,hlD2,aN (by simp),3 - 1,by omega,rfl,by omega,aT (sm.trans uT) hD _,ae⟩
  ·cases zx
   cases zy
   exact ⟨_,rfl,_,rfl,_,_,rfl,rfl,_,hlD2,aN (by simp),3 - 2,by omega,rfl,by omega,aT (sm.trans uT) hD _,ae⟩
  ·cases zx
   cases zy
   exact ⟨_,rfl,_,rfl,_,_,rfl,rfl,_,hlD2,aN (by simp),3 - 3,by omega,rfl,by omega,aT (sm.trans uT) hD _,ae⟩
 have ei:i=3:=by omega
 subst ei
 refine .inl ⟨⟨_,_,sx2,sy2,Nat.le_refl _,Nat.le_refl _⟩,?_⟩
 refine ⟨D,_,rfl,.inl ⟨SqL.of hlD,λtt htt=>?_⟩⟩
 exact k tt _ (sm.trans (aq htt _)) (bU (p:=Hu.pl p q) (SqT.of ae))
theorem vQ (T:aE K mg "without" hI) (iD:mg "zip"=none) (bI:mg "tuple"=none):Def P w K mg base 1 "without" ["one","other"] (sp2 K Hu.mi):=by
 refine aO T nZ (λ_ _ _ _ _ _=>L2.ar2 λ_ _=>rfl) (λvs H Q E h=>?_) (λf cdv A outer s H vs Q E hr h=>?_)
 ·obtain ⟨x,y,p,q,rfl,_⟩:=h
  rfl
 obtain ⟨x,y,p,q,rfl,dx,dy,k⟩:=h
 obtain ⟨ax,rfl,sx⟩:=eA dx
 obtain ⟨ay,rfl,sy⟩:=eA dy
 have nd:=nZ.nd
 refine ⟨_,(ao (av (cC bV rfl bI (by decide +kernel) (aa (jm (xs:=["first","second"]) rfl (rK rfl iD (pv 0) (pv 1)) rfl (by decide +kernel) (by decide +kernel) (show ∀ p∈Scope.names _,p.2=NameKind.free->List.lookup p.1 (ak hI).names=some .cell\/List.lookup p.1 (ak hI).names=some .free by decide +kernel) cP (show (["first","second"]:List Str).Nodup by decide +kernel) (λ_ _ _ _=>kK (K:=K) (n:=2) rfl rfl (bx (aW (i:=0) (show (["first","second"]:List Str).Nodup by decide +kernel) rfl (Or.inl rfl) (.inr rfl)) (bx (aW (i:=1) (show (["first","second"]:List Str).Nodup by decide +kernel) rfl (Or.inl rfl) (.inr rfl)) ft))) (λ_ _ _ _=>(aA eM (pv 0) (pv 1)))) ag)))),?_⟩
 refine ⟨_,rfl,_,rfl,ax,ay,_,_,rfl,rfl,sx,sy,λD hD=>?_⟩
 refine ⟨λi m H2=>m=3 - i/\i<=3/\aJ H H2/\H2 D=some (.lst ([V.int (p.u - q.u),.int (p.v - q.v),.int (p.w - q.w)].take i)),⟨_,rfl,Nat.zero_le _,aq hD _,ae⟩,?_⟩
 rintro i m H2 ⟨rfl,hi,sm,hlD⟩
 have sx2:=sx.ts sm.ts
 have sy2:=sy.ts sm.ts
 by_cases hlt:i < 3
 ·refine .inr ⟨⟨_,_,sx2,sy2,hlt,Nat.le_refl _⟩,λo ho v H3 y=>?_⟩
  obtain ⟨T',vs,nT,rfl,rfl,x,y,rfl,hx,hy⟩:=y
  have zx:=hx _ sx2
  have zy:=hy _ sy2
  obtain ⟨o1,o2,rfl⟩:=len2 ho
  have uT:=aq nT (.tup [x,y])
  refine ⟨T',_,rfl,SqT.of ae,rfl,_,_,rfl,_,_,rfl,rfl,[some x,some y],rfl,rfl,?_⟩
  have hlD2:=uT _ _ hlD
  rcases (show i=0\/i=1\/i=2 by omega) with rfl | rfl | rfl
  ·cases zx
   cases zy
   exact ⟨_,rfl,_,rfl,_,_,rfl,rfl,_,hlD2,aN (by simp),3 - 1,by omega,rfl,by omega,aT (sm.trans uT) hD _,ae⟩
  ·cases zx
   cases zy
   exact ⟨_,rfl,_,rfl,_,_,rfl,rfl,_,hlD2,aN (by simp),3 - 2,by omega,rfl,by omega,aT (sm.trans uT) hD _,ae⟩
  ·cases zx
   cases zy
   exact ⟨_,rfl,_,rfl,_,_,rfl,rfl,_,hlD2,aN (by simp),3 - 3,by omega,rfl,by omega,aT (sm.trans uT) hD _,ae⟩
 have ei:i=3:=by omega
 subst ei
 refine .inl ⟨⟨_,_,sx2,sy2,Nat.le_refl _,Nat.le_refl _⟩,?_⟩
 refine ⟨D,_,rfl,.inl ⟨SqL.of hlD,λtt htt=>?_⟩⟩
 exact k tt _ (sm.trans (aq htt _)) (bU (p:=Hu.mi p q) (SqT.of ae))
theorem ok_leaf (T:aE K mg "leaf_rule" iR) (fS:fg K mg "NEVER" [0,0,0]) (eQ:fg K mg "ALWAYS" [0,0,1]) (jZ:fg K mg "LETTER_P" [1,0,0]) (jY:fg K mg "LETTER_Q" [0,1,0]):Def P w K mg base 1 "leaf_rule" ["word"] (AE K):=by
 refine aO T ku (λ_ _ _ _ _ _=>L2.ar1 λ_=>rfl) (λvs H Q E h=>?_) (λf cdv A outer s H vs Q E hr h=>?_)
 ·obtain ⟨k,rfl,_⟩:=h
  rfl
 obtain ⟨k,rfl,hk,q⟩:=h
 obtain ⟨aNE,lA,sNE⟩:=fS.ex
 obtain ⟨aAL,dQ,sAL⟩:=eQ.ex
 obtain ⟨aLP,wN,sLP⟩:=jZ.ex
 obtain ⟨aLQ,wM,sLQ⟩:=jY.ex
 have nd:=ku.nd
 refine ⟨_,(ah (aM (aC aZ (pv 0) aK (aI _)) (ao (av (cG (v:=V.ref aNE) rfl lA rfl))) aH)
  (ah (aM (aC aZ (pv 0) aK (aI _)) (ao (av (cG (v:=V.ref aAL) rfl dQ rfl))) aH)
  (ao (av (tU (aC aZ (pv 0) aK (aI _)) (cG (v:=V.ref aLP) rfl wN rfl) (cG (v:=V.ref aLQ) rfl wM rfl)))))),?_⟩
 rcases (by omega:k=0\/k=1\/k=2\/k=3) with rfl | rfl | rfl | rfl
 ·refine ⟨_,rfl,rfl,_,rfl,?_⟩
  rw [show decide (V.str (lw 0)=V.str "never")=true by decide +kernel]
  exact dk (q _ (bU (p:=⟨0,0,0⟩) (sNE H)))
 ·refine ⟨_,rfl,rfl,_,rfl,?_⟩
  rw [show decide (V.str (lw 1)=V.str "never")=false by decide +kernel]
  refine bM ?_
  refine ⟨_,rfl,rfl,_,rfl,?_⟩
  rw [show decide (V.str (lw 1)=V.str "always")=true by decide +kernel]
  exact dk (q _ (bU (p:=⟨0,0,1⟩) (sAL H)))
 ·refine ⟨_,rfl,rfl,_,rfl,?_⟩
  rw [show decide (V.str (lw 2)=V.str "never")=false by decide +kernel]
  refine bM ?_
  refine ⟨_,rfl,rfl,_,rfl,?_⟩
  rw [show decide (V.str (lw 2)=V.str "always")=false by decide +kernel]
  refine bM ?_
  refine ⟨_,rfl,rfl,_,rfl,?_⟩
  rw [show decide (V.str (lw 2)=V.str "p")=true by decide +kernel]
  exact dk (q _ (bU (p:=⟨1,0,0⟩) (sLP H)))
 ·refine ⟨_,rfl,rfl,_,rfl,?_⟩
  rw [show decide (V.str (lw 3)=V.str "never")=false by decide +kernel]
  refine bM ?_
  refine ⟨_,rfl,rfl,_,rfl,?_⟩
  rw [show decide (V.str (lw 3)=V.str "always")=false by decide +kernel]
  refine bM ?_
  refine ⟨_,rfl,rfl,_,rfl,?_⟩
  rw [show decide (V.str (lw 3)=V.str "p")=false by decide +kernel]
  exact bM (q _ (bU (p:=⟨0,1,0⟩) (sLQ H)))
theorem ok_fold (T:aE K mg "fold_choice" gP) (fS:fg K mg "NEVER" [0,0,0]) (eQ:fg K mg "ALWAYS" [0,0,1]) (pL:Def P w K mg base 1 "both" ["one","other"] (sp2 K Hu.pl)) (dF:Def P w K mg base 1 "without" ["one","other"] (sp2 K Hu.mi)):Def P w K mg base 2 "fold_choice" ["word","one","other"] (AG K):=by
 refine aO T iQ (λ_ _ _ _ _ _=>L2.ar3 λ_ _ _=>rfl) (λvs H Q E h=>?_) (λf cdv A outer s H vs Q E hr h=>?_)
 ·obtain ⟨k,x,y,a,b,rfl,_⟩:=h
  rfl
 obtain ⟨k,x,y,a,b,rfl,hk,dx,dy,q⟩:=h
 obtain ⟨aNE,lA,sNE⟩:=fS.ex
 obtain ⟨aAL,dQ,sAL⟩:=eQ.ex
 have dAL:∀ H,Dat K H (t3D Hu.al) (.ref aAL):=λH=>bU (p:=Hu.al) (sAL H)
 have dNE:∀ H,Dat K H (t3D Hu.z0) (.ref aNE):=λH=>bU (p:=Hu.z0) (sNE H)
 have nd:=iQ.nd
 refine ⟨_,(ah (aM (aC aZ (pv 0) aK (aI _)) (ao (av (aL (aa (aD dF (hr.mono (by decide)) rfl (aa (aD pL (hr.mono (by decide)) rfl (aa (pv 1) (aa (pv 2) ag))) (aa (cG (v:=V.ref aAL) rfl dQ rfl) ag))) (aa (aD pL (hr.mono (by decide)) rfl (aa (pv 1) (aa (pv 2) ag))) (aa (cG (v:=V.ref aAL) rfl dQ rfl) ag)))))) aH)
  (ah (aM (aC aZ (pv 0) aK (aI _)) (ao (av (aL (aa (aD dF (hr.mono (by decide)) rfl (aa (aD pL (hr.mono (by decide)) rfl (aa (pv 1) (aa (pv 2) ag))) (aa (cG (v:=V.ref aAL) rfl dQ rfl) ag))) (aa (cG (v:=V.ref aNE) rfl lA rfl) (aa (aD dF (hr.mono (by decide)) rfl (aa (aD pL (hr.mono (by decide)) rfl (aa (pv 1) (aa (pv 2) ag))) (aa (cG (v:=V.ref aAL) rfl dQ rfl) ag))) ag)))))) aH)
  (ah (aM (aC aZ (pv 0) aK (aI _)) (ao (av (aL (aa (aD dF (hr.mono (by decide)) rfl (aa (pv 1) (aa (pv 2) ag))) (aa (pv 2) (aa (pv 1) ag)))))) aH)
  (ah (aM (aC aZ (pv 0) aK (aI _)) (ao (av (aL (aa (aD dF (hr.mono (by decide)) rfl (aa (pv 1) (aa (pv 2) ag))) (aa (pv 1) (aa (pv 2) ag)))))) aH)
  (ao (av (aL (aa (aD dF (hr.mono (by decide)) rfl (aa (pv 2) (aa (pv 1) ag))) (aa (aD pL (hr.mono (by decide)) rfl (aa (cG (v:=V.ref aAL) rfl dQ rfl) (aa (aD dF (hr.mono (by decide)) rfl (aa (pv 2) (aa (pv 1) ag))) ag))) (aa (cG (v:=V.ref aAL) rfl dQ rfl) ag)))))))))),?_⟩
 have d2:(2:Nat)<=sizeLine:=by decide
 have d3:(3:Nat)<=sizeLine:=by decide
 rcases (by omega:k=0\/k=1\/k=2\/k=3\/k=4) with rfl | rfl | rfl | rfl | rfl
 ·refine ⟨_,rfl,rfl,_,rfl,?_⟩
  rw [show decide (V.str (fw 0)=V.str "more")=true by decide +kernel]
  refine dk ?_
  refine ⟨_,rfl,_,rfl,_,_,a,b,rfl,dx,dy,λt1 H1 s1 e1=>?_⟩
  refine ⟨_,_,_,_,rfl,e1,dAL H1,λt2 H2 s2 e2=>?_⟩
  have m2:=s1.trans s2
  refine ⟨_,rfl,_,rfl,_,_,a,b,rfl,dx.ts m2.ts,dy.ts m2.ts,λt3 H3 s3 e3=>⟨d3,λt ht=>?_⟩⟩
  have u:=aq ht (.tup [.ref t2,.ref t3,.ref aAL])
  exact q _ _ (m2.trans (s3.trans u)) ⟨t,_,_,_,rfl,SqT.of ae,(e2.ts s3.ts).ts u.ts,e3.ts u.ts,dAL _⟩
 ·refine ⟨_,rfl,rfl,_,rfl,?_⟩
  rw [show decide (V.str (fw 1)=V.str "more")=false by decide +kernel]
  refine bM ?_
  refine ⟨_,rfl,rfl,_,rfl,?_⟩
  rw [show decide (V.str (fw 1)=V.str "less")=true by decide +kernel]
  refine dk ?_
  refine ⟨_,rfl,_,rfl,_,_,a,b,rfl,dx,dy,λt1 H1 s1 e1=>?_⟩
  refine ⟨_,_,_,_,rfl,e1,dAL H1,λt2 H2 s2 e2=>?_⟩
  have m2:=s1.trans s2
  refine ⟨_,rfl,_,rfl,_,_,a,b,rfl,dx.ts m2.ts,dy.ts m2.ts,λt3 H3 s3 e3=>?_⟩
  refine ⟨_,_,_,_,rfl,e3,dAL H3,λt4 H4 s4 e4=>⟨d3,λt ht=>?_⟩⟩
  have u:=aq ht (.tup [.ref t2,.ref aNE,.ref t4])
  exact q _ _ (m2.trans (s3.trans (s4.trans u))) ⟨t,_,_,_,rfl,SqT.of ae,((e2.ts s3.ts).ts s4.ts).ts u.ts,dNE _,e4.ts u.ts⟩
 ·refine ⟨_,rfl,rfl,_,rfl,?_⟩
  rw [show decide (V.str (fw 2)=V.str "more")=false by decide +kernel]
  refine bM ?_
  refine ⟨_,rfl,rfl,_,rfl,?_⟩
  rw [show decide (V.str (fw 2)=V.str "less")=false by decide +kernel]
  refine bM ?_
  refine ⟨_,rfl,rfl,_,rfl,?_⟩
  rw [show decide (V.str (fw 2)=V.str "greater")=true by decide +kernel]
  refine dk ?_
  refine ⟨_,rfl,_,rfl,_,_,a,b,rfl,dx,dy,λt1 H1 s1 e1=>?_⟩
  refine ⟨_,rfl,_,rfl,d3,λt ht=>?_⟩
  have u:=aq ht (.tup [.ref t1,y,x])
  exact q _ _ (s1.trans u) ⟨t,_,_,_,rfl,SqT.of ae,e1.ts u.ts,(dy.ts s1.ts).ts u.ts,(dx.ts s1.ts).ts u.ts⟩
 ·refine ⟨_,rfl,rfl,_,rfl,?_⟩
  rw [show decide (V.str (fw 3)=V.str "more")=false by decide +kernel]
  refine bM ?_
  refine ⟨_,rfl,rfl,_,rfl,?_⟩
  rw [show decide (V.str (fw 3)=V.str "less")=false by decide +kernel]
  refine bM ?_
  refine ⟨_,rfl,rfl,_,rfl,?_⟩
  rw [show decide (V.str (fw 3)=V.str "greater")=false by decide +kernel]
  refine bM ?_
  refine ⟨_,rfl,rfl,_,rfl,?_⟩
  rw [show decide (V.str (fw 3)=V.str "lesser")=true by decide +kernel]
  refine dk ?_
  refine ⟨_,rfl,_,rfl,_,_,a,b,rfl,dx,dy,λt1 H1 s1 e1=>?_⟩
  refine ⟨_,rfl,_,rfl,d3,λt ht=>?_⟩
  have u:=aq ht (.tup [.ref t1,x,y])
  exact q _ _ (s1.trans u) ⟨t,_,_,_,rfl,SqT.of ae,e1.ts u.ts,(dx.ts s1.ts).ts u.ts,(dy.ts s1.ts).ts u.ts⟩
 ·refine ⟨_,rfl,rfl,_,rfl,?_⟩
  rw [show decide (V.str (fw 4)=V.str "more")=false by decide +kernel]
  refine bM ?_
  refine ⟨_,rfl,rfl,_,rfl,?_⟩
  rw [show decide (V.str (fw 4)=V.str "less")=false by decide +kernel]
  refine bM ?_
  refine ⟨_,rfl,rfl,_,rfl,?_⟩
  rw [show decide (V.str (fw 4)=V.str "greater")=false by decide +kernel]
  refine bM ?_
  refine ⟨_,rfl,rfl,_,rfl,?_⟩
  rw [show decide (V.str (fw 4)=V.str "lesser")=false by decide +kernel]
  refine bM ?_
  refine ⟨_,rfl,_,rfl,_,_,b,a,rfl,dy,dx,λt1 H1 s1 e1=>?_⟩
  refine ⟨_,rfl,_,rfl,_,_,b,a,rfl,dy.ts s1.ts,dx.ts s1.ts,λt2 H2 s2 e2=>?_⟩
  refine ⟨_,_,_,_,rfl,dAL H2,e2,λt3 H3 s3 e3=>⟨d3,λt ht=>?_⟩⟩
  have u:=aq ht (.tup [.ref t1,.ref t3,.ref aAL])
  exact q _ _ (s1.trans (s2.trans (s3.trans u))) ⟨t,_,_,_,rfl,SqT.of ae,((e1.ts s2.ts).ts s3.ts).ts u.ts,e3.ts u.ts,dAL _⟩
end
noncomputable def tw (K:PySem.W.Frag):Sp:=λvs H Q _=>∃(x:V) (lr:Addr) (ws:List V) (r:Hu.Row) (rs:List T3),vs=[x,.ref lr]/\Dat K H (kH r) x/\H lr=some (.lst ws)/\DatAll K H (rs.map t3D) ws/\r.Ok rs.length/\∀(v:V) (H':Hp),aJ H H'->Ch K H' (Hu.choice rs r) v->Q v H'
noncomputable def tq (K:PySem.W.Frag):Sp:=λvs H Q _=>∃(l:Addr) (v:V) (us:List V) (h:List T3) (c:T3×T3×T3),vs=[.ref l,v]/\H l=some (.lst us)/\DatAll K H (h.map t3D) us/\Ch K H c v/\Hu.R3 3000 c.1/\(∀ p∈h,Hu.R3 3000 p)/\0 < h.length/\h.length<=900/\
 (∀(x:T3) (u:V) (H':Hp),aJ H H'->Hu.aS h c=some x->Dat K H' (t3D x) u->Q u H')/\(Hu.aS h c=none->∀ H',aJ H H'->Q .non H')
noncomputable def rf (K:PySem.W.Frag):Sp:=λvs H Q _=>∃(l lh:Addr) (us hs:List V) (rows:List Hu.Row) (h:List T3),vs=[.ref l,.ref lh]/\H l=some (.lst us)/\DatAll K H (rows.map kH) us/\jc rows/\0 < rows.length/\rows.length<=100/\H lh=some (.lst hs)/\DatAll K H (h.map t3D) hs/\(∀ p∈h,Hu.R3 3000 p)/\0 < h.length/\h.length<=900/\
 (∀(rs:List T3) (t lr:Addr) (ws:List V) (H':Hp),aJ H H'->Hu.run h rows []=.rules rs->Hu.Rb rs->rs.length=rows.length->H lr=none->SqT K H' t [.str "rules",.ref lr]->H' lr=some (.lst ws)->DatAll K H' (rs.map t3D) ws->Q (.ref t) H')/\
 (∀(k:Nat) (tt:T3) (t:Addr) (v:V) (H':Hp),aJ H H'->Hu.run h rows []=.mixed k tt->k < rows.length->Hu.R3 (k+1) tt->SqT K H' t [.str "mixed",.int k,v]->Dat K H' (t3D tt) v->Q (.ref t) H')
theorem getD_at {rs:List T3} {i:Nat} (hi:i < rs.length):rs[i]?=some (rs.getD i Hu.z0):=by rw [List.getD_eq_getElem?_getD,List.getElem?_eq_getElem hi];rfl
section
variable {P:Program} {w:World} {K:PySem.W.Frag} {mg:Str->Option Value} {base:Heap}
theorem yZ (T:aE K mg "choice_of" iY) (dN:mg "len"=none) (fS:fg K mg "NEVER" [0,0,0]) (eQ:fg K mg "ALWAYS" [0,0,1]) (dF:Def P w K mg base 1 "without" ["one","other"] (sp2 K Hu.mi)) (vn:Def P w K mg base 1 "leaf_rule" ["word"] (AE K))
  (pY:Def P w K mg base 2 "fold_choice" ["word","one","other"] (AG K)):Def P w K mg base 3 "choice_of" ["row","rules"] (tw K):=by
 refine aO T kF (λ_ _ _ _ _ _=>L2.ar2 λ_ _=>rfl) (λvs H Q E h=>?_) (λf cdv A outer s H vs Q E hr h=>?_)
 ·obtain ⟨x,lr,ws,r,rs,rfl,_⟩:=h
  rfl
 obtain ⟨x,lr,ws,r,rs,rfl,dx,hl,da,ok,q⟩:=h
 obtain ⟨aNE,lA,sNE⟩:=fS.ex
 obtain ⟨aAL,dQ,sAL⟩:=eQ.ex
 have dAL:∀ H,Dat K H (t3D Hu.al) (.ref aAL):=λH=>bU (p:=Hu.al) (sAL H)
 have dNE:∀ H,Dat K H (t3D Hu.z0) (.ref aNE):=λH=>bU (p:=Hu.z0) (sNE H)
 obtain ⟨a,rfl,sx⟩:=Bc dx
 have nd:=kF.nd
 have d3:(3:Nat)<=sizeLine:=by decide
 have sl:SqL K H lr ws:=SqL.of hl
 refine ⟨_,(ah (aM (aC aZ (aR fG rfl dN (by decide +kernel) (aa (pv 0) ag)) af (aI _)) (ao (av (aD pY (hr.mono (by decide)) rfl (aa (aw az (pv 0) af (λ_ _=>rfl)) (aa (aw aU (pv 1) (aw az (pv 0) af (λ_ _=>rfl)) (λ_ _=>rfl)) (aa (aw aU (pv 1) (aw az (pv 0) af (λ_ _=>rfl)) (λ_ _=>rfl)) ag)))))) aH)
  (ah (aF (i:=2) nd rfl (Or.inl rfl) (tU (aC aZ (aR fG rfl dN (by decide +kernel) (aa (pv 0) ag)) af (aI _)) (aD vn (hr.mono (by decide)) rfl (aa (aw az (pv 0) af (λ_ _=>rfl)) ag)) (aD dF (hr.mono (by decide)) rfl (aa (cG (v:=V.ref aAL) rfl dQ rfl) (aa (aw aU (pv 1) (aw az (pv 0) af (λ_ _=>rfl)) (λ_ _=>rfl)) ag)))))
  (ao (av (aL (aa (cG (v:=V.ref aNE) rfl lA rfl) (aa (pv 2) (aa (pv 2) ag)))))))),?_⟩
 cases r with
 | fd k i j =>
  obtain ⟨hk,hi,hj⟩:=ok
  obtain ⟨y,hy,dy⟩:=iL da (getD_at hi)
  obtain ⟨z,hz,dz⟩:=iL da (getD_at hj)
  refine ⟨_,rfl,_,_,rfl,.inr ⟨_,sx,rfl⟩,rfl,_,rfl,dk ?_⟩
  exact ⟨_,rfl,_,_,_,_,rfl,rfl,sx,rfl,_,rfl,_,rfl,_,_,_,_,rfl,rfl,sx,rfl,_,_,_,_,rfl,rfl,sl,dD hy,_,rfl,_,rfl,_,_,_,_,rfl,rfl,sx,rfl,_,_,_,_,rfl,rfl,sl,dD hz,k,_,_,_,_,rfl,hk,dy,dz,q⟩
 | lf k =>
  refine ⟨_,rfl,_,_,rfl,.inr ⟨_,sx,rfl⟩,rfl,_,rfl,bM ?_⟩
  refine ⟨_,rfl,_,_,rfl,.inr ⟨_,sx,rfl⟩,rfl,_,rfl,dk ?_⟩
  refine ⟨_,rfl,_,_,_,_,rfl,rfl,sx,rfl,k,rfl,ok,λv dv=>?_⟩
  refine ⟨_,rfl,_,rfl,d3,λt ht=>?_⟩
  have u:=aq ht (.tup [.ref aNE,v,v])
  exact q _ _ u ⟨t,_,_,_,rfl,SqT.of ae,dNE _,dv.ts u.ts,dv.ts u.ts⟩
 | nt i =>
  obtain ⟨y,hy,dy⟩:=iL da (getD_at (show i < rs.length from ok))
  refine ⟨_,rfl,_,_,rfl,.inr ⟨_,sx,rfl⟩,rfl,_,rfl,bM ?_⟩
  refine ⟨_,rfl,_,_,rfl,.inr ⟨_,sx,rfl⟩,rfl,_,rfl,bM ?_⟩
  refine ⟨_,rfl,_,rfl,_,_,_,_,rfl,rfl,sx,rfl,_,_,_,_,rfl,rfl,sl,dD hy,_,_,_,_,rfl,dAL H,dy,λt1 H1 s1 e1=>?_⟩
  refine ⟨_,rfl,_,rfl,d3,λt ht=>?_⟩
  have u:=aq ht (.tup [.ref aNE,.ref t1,.ref t1])
  exact q _ _ (s1.trans u) ⟨t,_,_,_,rfl,SqT.of ae,dNE _,e1.ts u.ts,e1.ts u.ts⟩
theorem yY (T:aE K mg "chosen_on" iX) (gG:mg "max"=none) (ib:mg "min"=none) (eT:Def P w K mg base 2 "told_in_corners" ["rule","hull"] (Ay K)):Def P w K mg base 3 "chosen_on" ["hull","choice"] (tq K):=by
 refine aO T kE (λ_ _ _ _ _ _=>L2.ar2 λ_ _=>rfl) (λvs H Q E h=>?_) (λf cdv A outer s H vs Q E hr h=>?_)
 ·obtain ⟨l,v,us,h,c,rfl,_⟩:=h
  rfl
 obtain ⟨l,v,us,h,c,rfl,hl,da,⟨t,x,y,z,rfl,st,d1,d2,d3⟩,br,bp,pos,few,qs,qn⟩:=h
 have nd:=kE.nd
 refine ⟨_,(ah (aF (i:=2) nd rfl (Or.inl rfl) (aD eT (hr.mono (by decide)) rfl (aa (aw az (pv 1) af (λ_ _=>rfl)) (aa (pv 0) ag))))
  (ah (aM (aC qA (aR (ia rfl) rfl gG (by decide +kernel) (aa (pv 2) ag)) af (aI _)) (ao (av (aw az (pv 1) af (λ_ _=>rfl)))) aH)
  (ah (aM (aC qB (aR (ju rfl) rfl ib (by decide +kernel) (aa (pv 2) ag)) af (aI _)) (ao (av (aw az (pv 1) af (λ_ _=>rfl)))) aH)
  (ao (av eI))))),?_⟩
 refine ⟨_,rfl,_,_,_,_,rfl,rfl,st,rfl,_,rfl,x,l,us,c.1,h,rfl,d1,SqL.of hl,da,br,bp,few,λH' s'=>SqL.of (s' _ _ hl),λd H1 s1 _ hd=>?_⟩
 have hne:0 < (h.map (Hu.tl c.1)).length:=by rw [List.length_map];exact pos
 have st1:=st.ts s1.ts
 refine ⟨_,rfl,d,_,rfl,SqL.of hd,hne,λM hM hmax=>?_⟩
 refine ⟨_,_,rfl,rfl,_,rfl,?_⟩
 obtain ⟨p1,hp1,ep1⟩:=List.mem_map.mp hM
 refine bY (λcc=>?_) (λcc=>?_)
 ·have c':M<=0:=of_decide_eq_true cc
  have al:∀ q∈h,Hu.tl c.1 q<=0:=λq hq=>Int.le_trans (hmax _ (List.mem_map.mpr ⟨q,hq,rfl⟩)) c'
  exact ⟨_,rfl,_,_,_,_,rfl,rfl,st1,rfl,qs _ _ _ s1 (by unfold Hu.aS;rw [if_pos al]) (d2.ts s1.ts)⟩
 have c1:¬M<=0:=λz=>cc (decide_eq_true z)
 have n1:¬ ∀ q∈h,Hu.tl c.1 q<=0:=λz=>by have:=z p1 hp1;omega
 refine ⟨_,rfl,d,_,rfl,SqL.of hd,hne,λM2 hM2 hmin=>?_⟩
 refine ⟨_,_,rfl,rfl,_,rfl,?_⟩
 obtain ⟨p2,hp2,ep2⟩:=List.mem_map.mp hM2
 refine bY (λcc=>?_) (λcc=>?_)
 ·have c':0<=M2:=of_decide_eq_true cc
  have al:∀ q∈h,0<=Hu.tl c.1 q:=λq hq=>Int.le_trans c' (hmin _ (List.mem_map.mpr ⟨q,hq,rfl⟩))
  exact ⟨_,rfl,_,_,_,_,rfl,rfl,st1,rfl,qs _ _ _ s1 (by unfold Hu.aS;rw [if_neg n1,if_pos al]) (d3.ts s1.ts)⟩
 ·have c2:¬0<=M2:=λz=>cc (decide_eq_true z)
  have n2:¬ ∀ q∈h,0<=Hu.tl c.1 q:=λz=>by have:=z p2 hp2;omega
  exact qn (by unfold Hu.aS;rw [if_neg n1,if_neg n2]) _ s1
theorem BJ (T:aE K mg "rules_of_rows" fK) (bD:mg "enumerate"=none) (vq:Def P w K mg base 3 "choice_of" ["row","rules"] (tw K)) (vp:Def P w K mg base 3 "chosen_on" ["hull","choice"] (tq K)):Def P w K mg base 4 "rules_of_rows" ["rows","hull"] (rf K):=by
 refine aO T gX (λ_ _ _ _ _ _=>L2.ar2 λ_ _=>rfl) (λvs H Q E h=>?_) (λf cdv A outer s H vs Q E hr h=>?_)
 ·obtain ⟨l,lh,us,hs,rows,h,rfl,_⟩:=h
  rfl
 obtain ⟨l,lh,us,hs,rows,h,rfl,hl,da,ok,ne,few,hlh,dh,bp,pos,hfew,q1,q2⟩:=h
 have nd:=gX.nd
 have lu:=xH da
 have d2:(2:Nat)<=sizeLine:=by decide
 have d3:(3:Nat)<=sizeLine:=by decide
 refine ⟨_,(ah (aF (i:=2) nd rfl (Or.inl rfl) (bo ag))
  (ah (fN PassesOwn.never rfl (nK rfl bD (pv 0)) (lV rfl (bx (aW (i:=3) nd rfl (Or.inl rfl)) (bx (aW (i:=4) nd rfl (Or.inl rfl)) ft))) (ah (aF (i:=5) nd rfl (Or.inl rfl) (aD vq (hr.mono (by decide)) rfl (aa (pv 4) (aa (pv 2) ag))))
  (ah (aF (i:=6) nd rfl (Or.inl rfl) (aD vp (hr.mono (by decide)) rfl (aa (pv 1) (aa (pv 5) ag))))
  (ah (aM (aC jR (pv 6) eI (aI _)) (ao (av (aL (aa aK (aa (pv 3) (aa (aw az (pv 5) af (λ_ _=>rfl)) ag)))))) aH)
  (ao (bj (dJ PySem.F.plainAttrs_list PySem.F.slot_list_append PySem.F.type_list_append bh (pv 2) (aa (pv 6) ag))))))))
  (ao (av (aL (aa aK (aa (pv 2) ag))))))),?_⟩
 refine ⟨(by show 0<=sizeLine;decide),λlr hlr=>?_⟩
 have u0:=aq hlr (.lst [])
 have nl:l≠lr:=aB hl hlr
 refine ⟨_,rfl,l,rfl,⟨us,SqL.of (u0 _ _ hl)⟩,?_⟩
 refine kW (xs:=us) (λi σ H'=>i<=us.length/\aJ H H'/\∃(ws:List V) (rs:List T3) (o3 o4 o5 o6:Option V),σ=[some (.ref l),some (.ref lh),some (.ref lr),o3,o4,o5,o6]/\H' lr=some (.lst ws)/\DatAll K H' (rs.map t3D) ws/\rs.length=i/\Hu.Rb rs/\Hu.run h rows []=Hu.run h (rows.drop i) rs)
  ⟨Nat.zero_le _,u0,[],[],_,_,_,_,rfl,ae,rfl,rfl,(λi x e=>by simp at e),rfl⟩ (λi σ H' _ z=>SqL.of (z.2.1 _ _ hl)) (λi v T' σ H' hv z hT=>?_) (fun σ H' z=>?_)
 ·obtain ⟨_,sm,ws,rs,o3,o4,o5,o6,rfl,hr',dr,lrs,rb,er⟩:=z
  have hi:i < us.length:=(List.getElem?_eq_some_iff.mp hv).1
  have uT:=aq hT (.tup [.int i,v])
  have s2:=sm.trans uT
  obtain ⟨r,er',dv⟩:=xI (da.ts s2.ts) hv
  have okr:r.Ok rs.length:=by rw [lrs];exact ok i r er'
  have dp:rows.drop i=r::rows.drop (i+1):=by
   obtain ⟨g1,g2⟩:=List.getElem?_eq_some_iff.mp er'
   rw [<- g2]
   exact List.drop_eq_getElem_cons g1
  rw [dp] at er
  obtain ⟨cb,_,_⟩:=Hu.kZ rb okr
  refine ⟨T',_,rfl,SqT.of ae,rfl,_,_,rfl,_,_,rfl,rfl,?_⟩
  refine ⟨_,rfl,_,rfl,v,lr,ws,r,rs,rfl,dv,uT _ _ hr',dr.ts uT.ts,okr,λc H3 s3 hc=>?_⟩
  have m3:=s2.trans s3
  have hr3:=s3 _ _ (uT _ _ hr')
  have dr3:=(dr.ts uT.ts).ts s3.ts
  refine ⟨_,rfl,_,rfl,lh,c,hs,h,Hu.choice rs r,rfl,m3 _ _ hlh,dh.ts m3.ts,hc,cb.mono (by omega),bp,pos,hfew,λx u H4 s4 ex du=>?_,λex H4 s4=>?_⟩
  ·obtain ⟨ua,rfl,su⟩:=eA du
   refine ⟨_,rfl,rfl,_,rfl,bM ?_⟩
   have m4:=m3.trans s4
   have hr4:=s4 _ _ hr3
   have lw:=fJ dr3
   refine ⟨_,rfl,.inl ⟨rfl,_,SqL.of hr4⟩,_,rfl,lr,ws,_,rfl,rfl,hr4,aN (by omega),?_⟩
   have t5:Tst H4 (upd H4 lr (.lst (ws++[.ref ua]))):=cA hr4
   refine ⟨hi,aT m4 hlr _,ws++[.ref ua],rs++[x],_,_,_,_,rfl,ae,?_,?_,Hu.rF rb (Hu.pF rb okr ex),?_⟩
   ·rw [List.map_append]
    exact ((dr3.ts s4.ts).ts t5).snoc (du.ts t5)
   ·rw [List.length_append,lrs];rfl
   ·rw [er]
    show (match Hu.aS h (Hu.choice rs r) with | some x=>_ | none=>_)=_
    rw [ex]
  ·obtain ⟨t,x,y,z,rfl,st,e1,_,_⟩:=hc
   refine ⟨_,rfl,rfl,_,rfl,dk ?_⟩
   refine ⟨_,rfl,_,rfl,_,_,_,_,rfl,rfl,st.ts s4.ts,rfl,d3,λp hp=>?_⟩
   have u:=aq hp (.tup [.str "mixed",.int i,x])
   refine q2 i (Hu.choice rs r).1 p x _ (m3.trans (s4.trans u)) ?_ (by omega) (by rw [<- lrs];exact cb) (SqT.of ae) ((e1.ts s4.ts).ts u.ts)
   rw [er]
   show (match Hu.aS h (Hu.choice rs r) with | some x=>_ | none=>_)=_
   rw [ex,lrs]
 ·obtain ⟨_,sm,ws,rs,o3,o4,o5,o6,rfl,hr',dr,lrs,rb,er⟩:=z
  refine ⟨_,rfl,d2,λp hp=>?_⟩
  have u:=aq hp (.tup [.str "rules",.ref lr])
  refine q1 rs p lr ws _ (sm.trans u) ?_ rb (by omega) hlr (SqT.of ae) (u _ _ hr') (dr.ts u.ts)
  rw [er,List.drop_eq_nil_of_le (by omega)]
  rfl
end
structure Ms (P:Program) (w:World) (K:PySem.W.Frag) (mg:Str->Option Value) (base:Heap) (c:CCs):Prop where
 made:∀ t,bw P w K mg base (c.of t) "made_of" 1 ["self"] (rg c t)
 word:∀ t,bw P w K mg base (c.of t) "making_word" 1 ["self"] (eB c t)
 pieces:∀ t,bw P w K mg base (c.of t) "pieces" 2 ["self"] (kr c t)
section
variable {P:Program} {w:World} {K:PySem.W.Frag} {mg:Str->Option Value} {base:Heap} {c:CCs}
theorem xC:aG ["self","laid","waiting","part"] ["self"] (ak sLaid):=L2.fsc rfl (by decide +kernel)
theorem ok_laid {C:Addr} {t:Tr} (T:bz K C "laid_out" "Saying.laid_out" sLaid) (M:Ms P w K mg base c):bw P w K mg base C "laid_out" 2 ["self"] (rh c t):=by
 refine cq T xC (λ_ _ _ _ _ _=>L2.ar1 λ_=>rfl) (λvs H Q E h=>?_) (λf cdv A outer s H vs Q E hr h=>?_)
 ·obtain ⟨a,rfl,_⟩:=h
  rfl
 obtain ⟨a,rfl,oa,ht,q⟩:=h
 have nd:=xC.nd
 refine ⟨_,(ah (aF (i:=1) nd rfl (Or.inl rfl) (bo ag))
  (ah (aF (i:=2) nd rfl (Or.inl rfl) (bo (aa (pv 0) ag)))
  (ah (kI PassesOwn.never (tQ (pv 2) (λ_=>rfl)) (ah (aF (i:=3) nd rfl (Or.inl rfl) (lW PySem.F.plainAttrs_list PySem.F.slot_list_pop PySem.F.type_list_pop rR (pv 2)))
  (ah (bj (dJ PySem.F.plainAttrs_list PySem.F.slot_list_append PySem.F.type_list_append bh (pv 1) (aa (pv 3) ag)))
  (ao (bj (dJ PySem.F.plainAttrs_list PySem.F.slot_list_extend PySem.F.type_list_extend lZ (pv 2) (aa (cT (k:=1) (pv 3) (hr.mono (by decide))) ag)))))))
  (ah (bj (lW PySem.F.plainAttrs_list PySem.F.slot_list_reverse PySem.F.type_list_reverse oU (pv 1)))
  (ao (av (pv 1))))))),?_⟩
 refine ⟨(by show 0<=sizeLine;decide),λl1 h1=>?_⟩
 refine ⟨_,rfl,(by show 1<=sizeLine;decide),λl2 h2'=>?_⟩
 have h2:H l2=none:=iJ h2'
 have n12:l1≠l2:=λe=>by subst e;rw [ae] at h2';cases h2'
 have smI:aJ H (upd (upd H l1 (.lst [])) l2 (.lst [.ref a])):=λb o e=>by rw [au (aB e h2),au (aB e h1)];exact e
 refine ⟨λm σ H'=>∃(L W:List V) (Lt Wt:List Tr) (o:Option V),σ=[some (.ref a),some (.ref l1),some (.ref l2),o]/\aJ H H'/\H' l1=some (.lst L)/\H' l2=some (.lst W)/\bO (ObV c H') L Lt/\bO (ObV c H') W Wt/\
   Lt++(Wt.reverse.flatMap λx=>x.post.reverse)=t.post.reverse/\m=bC Wt,
  ⟨_,[],[.ref a],[],[t],_,rfl,smI,by rw [au n12,ae],ae,.nil,.cons ⟨a,rfl,oa.to (Kp.of smI)⟩ .nil,by simp,rfl⟩,?_⟩
 rintro m σ H' ⟨L,W,Lt,Wt,o,rfl,sm,e1,e2,oL,oW,hp,rfl⟩
 have hlen:Lt.length+bC Wt=t.size:=by
  have z:=congrArg List.length hp
  rw [List.length_append,uH,yG,List.length_reverse,fE] at z
  exact z
 have hLl:=oL.len
 by_cases hw:W=[]
 ·subst hw
  cases oW
  refine ⟨_,rfl,false,.inl ⟨[],SqL.of e2,rfl⟩,bM ?_⟩
  refine ⟨_,rfl,.inl ⟨rfl,_,SqL.of e1⟩,l1,_,rfl,rfl,e1,?_⟩
  have eL:Lt=t.post.reverse:=by simpa using hp
  have kp:=gQ (u:=.lst L.reverse) e1 rfl
  refine ⟨_,rfl,q l1 L.reverse _ (λb o z=>?_) h1 ae ?_⟩
  ·rw [au (aB z h1)];exact sm b o z
  ·have:=(oL.imp (ObV.to kp)).rev
   rw [eL,List.reverse_reverse] at this
   exact this
 ·obtain ⟨W',v,Wt',x,rfl,rfl,⟨b,rfl,ob⟩,oW'⟩:=oW.last hw
  refine ⟨_,rfl,true,.inl ⟨_,SqL.of e2,by cases W' <;> rfl⟩,dk ?_⟩
  have sz:bC (Wt'++[x])=bC Wt'+x.size:=by rw [jh];simp [bC]
  refine ⟨fun σ' H''=>∃ m',m' < bC (Wt'++[x])/\∃(L W:List V) (Lt Wt:List Tr) (o:Option V),σ'=[some (.ref a),some (.ref l1),some (.ref l2),o]/\aJ H H''/\H'' l1=some (.lst L)/\H'' l2=some (.lst W)/\bO (ObV c H'') L Lt/\bO (ObV c H'') W Wt/\
   Lt++(Wt.reverse.flatMap λx=>x.post.reverse)=t.post.reverse/\m'=bC Wt,λ_ _ z=>z,?_⟩
  refine ⟨_,rfl,.inl ⟨rfl,_,SqL.of e2⟩,l2,_,_,rfl,rfl,e2,qi _ _,?_⟩
  rw [List.dropLast_concat]
  have e1':upd H' l2 (.lst W') l1=some (.lst L):=by rw [au n12];exact e1
  refine ⟨_,rfl,.inl ⟨rfl,_,SqL.of e1'⟩,_,rfl,l1,_,_,rfl,rfl,e1',by rw [hLl];exact Nat.lt_of_le_of_lt (show Lt.length<=1000 by omega) (by decide),?_⟩
  have k1:Kp H' (upd (upd H' l2 (.lst W')) l1 (.lst (L++[.ref b]))):=(gQ e2 rfl).trans (gQ e1' rfl)
  have e2':upd (upd H' l2 (.lst W')) l1 (.lst (L++[.ref b])) l2=some (.lst W'):=by rw [au n12.symm,ae]
  have ob1:=ob.to k1
  obtain ⟨dx,fs,eb,nf⟩:=ob1.cls
  refine ⟨_,rfl,.inl ⟨rfl,_,SqL.of e2'⟩,_,rfl,b,_,_,_,_,_,rfl,eb,nf _ (by decide +kernel),M.made x,b,rfl,ob1,λl us hl ou=>?_⟩
  have nl2:l2≠l:=aB e2' hl
  have nl1:l1≠l:=aB (ae (H:=upd H' l2 (.lst W'))) hl
  have e2'':upd (upd (upd H' l2 (.lst W')) l1 (.lst (L++[.ref b]))) l (.lst us) l2=some (.lst W'):=by rw [au nl2];exact e2'
  have hWl:=oW'.len
  have hul:=ou.len
  have hkl:=kT x
  have hWs:=qG Wt'
  refine ⟨l2,l,_,_,rfl,rfl,e2'',ae,by rw [hWl,hul];exact Nat.le_trans (show _<=1002 by omega) (by decide),?_⟩
  have k2:Kp (upd (upd H' l2 (.lst W')) l1 (.lst (L++[.ref b]))) (upd (upd (upd (upd H' l2 (.lst W')) l1 (.lst (L++[.ref b]))) l (.lst us)) l2 (.lst (W'++us))):=(kp_new hl _).trans (gQ e2'' rfl)
  have k3:=k1.trans k2
  have ks:=qI x
  refine ⟨bC (Wt'++x.kids),by rw [sz,jh];omega,L++[.ref b],W'++us,Lt++[x],Wt'++x.kids,_,rfl,λd o z=>?_,by rw [au n12,au nl1,ae],ae,(oL.imp (ObV.to k3)).app (.cons ⟨b,rfl,ob.to k3⟩ .nil),(oW'.imp (ObV.to k3)).app (ou.imp (ObV.to k2)),?_,rfl⟩
  ·have z1:upd (upd H' l2 (.lst W')) l1 (.lst (L++[.ref b])) d=some o:=by rw [au (aB z h1),au (aB z h2)];exact sm d o z
   rw [au (aB z h2),au (aB z1 hl)]
   exact z1
  ·rw [<- hp]
   simp only [List.reverse_append,List.flatMap_append,List.reverse_cons,List.reverse_nil,List.nil_append,List.append_assoc,List.flatMap_cons,List.flatMap_nil,List.append_nil,List.singleton_append,Bs x,List.cons_append]
end
noncomputable abbrev roN:List Str:=["saying","rows","place_of","waiting","part","taken","row"]
noncomputable abbrev roAt (i j:Nat):Stmt:=match (aY eZ).getD i (.Pass ⟨0,0,0,0⟩) with
 | .For _ _ b _ _=>b.getD j (.Pass ⟨0,0,0,0⟩)
 | _=>.Pass ⟨0,0,0,0⟩
theorem Aq {α:Type}:∀{R:List α} {k:Nat},k < R.length->∃ x R1,R.drop k=x::R1/\R.take (k+1)=R.take k++[x]/\R.drop (k+1)=R1:=by
 intro R k h
 refine ⟨R[k],R.drop (k+1),List.drop_eq_getElem_cons h,?_,rfl⟩
 rw [List.take_add_one,List.getElem?_eq_getElem h]
 rfl
section
variable {P:Program} {w:World} {K:PySem.W.Frag} {mg:Str->Option Value} {base:Heap} {c:CCs}
theorem qo:aG roN ["saying"] (ak eZ):=L2.fsc rfl (by decide +kernel)
theorem yU (T:aE K mg "rows_of" eZ) (dN:mg "len"=none) (bI:mg "tuple"=none) (M:Ms P w K mg base c) (G:∀ t,bw P w K mg base (c.of t) "laid_out" 2 ["self"] (rh c t)):Def P w K mg base 3 "rows_of" ["saying"] (nX c):=by
 refine aO T qo (λ_ _ _ _ _ _=>L2.ar1 λ_=>rfl) (λvs H Q E h=>?_) (λf cdv A outer s H vs Q E hr h=>?_)
 ·obtain ⟨a,t,rfl,_⟩:=h
  rfl
 obtain ⟨a,t,rfl,oa,ht,q⟩:=h
 have nd:=qo.nd
 have hu:=hu_of hr
 have stT:∃ ts,PS (cM CX0 P w K mg base roN "rows_of" (ak eZ) f cdv A outer s H E).nox (roAt 3 0) ts/\∀(D:Ends) (o5 o6:Option V) (l1 d1 l3 b:Addr) (x:Tr) (R:List Nat) (H1:Hp),Ob c H1 b x->H1 l3=some (.lst (R.reverse.map λi:Nat=>V.int (i:Int)))->x.kids.length<=R.length->
   (∀ l4 H2,l4≠l3->H1 l4=none->(∀ d o,H1 d=some o->d≠l3->H2 d=some o)->H2 l3=some (.lst ((R.drop x.kids.length).reverse.map λi:Nat=>V.int (i:Int)))->H2 l4=some (.lst ((R.take x.kids.length).map λi:Nat=>V.int (i:Int)))->
    D.nx [some (.ref a),some (.ref l1),some (.ref d1),some (.ref l3),some (.ref b),some (.ref l4),o6] H2)->
   ts D [some (.ref a),some (.ref l1),some (.ref d1),some (.ref l3),some (.ref b),o5,o6] H1:=by
  refine ⟨_,(kJ (i:=5) nd rfl (Or.inl rfl) (Or.inl rfl) rfl rfl (ck (cT (k:=1) (pv 4) (hr.mono (by decide)))) rfl (by decide +kernel) (by decide +kernel) rfl (show ∀ p∈Scope.names _,p.2=NameKind.free->List.lookup p.1 (ak eZ).names=some .cell\/List.lookup p.1 (ak eZ).names=some .free by decide +kernel) (bP (j:=3) rfl (Or.inl rfl) (by decide +kernel) (Or.inl rfl) cP) (show (["piece","waiting"]:List Str).Nodup by decide +kernel) (λ_ _ _ _=>dB) (λ_ _ _ _=>(pe_bm0K (K:=K) rfl PySem.F.plainAttrs_list PySem.F.slot_list_pop PySem.F.type_list_pop rR (pv 1)))),?_⟩
  intro D o5 o6 l1 d1 l3 b x R H1 ob e3 hk fin
  obtain ⟨dx,fs,eb,nf⟩:=ob.cls
  unfold sR
  refine jt ?_
  refine ⟨_,rfl,b,_,_,_,_,_,rfl,eb,nf _ (by decide +kernel),M.made x,b,rfl,ob,λl us hl ou=>⟨l,rfl,⟨_,SqL.of ae⟩,?_⟩⟩
  have hul:=ou.len
  have nl:l≠l3:=(aB e3 hl).symm
  refine mj (K:=K) (xs:=us) (λl' H'=>l'=l/\H'=upd H1 l (.lst us)) (λR' h=>h l _ ⟨rfl,rfl⟩) (λl' H' h=>by obtain ⟨rfl,rfl⟩:=h;exact ae) (by rw [hul];have:=kT x;omega)
   (λl' D' i ys H'=>l'=l/\H1 D'=none/\D'≠l3/\ys=((R.take i).map λi:Nat=>V.int (i:Int))/\H' l3=some (.lst ((R.drop i).reverse.map λi:Nat=>V.int (i:Int)))/\∀ d o,H1 d=some o->d≠l3->H' d=some o)
   (λl' H' D' h hD=>?_) (λl' D' i v ys H' hv nl' el eD h N hN=>?_) (λl' D' ys H' el eD h=>?_)
  ·obtain ⟨rfl,rfl⟩:=h
   have hD':=iJ hD
   refine ⟨rfl,hD',(aB e3 hD').symm,rfl,?_,λd o z _=>?_⟩
   ·rw [au (aB e3 hD'),au nl.symm];exact e3
   ·rw [au (aB z hD'),au (aB z hl)];exact z
  ·obtain ⟨rfl,hD',nD,rfl,e3',sm⟩:=h
   have hi:i < R.length:=by
    have:=(List.getElem?_eq_some_iff.mp hv).1
    omega
   obtain ⟨y,R1,d1',d2',d3'⟩:=Aq hi
   rw [d1',List.reverse_cons,List.map_append] at e3'
   refine ⟨_,rfl,.inl ⟨rfl,_,SqL.of e3'⟩,l3,_,_,rfl,rfl,e3',qi _ _,?_⟩
   refine hN _ _ (by rw [au nl];exact el) (by rw [au nD];exact eD) ⟨rfl,hD',nD,?_,?_,λd o z n=>?_⟩
   ·rw [d2',List.map_append];rfl
   ·rw [au nD.symm,ae,d3']
    exact congrArg some (congrArg HO.lst List.dropLast_concat)
   ·rw [au (aB z hD'),au n];exact sm d o z n
  ·obtain ⟨rfl,hD',nD,rfl,e3',sm⟩:=h
   rw [hul] at e3' eD
   exact fin D' H' nD hD' sm e3' eD
 obtain ⟨tsT,htT,hqT⟩:=stT
 refine ⟨_,ah (aF (i:=1) nd rfl (Or.inl rfl) (bo ag)) (ah (aF (i:=2) nd rfl (Or.inl rfl) Bw) (ah (aF (i:=3) nd rfl (Or.inr rfl) (bo ag)) (ah (fN PassesOwn.never rfl (ck (cT (k:=2) (pv 0) (hr.mono (by omega)))) (aW (i:=4) nd rfl (Or.inl rfl)) (ah htT (ah (bj (lW PySem.F.plainAttrs_list PySem.F.slot_list_reverse PySem.F.type_list_reverse oU (pv 5)))
  (ah (aF (i:=6) nd rfl (Or.inl rfl) (aA xR (aL (aa (cT (k:=1) (pv 4) (hr.mono (by decide))) ag)) (cC bV rfl bI (by decide +kernel) (aa (pv 5) ag))))
  (ah (aM (pt_cmp (yM hu (pv 6) (pv 2))) (ah (ps_dput hu (pv 2) (pv 6) (aR fG rfl dN (by decide +kernel) (aa (pv 1) ag)) rfl)
  (ao (bj (dJ PySem.F.plainAttrs_list PySem.F.slot_list_append PySem.F.type_list_append bh (pv 1) (aa (pv 6) ag))))) aH)
  (ao (bj (dJ PySem.F.plainAttrs_list PySem.F.slot_list_append PySem.F.type_list_append bh (pv 3) (aa (pe_dget hu (pv 2) (pv 6) (λ_ _=>rfl)) ag))))))))) (ao (av (pv 1)))))),?_⟩
 refine ⟨(by show 0<=sizeLine;decide),λl1 h1=>?_⟩
 intro d1 h2'
 refine ⟨(by show 0<=sizeLine;decide),λl3 h3'=>?_⟩
 have h2:H d1=none:=iJ h2'
 have n12:l1≠d1:=λe=>by subst e;rw [ae] at h2';cases h2'
 have h3a:upd H l1 (.lst []) l3=none:=iJ h3'
 have h3:H l3=none:=iJ h3a
 have n13:l1≠l3:=λe=>by subst e;rw [ae] at h3a;cases h3a
 have n23:d1≠l3:=λe=>by subst e;rw [ae] at h3';cases h3'
 have sm0:aJ H (upd (upd (upd H l1 (.lst [])) d1 (.dT [])) l3 (.lst [])):=λb o e=>by rw [au (aB e h3),au (aB e h2),au (aB e h1)];exact e
 have oa0:=oa.to (Kp.of sm0)
 obtain ⟨dx,fs,ea,nf⟩:=oa0.cls
 refine ⟨_,rfl,a,_,_,_,_,_,rfl,ea,nf _ (by decide +kernel),G t,a,rfl,oa0,ht,λl us H' sm hl el ou=>⟨l,rfl,⟨_,SqL.of el⟩,?_⟩⟩
 have ul:=ou.len
 rw [fE] at ul
 have g1:H' l1=some (.lst []):=sm _ _ (by rw [au n13,au n12,ae])
 have g2:H' d1=some (.dT []):=sm _ _ (by rw [au n23,ae])
 have g3:H' l3=some (.lst []):=sm _ _ ae
 have hl0:H l=none:=by
  cases z:H l with
  | none=>rfl
  | some o=>rw [sm0 _ _ z] at hl;cases hl
 have nl1:l≠l1:=λe=>by subst e;rw [au n13,au n12,ae] at hl;cases hl
 have nl3:l≠l3:=λe=>by subst e;rw [ae] at hl;cases hl
 have nld:l≠d1:=λe=>by subst e;rw [au n23,ae] at hl;cases hl
 refine gi (xs:=us) (λi σ H2=>∃(o4 o5 o6:Option V) (rs:List Rw) (R:List Nat) (kvs:List (Rw×V)) (vs:List V),σ=[some (.ref a),some (.ref l1),some (.ref d1),some (.ref l3),o4,o5,o6]/\(∀ d o,H' d=some o->d≠l1->d≠d1->d≠l3->H2 d=some o)/\
   H2 l1=some (.lst vs)/\bO (RwV H2) vs rs/\H2 d1=some (.dT kvs)/\PlO kvs rs/\H2 l3=some (.lst (R.reverse.map λi:Nat=>V.int (i:Int)))/\R.length<=i/\rs.length<=i/\pO (rs,R) (t.post.drop i)=some (t.rows,[(t.putR []).2]))
  ⟨_,_,_,[],[],[],[],rfl,λd o z _ _ _=>z,g1,.nil,g2,PlO.nil,g3,Nat.le_refl _,Nat.le_refl _,AY t⟩ (λi σ H2 _ h=>?_) (λi v σ H2 hi h=>?_) (fun σ H2 h=>?_)
 ·obtain ⟨o4,o5,o6,rs,R,kvs,vs,_,sb,_⟩:=h
  exact SqL.of (sb _ _ el nl1 nld nl3)
 ·obtain ⟨o4,o5,o6,rs,R,kvs,vs,rfl,sb,e1,rv,e2,pl,e3,hR,hrs,hrun⟩:=h
  obtain ⟨x,hx,b,rfl,ob⟩:=ou.get i v hi
  rw [drop_at hx] at hrun
  obtain ⟨s',hs',hrun'⟩:=yJ hrun
  obtain ⟨hk,rfl⟩:=AX hs'
  have hil:i < us.length:=(List.getElem?_eq_some_iff.mp hi).1
  have kp:Kp H' H2:=λd o z f=>sb d o z (λe=>by subst e;rw [g1] at z;cases z;cases f) (λe=>by subst e;rw [g2] at z;cases z;cases f) (λe=>by subst e;rw [g3] at z;cases z;cases f)
  have ob2:=ob.to kp
  refine hqT _ _ _ l1 d1 l3 b x R H2 ob2 e3 hk λl4 H3 n43 h4 sm3 e33 e34=>?_
  have nl41:l4≠l1:=(aB e1 h4).symm
  have nl4d:l4≠d1:=(aB e2 h4).symm
  have e31:H3 l1=some (.lst vs):=sm3 _ _ e1 n13
  have e3d:H3 d1=some (.dT kvs):=sm3 _ _ e2 n23
  have kp3:Kp H2 H3:=λd o z f=>sm3 d o z (λe=>by subst e;rw [e3] at z;cases z;cases f)
  refine ⟨_,rfl,.inl ⟨rfl,_,SqL.of e34⟩,l4,_,rfl,rfl,e34,?_⟩
  have kp4:Kp H3 (upd H3 l4 (.lst ((R.take x.kids.length).map λi:Nat=>V.int (i:Int)).reverse)):=gQ e34 rfl
  rw [<- List.map_reverse] at kp4 ⊢
  have ob4:=(ob2.to kp3).to kp4
  obtain ⟨dx',fs',eb,nf'⟩:=ob4.cls
  refine ⟨_,rfl,b,_,_,_,_,_,rfl,eb,nf' _ (by decide +kernel),M.word x,b,rfl,ob4,(by show 1<=sizeLine;decide),λp1 hp1=>?_⟩
  have kx:=kT x
  have e44:upd H3 l4 (.lst ((R.take x.kids.length).reverse.map λi:Nat=>V.int (i:Int))) l4=_:=ae
  have np1:l4≠p1:=aB e44 hp1
  refine ⟨_,rfl,l4,_,rfl,.inl ⟨SqL.of (by rw [au np1];exact e44),λp2 hp2=>?_⟩⟩
  have np12:p1≠p2:=aB (ae (H:=upd H3 l4 (.lst ((R.take x.kids.length).reverse.map λi:Nat=>V.int (i:Int))))) hp2
  refine uQ (K:=K) (by rw [au np12,ae]) ae (by simp) (by simp only [List.length_cons,List.length_nil,List.length_map,List.length_reverse,List.length_take];exact Nat.le_trans (show _<=3 by omega) (by decide)) λrw' H6 s6 e6=>?_
  have s46:aJ (upd H3 l4 (.lst ((R.take x.kids.length).reverse.map λi:Nat=>V.int (i:Int)))) H6:=((aq hp1 _).trans (aq hp2 _)).trans s6
  have e6':H6 rw'=some (.tup ((dU x.word (R.take x.kids.length).reverse).map kV)):=by rw [rC];exact e6
  generalize hr0:dU x.word (R.take x.kids.length).reverse=r at e6' hrun'
  have g1':H6 l1=some (.lst vs):=s46 _ _ (by rw [au nl41.symm];exact e31)
  have gd':H6 d1=some (.dT kvs):=s46 _ _ (by rw [au nl4d.symm];exact e3d)
  have g3':H6 l3=some (.lst ((R.drop x.kids.length).reverse.map λi:Nat=>V.int (i:Int))):=s46 _ _ (by rw [au n43.symm];exact e33)
  have kp6:Kp H2 H6:=(kp3.trans kp4).trans (Kp.of s46)
  have sb6:∀ d o,H' d=some o->d≠l1->d≠d1->d≠l3->H6 d=some o:=λd o z z1 z2 z3=>by
   have y2:=sb d o z z1 z2 z3
   exact s46 _ _ (by rw [au (aB y2 h4)];exact sm3 d o y2 z3)
  have rv6:=rv.imp (RwV.to kp6)
  have vl:=rv.len
  refine ⟨_,rfl,_,rfl,d1,_,rfl,pZ.t gd' e6',_,rfl,?_⟩
  have hv:=pl.2 r
  have big:kvs.length < sizeLine:=by rw [pl.1];exact Nat.lt_of_le_of_lt (show rs.length<=1000 by omega) (by decide)
  cases hx0:idx rs r with
  | some j =>
   rw [hx0] at hv
   rw [hv]
   refine bM ?_
   have hp:aP rs r=(rs,j):=by unfold aP;rw [hx0]
   rw [hp] at hrun'
   refine ⟨_,rfl,.inl ⟨rfl,_,SqL.of g3'⟩,_,rfl,_,rfl,d1,_,rfl,(by have z:=pZ.t gd' e6';rw [hv] at z;exact z),l3,_,_,rfl,rfl,g3',?_,?_⟩
   ·rw [List.length_map,List.length_reverse];exact Nat.lt_of_le_of_lt (show _<=1000 by rw [List.length_drop];omega) (by decide)
   ·have km:Kp H6 (upd H6 l3 (.lst (((R.drop x.kids.length).reverse.map λi:Nat=>V.int (i:Int))++[V.int (j:Int)]))):=gQ g3' rfl
    refine ⟨_,_,_,rs,j::R.drop x.kids.length,kvs,vs,rfl,λd o z z1 z2 z3=>by rw [au z3];exact sb6 d o z z1 z2 z3,by rw [au n13];exact g1',rv6.imp (RwV.to km),by rw [au n23];exact gd',pl,by rw [ae,List.reverse_cons,List.map_append];rfl,?_,by omega,hrun'⟩
    rw [List.length_cons,List.length_drop];omega
  | none =>
   rw [hx0] at hv
   rw [hv]
   refine dk ?_
   have hp:aP rs r=(rs++[r],rs.length):=by unfold aP;rw [hx0]
   rw [hp] at hrun'
   refine ⟨_,rfl,_,vs.length,rfl,.inl ⟨_,SqL.of g1',rfl⟩,_,rfl,_,rfl,d1,_,rfl,Dx.t gd' e6' big,?_⟩
   rw [vl]
   have gA:upd H6 d1 (.dT (putK kvs r (.int (rs.length:Int)))) l1=some (.lst vs):=by rw [au n12];exact g1'
   refine ⟨_,rfl,.inl ⟨rfl,_,SqL.of gA⟩,_,rfl,l1,_,_,rfl,rfl,gA,by rw [vl];exact Nat.lt_of_le_of_lt (show rs.length<=1000 by omega) (by decide),?_⟩
   have k7:Kp H6 (upd (upd H6 d1 (.dT (putK kvs r (.int (rs.length:Int))))) l1 (.lst (vs++[.ref rw']))):=(gQ gd' rfl).trans (gQ gA rfl)
   have gB:upd (upd H6 d1 (.dT (putK kvs r (.int (rs.length:Int))))) l1 (.lst (vs++[.ref rw'])) d1=some (.dT (putK kvs r (.int (rs.length:Int)))):=by rw [au n12.symm,ae]
   have gC:upd (upd H6 d1 (.dT (putK kvs r (.int (rs.length:Int))))) l1 (.lst (vs++[.ref rw'])) l3=some (.lst ((R.drop x.kids.length).reverse.map λi:Nat=>V.int (i:Int))):=by rw [au n13.symm,au n23.symm];exact g3'
   have e7:=k7 _ _ e6' rfl
   have pl':=pl.put hx0
   have hv':fP (putK kvs r (.int (rs.length:Int))) r=some (.int (rs.length:Int)):=by rw [sM,if_pos rfl]
   refine ⟨_,rfl,.inl ⟨rfl,_,SqL.of gC⟩,_,rfl,_,rfl,d1,_,rfl,(by have z:=pZ.t gB e7;rw [hv'] at z;exact z),l3,_,_,rfl,rfl,gC,?_,?_⟩
   ·rw [List.length_map,List.length_reverse];exact Nat.lt_of_le_of_lt (show _<=1000 by rw [List.length_drop];omega) (by decide)
   ·have km:=gQ (u:=.lst (((R.drop x.kids.length).reverse.map λi:Nat=>V.int (i:Int))++[V.int (rs.length:Int)])) gC rfl
    refine ⟨_,_,_,rs++[r],rs.length::R.drop x.kids.length,_,vs++[.ref rw'],rfl,λd o z z1 z2 z3=>by rw [au z3,au z1,au z2];exact sb6 d o z z1 z2 z3,by rw [au n13,ae],?_,by rw [au n23];exact gB,pl',by rw [ae,List.reverse_cons,List.map_append];rfl,?_,by rw [List.length_append];simp;omega,hrun'⟩
    ·exact ((rv6.imp (RwV.to k7)).imp (RwV.to km)).app (.cons ⟨rw',rfl,km _ _ e7 rfl⟩ .nil)
    ·rw [List.length_cons,List.length_drop];omega
 ·obtain ⟨o4,o5,o6,rs,R,kvs,vs,rfl,sb,e1,rv,e2,pl,e3,hR,hrs,hrun⟩:=h
  rw [ul,<- fE,List.drop_length] at hrun
  cases hrun
  refine ⟨_,rfl,q l1 vs H2 (λd o z=>?_) h1 e1 rv⟩
  exact sb d o (sm _ _ (sm0 _ _ z)) (aB z h1) (aB z h2) (aB z h3)
end
theorem De {K:PySem.W.Frag} {wi:TI} {tc:TT} {te:TE} {js:List Nat} {σ:St} {H:Hp} {Q:VK} {xs:List V} (bs:List Bool) (hb:bs.length=xs.length) (Src:Addr->Hp->Prop)
  (hwi:∀ R:It->Hp->Prop,(∀ l H,Src l H->R (Itl K l) H)->wi σ H R) (hsrc:∀ l H',Src l H'->H' l=some (.lst xs)/\aJ H H') (hx:xs.length<=1000)
  (ht:∀ l H0 (i:Nat) v H' (N:Bool->Hp->Prop),Src l H0->xs[i]?=some v->aJ H0 H'->(∀ H'',aJ H' H''->N (bs.getD i false) H'')->tc (some v::cw js σ) H' N)
  (hs:∀(i:Nat) v H' (N:VK),xs[i]?=some v->aJ H H'->(∀ H'',aJ H' H''->N v H'')->te (some v::cw js σ) H' N)
  (hd:∀ D ys H',aJ H H'->H D=none->H' D=some (.lst ys)->ys.length=bs.countP id->Q (.ref D) H'):iA wi tc te js σ H Q:=by
 refine hwi _ λl H1 src=>?_
 intro D hD
 obtain ⟨e,s1⟩:=hsrc l H1 src
 have nl:l≠D:=aB e hD
 have hD0:H D=none:=s1.free hD
 refine ⟨λi m H'=>m=xs.length - i/\i<=xs.length/\H' l=some (.lst xs)/\aJ H1 H'/\∃ ys,H' D=some (.lst ys)/\ys.length=(bs.take i).countP id,⟨xs.length,rfl,Nat.zero_le _,by rw [au nl];exact e,aq hD _,[],ae,rfl⟩,?_⟩
 rintro i m H2 ⟨rfl,hi,e2,s2,ys,eD,ly⟩
 have cle:(bs.take i).countP id<=i:=Nat.le_trans List.countP_le_length (by rw [List.length_take];omega)
 by_cases hlt:i < xs.length
 ·refine .inr ⟨⟨xs,xs[i],SqL.of e2,by simp [hlt]⟩,λv H3 y=>?_⟩
  obtain ⟨eh,y⟩:=y
  subst eh
  have hv:=y xs (SqL.of e2)
  have hbi:i < bs.length:=by omega
  have tk:bs.take (i+1)=bs.take i++[bs.getD i false]:=by
   rw [List.take_add_one,List.getElem?_eq_getElem hbi,List.getD_eq_getElem?_getD,List.getElem?_eq_getElem hbi]
   rfl
  have ct:(bs.take (i+1)).countP id=(bs.take i).countP id+(if bs.getD i false=true then 1 else 0):=by
   rw [tk,List.countP_append]
   congr 1
   cases bs.getD i false <;> rfl
  refine ht l H1 i v _ _ src hv s2 λH4 s4=>?_
  by_cases hp:bs.getD i false=true
  ·rw [if_pos hp] at ct
   rw [if_pos hp]
   refine hs i v H4 _ hv ((s1.trans s2).trans s4) λH5 s5=>?_
   have e5:=s5 _ _ (s4 _ _ eD)
   refine ⟨_,e5,Nat.lt_of_le_of_lt (show _<=1000 by omega) (by decide),xs.length - (i+1),by omega,rfl,hlt,?_,λd u z=>?_,ys++[v],ae,by rw [ct,List.length_append,ly];rfl⟩
   ·rw [au nl];exact s5 _ _ (s4 _ _ e2)
   ·rw [au (aB z hD)];exact s5 _ _ (s4 _ _ (s2 _ _ z))
  ·rw [if_neg hp] at ct
   rw [if_neg hp]
   exact ⟨xs.length - (i+1),by omega,rfl,hlt,s4 _ _ e2,s2.trans s4,ys,s4 _ _ eD,by rw [ct,ly];rfl⟩
 ·have ei:i=xs.length:=by omega
  subst ei
  rw [<- hb,List.take_length] at ly
  exact .inl ⟨⟨xs,SqL.of e2,Nat.le_refl _⟩,hd D ys H2 (s1.trans s2) hD0 eD ly⟩
noncomputable def isF:Tr->Bool
 | .fold _ _ _=>true
 | _=>false
noncomputable def Tr.nf (t:Tr):Nat:=(t.post.map isF).countP id
noncomputable def iN (c:CCs) (t:Tr):Sp:=λvs H Q _=>∃ a,vs=[.ref a]/\Ob c H a t/\t.size<=1000/\∀ H',aJ H H'->Q (.int (t.nf:Int)) H'
section
variable {P:Program} {w:World} {K:PySem.W.Frag} {mg:Str->Option Value} {base:Heap} {c:CCs}
theorem qt:aG ["self"] ["self"] (ak cK):=L2.fsc rfl (by decide +kernel)
theorem yW {C wU:Addr} {t:Tr} (T:bz K C "folds" "Saying.folds" cK) (dN:mg "len"=none) (dE:mg "isinstance"=none) (M_Fold:mg "Fold"=some (.ref wU)) (fx:Fx K c) (kf:∀ t,PySem.W.kitOne K (.ref (c.of t)) (.ref wU)=some (isF t)) (G:∀ t,bw P w K mg base (c.of t) "laid_out" 2 ["self"] (rh c t)):bw P w K mg base C "folds" 3 ["self"] (iN c t):=by
 refine cq T qt (λ_ _ _ _ _ _=>L2.ar1 λ_=>rfl) (λvs H Q E h=>?_) (λf cdv A outer s H vs Q E hr h=>?_)
 ·obtain ⟨a,rfl,_⟩:=h
  rfl
 obtain ⟨a,rfl,oa,ht,q⟩:=h
 have nd:=qt.nd
 obtain ⟨dx,fs,ea,nf⟩:=oa.cls
 refine ⟨_,(ao (av (aR fG rfl dN (by decide +kernel) (aa (eJ rfl (ck (cT (k:=2) (pv 0) (hr.mono (by omega)))) rfl (by decide +kernel) (by decide +kernel) rfl (show ∀ p∈Scope.names _,p.2=NameKind.free->List.lookup p.1 (ak cK).names=some .cell\/List.lookup p.1 (ak cK).names=some .free by decide +kernel) cP (show (["part"]:List Str).Nodup by decide +kernel) (λ_ _ _ _=>(pif_one (vN (aR (zM (K:=K) rfl) rfl dE (by decide +kernel) (aa (pv 0) (aa (cG (v:=V.ref wU) rfl M_Fold rfl) ag)))))) (λ_ _ _ _=>(pv 0))) ag)))),?_⟩
 dsimp only [vC,tOp,tC,tCB,dZ,jH]
 refine jt ?_
 refine ⟨_,rfl,a,_,_,_,_,_,rfl,ea,nf _ (by decide +kernel),G t,a,rfl,oa,ht,λl us H1 s1 hl el ou=>⟨l,rfl,⟨_,SqL.of el⟩,?_⟩⟩
 have lu:=ou.len
 have lp:=fE t
 refine De (K:=K) (t.post.map isF) (by rw [List.length_map,lu]) (λl' H'=>l'=l/\H'=H1) (λR k=>k l H1 ⟨rfl,rfl⟩) (λl' H' z=>by obtain ⟨rfl,rfl⟩:=z;exact ⟨el,aJ.refl _⟩) (by omega) (λl' H0 i v H2 N z hv s2 hN=>?_) (λi v H2 N hv s2 hN=>⟨_,rfl,hN _ (aJ.refl _)⟩) (λD ys H2 s2 hD eD ly=>?_)
 ·obtain ⟨rfl,rfl⟩:=z
  obtain ⟨x,hx,b,rfl,ob⟩:=(ou.imp (ObV.to (Kp.of s2))).get i v hv
  have e:(t.post.map isF).getD i false=isF x:=by rw [List.getD_eq_getElem?_getD,List.getElem?_map,hx];rfl
  rw [e] at hN
  exact ⟨_,rfl,_,_,_,_,_,rfl,(λu z=>z),fx.ty ob,kf x,_,rfl,hN _ (aJ.refl _)⟩
 ·refine ⟨_,_,rfl,.inl ⟨_,SqL.of eD,rfl⟩,?_⟩
  rw [ly]
  exact q _ (s1.trans s2)
end
noncomputable def u5:W5->Nat | .more=>0 | .less=>1 | .greater=>2 | .lesser=>3 | .leads=>4
theorem fw_u5 (u:W5):fw (u5 u)=u.str:=by cases u <;> rfl
noncomputable def fX:Gr->Hu.Row
 | .ne=>.lf 0 | .al=>.lf 1 | .p=>.lf 2 | .q=>.lf 3
 | .no i=>.nt i
 | .fold u i j=>.fd (u5 u) i j
theorem yD {K:PySem.W.Frag} {H:Hp} {v:V} {g:Gr} (h:RwV H v g.rw):Dat K H (kH (fX g)) v:=by
 obtain ⟨a,rfl,e⟩:=h
 unfold Gr.rw at e
 rw [rC] at e
 refine row_mk (SqT.of ?_)
 rw [e]
 cases g with
 | fold u i j=>show _=some (HO.tup [V.str (fw (u5 u)),.int i,.int j]);rw [fw_u5];rfl
 | _=>rfl
theorem Al {k:Nat} {g:Gr} (h:GrOk k g):(fX g).Ok k:=by
 cases g with
 | ne=>show 0 < 4;decide
 | al=>show 1 < 4;decide
 | p=>show 2 < 4;decide
 | q=>show 3 < 4;decide
 | no i=>exact h i (by simp [Gr.nums])
 | fold u i j=>exact ⟨by cases u <;> decide,h i (by simp [Gr.nums]),h j (by simp [Gr.nums])⟩
noncomputable def fdK (r:Rw):Bool:=r.length == 3
theorem jk (rs:List Rw) (r:Rw):(aP rs r).1.countP fdK<=rs.countP fdK+(if fdK r=true then 1 else 0):=by
 unfold aP
 cases idx rs r with
 | some i=>show rs.countP fdK<=_;omega
 | none =>
  show (rs++[r]).countP fdK<=_
  rw [List.countP_append]
  refine Nat.add_le_add_left ?_ _
  cases h:fdK r <;> simp [h]
theorem nf_no (t:Tr):(Tr.no t).nf=t.nf:=by
 show ((t.post++[Tr.no t]).map isF).countP id=_
 rw [List.map_append,List.countP_append]
 rfl
theorem rO (u:W5) (a b:Tr):(Tr.fold u a b).nf=a.nf+b.nf+1:=by
 show ((a.post++b.post++[Tr.fold u a b]).map isF).countP id=_
 rw [List.map_append,List.map_append,List.countP_append,List.countP_append]
 rfl
theorem nJ:∀(t:Tr) (rs:List Rw),(t.putR rs).1.countP fdK<=rs.countP fdK+t.nf
 | .no t,rs=>by
  have h1:=nJ t rs
  have h2:=jk (t.putR rs).1 (dU "not" [(t.putR rs).2])
  have e:fdK (dU "not" [(t.putR rs).2])=false:=rfl
  rw [e,if_neg (by decide)] at h2
  rw [nf_no]
  exact Nat.le_trans h2 h1
 | .fold w a b,rs=>by
  have h1:=nJ a rs
  have h2:=nJ b (a.putR rs).1
  have h3:=jk (b.putR (a.putR rs).1).1 (dU w.str [(a.putR rs).2,(b.putR (a.putR rs).1).2])
  have e:fdK (dU w.str [(a.putR rs).2,(b.putR (a.putR rs).1).2])=true:=rfl
  rw [e,if_pos rfl] at h3
  rw [rO]
  have:((Tr.fold w a b).putR rs).1.countP fdK<=_:=h3
  omega
 | .never,rs=>jk rs (dU "never" [])
 | .always,rs=>jk rs (dU "always" [])
 | .lp,rs=>jk rs (dU "p" [])
 | .lq,rs=>jk rs (dU "q" [])
theorem CM:∀ gs:List Gr,Hu.fds (gs.map fX)=(gs.map Gr.rw).countP fdK
 | []=>rfl
 | g::r=>by
  have ih:=CM r
  unfold Hu.fds at ih ⊢
  rw [List.map_cons,List.map_cons,List.countP_cons,List.countP_cons,ih]
  congr 1
  cases g <;> rfl
noncomputable def tcD:Hu.Tc->PyData
 | .leaf=>.tuple [.str "leaf"]
 | .cut r l g=>.tuple [.str "cut",t3D r,tcD l,tcD g]
section
variable {K:PySem.W.Frag} {H H':Hp} {v:V}
theorem qX (d:Dat K H (tcD .leaf) v):∃ a,v=.ref a/\SqT K H a [.str "leaf"]:=by
 unfold tcD at d
 obtain ⟨a,xs,rfl,g,x,r,rfl,hx,hr⟩:=d
 cases (show x=V.str "leaf" from hx)
 cases (show r=[] from hr)
 exact ⟨a,rfl,g⟩
theorem vB {r:T3} {l g:Hu.Tc} (d:Dat K H (tcD (.cut r l g)) v):∃ a x y z,v=.ref a/\SqT K H a [.str "cut",x,y,z]/\Dat K H (t3D r) x/\Dat K H (tcD l) y/\Dat K H (tcD g) z:=by
 unfold tcD at d
 obtain ⟨a,xs,rfl,s,w,t,rfl,hw,x,t2,rfl,hx,y,t3,rfl,hy,z,t4,rfl,hz,h4⟩:=d
 cases (show w=V.str "cut" from hw)
 cases (show t4=[] from h4)
 exact ⟨a,x,y,z,rfl,s,hx,hy,hz⟩
theorem eY {a:Addr} (g:SqT K H a [.str "leaf"]):Dat K H (tcD .leaf) (.ref a):=by
 unfold tcD
 exact ⟨a,_,rfl,g,_,_,rfl,rfl,rfl⟩
theorem fB {a:Addr} {x y z:V} {r:T3} {l g:Hu.Tc} (s:SqT K H a [.str "cut",x,y,z]) (h1:Dat K H (t3D r) x) (h2:Dat K H (tcD l) y) (h3:Dat K H (tcD g) z):Dat K H (tcD (.cut r l g)) (.ref a):=by
 unfold tcD
 exact ⟨a,_,rfl,s,_,_,rfl,rfl,_,_,rfl,h1,_,_,rfl,h2,_,_,rfl,h3,rfl⟩
end
namespace Hu
theorem nH {h:List T3} {r:Row}:∀(a:List Row) (rs:List T3),run h (a++[r]) rs=match run h a rs with
  | .rules rs'=>(match aS h (choice rs' r) with | some x=>.rules (rs'++[x]) | none=>.mixed rs'.length (choice rs' r).1)
  | .mixed k t=>.mixed k t
 | [],rs=>by
  show run h [r] rs=_
  simp only [run]
  all_goals (cases aS h (choice rs r) <;> rfl)
 | x::a,rs=>by
  simp only [List.cons_append,run]
  cases aS h (choice rs x) with
  | none=>rfl
  | some y=>exact nH a _
theorem fF (h:List T3) (x:T3):aS h (z0,x,x)=some x:=by
 unfold aS
 rw [if_pos λq _=>Int.le_of_eq (mI q)]
end Hu
noncomputable def rl (g:List T3):Tr->Option T3
 | .never=>some (Hu.lft 0)
 | .always=>some (Hu.lft 1)
 | .lp=>some (Hu.lft 2)
 | .lq=>some (Hu.lft 3)
 | .no t=>(rl g t).map λr=>Hu.mi Hu.al r
 | .fold u a b=>match rl g a,rl g b with
  | some x,some y=>Hu.aS g (Hu.fch (u5 u) x y)
  | _,_=>none
theorem rE (g:List T3):∀ t:Tr,rl g t≠none->∀ x∈t.post,rl g x≠none
 | .no t,h,x,hx=>by
  rcases List.mem_append.mp (show x∈t.post++[.no t] from hx) with z | z
  ·exact rE g t (λe=>h (by show (rl g t).map _=none;rw [e];rfl)) x z
  ·rw [List.mem_singleton.mp z];exact h
 | .fold u a b,h,x,hx=>by
  rcases List.mem_append.mp (show x∈a.post++b.post++[.fold u a b] from hx) with z | z
  ·rcases List.mem_append.mp z with z | z
   ·exact rE g a (λe=>h (by unfold rl;rw [e])) x z
   ·refine rE g b (λe=>h ?_) x z
    unfold rl
    rw [e]
    cases rl g a <;> rfl
  ·rw [List.mem_singleton.mp z];exact h
 | .never,h,x,hx=>by rw [List.mem_singleton.mp hx];exact h
 | .always,h,x,hx=>by rw [List.mem_singleton.mp hx];exact h
 | .lp,h,x,hx=>by rw [List.mem_singleton.mp hx];exact h
 | .lq,h,x,hx=>by rw [List.mem_singleton.mp hx];exact h
theorem Bf {g:List T3} {ts:List Tr} {rs:List T3} (e:ts.map (rl g)=rs.map some) {i:Nat} {t:Tr} (h:ts[i]?=some t):rl g t=some (rs.getD i Hu.z0):=by
 have z:(ts.map (rl g))[i]?=some (rl g t):=by rw [List.getElem?_map,h];rfl
 rw [e,List.getElem?_map] at z
 rw [List.getD_eq_getElem?_getD]
 cases q:rs[i]? with
 | none=>rw [q] at z;cases z
 | some r=>rw [q] at z;exact (Option.some.inj z).symm
theorem pE {g:List T3} {ts:List Tr} {rs:List T3} (e:ts.map (rl g)=rs.map some) {gr:Gr} {t:Tr} (h:GrT ts gr t):Hu.aS g (Hu.choice rs (fX gr))=rl g t:=by
 cases gr with
 | ne=>cases t <;> first | exact h.elim | exact Hu.fF _ _
 | al=>cases t <;> first | exact h.elim | exact Hu.fF _ _
 | p=>cases t <;> first | exact h.elim | exact Hu.fF _ _
 | q=>cases t <;> first | exact h.elim | exact Hu.fF _ _
 | no i =>
  cases t <;> first | exact h.elim | skip
  rename_i t
  have z:=Bf e (show ts[i]?=some t from h)
  show Hu.aS g (Hu.z0,Hu.mi Hu.al (rs.getD i Hu.z0),Hu.mi Hu.al (rs.getD i Hu.z0))=(rl g t).map _
  rw [z,Hu.fF]
  rfl
 | fold u i j =>
  cases t <;> first | exact h.elim | skip
  rename_i v a b
  obtain ⟨rfl,h1,h2⟩:=h
  have z1:=Bf e h1
  have z2:=Bf e h2
  show Hu.aS g (Hu.fch (u5 u) (rs.getD i Hu.z0) (rs.getD j Hu.z0))=rl g (.fold u a b)
  conv=>rhs;unfold rl
  rw [z1,z2]
theorem run_tab (g:List T3) {gs:List Gr} {ts:List Tr} (h:Tab gs ts):(∃ rs,Hu.run g (gs.map fX) []=.rules rs/\ts.map (rl g)=rs.map some)\/(∃ k t,Hu.run g (gs.map fX) []=.mixed k t)/\∃ x∈ts,rl g x=none:=by
 induction h with
 | nil=>exact .inl ⟨[],rfl,rfl⟩
 | snoc hT r ih =>
  rename_i gs ts gr t
  rw [List.map_append]
  show (∃ rs,Hu.run g (gs.map fX++[fX gr]) []=_/\_)\/_
  rw [Hu.nH]
  rcases ih with ⟨rs,e,q⟩ | ⟨⟨k,tt,e⟩,x,hx,q⟩
  ·rw [e]
   dsimp only
   rw [pE q r]
   cases z:rl g t with
   | some x=>exact .inl ⟨rs++[x],rfl,by rw [List.map_append,List.map_append,q];simp [z]⟩
   | none =>
    refine .inr ⟨⟨rs.length,(Hu.choice rs (fX gr)).1,?_⟩,t,List.mem_append_right _ List.mem_cons_self,z⟩
    show Hu.run g (gs.map fX++[fX gr]) []=_
    rw [Hu.nH,e]
    dsimp only
    rw [pE q r,z]
  ·rw [e]
   refine .inr ⟨⟨k,tt,?_⟩,x,List.mem_append_left _ hx,q⟩
   show Hu.run g (gs.map fX++[fX gr]) []=_
   rw [Hu.nH,e]
theorem tab_ok {gs:List Gr} {ts:List Tr} (h:Tab gs ts):jc (gs.map fX):=λk r hr=>by
 rw [List.getElem?_map] at hr
 cases z:gs[k]? with
 | none=>rw [z] at hr;cases hr
 | some g=>rw [z] at hr;cases hr;exact Al (h.ok k g z)
structure iE (rs:List Rw) (ts:List Tr) (rows:List Hu.Row):Prop where
 gr:∃ gs:List Gr,rs=gs.map Gr.rw/\Tab gs ts/\rows=gs.map fX
theorem iE.ok {rs:List Rw} {ts:List Tr} {rows:List Hu.Row} (R:iE rs ts rows):jc rows:=by
 obtain ⟨gs,_,h,rfl⟩:=R.gr
 exact tab_ok h
theorem iE.len {rs:List Rw} {ts:List Tr} {rows:List Hu.Row} (R:iE rs ts rows):rows.length=rs.length/\rs.length=ts.length:=by
 obtain ⟨gs,rfl,h,rfl⟩:=R.gr
 exact ⟨by simp,by rw [List.length_map];exact h.len⟩
theorem iE.fd {rs:List Rw} {ts:List Tr} {rows:List Hu.Row} (R:iE rs ts rows):Hu.fds rows=rs.countP fdK:=by
 obtain ⟨gs,rfl,h,rfl⟩:=R.gr
 exact CM gs
theorem iE.dat {K:PySem.W.Frag} {H:Hp} {rs:List Rw} {ts:List Tr} {rows:List Hu.Row} {us:List V} (R:iE rs ts rows) (al:bO (RwV H) us rs):DatAll K H (rows.map kH) us:=by
 obtain ⟨gs,rfl,h0,rfl⟩:=R.gr
 clear R h0
 induction gs generalizing us with
 | nil=>cases al;rfl
 | cons g r ih =>
  cases al with
  | cons h k=>exact ⟨_,_,rfl,yD h,ih k⟩
theorem iE.run {rs:List Rw} {ts:List Tr} {rows:List Hu.Row} (R:iE rs ts rows) (g:List T3):(∃ out,Hu.run g rows []=.rules out/\ts.map (rl g)=out.map some)\/(∃ k t,Hu.run g rows []=.mixed k t)/\∃ x∈ts,rl g x=none:=by
 obtain ⟨gs,_,h,rfl⟩:=R.gr
 exact run_tab g h
theorem tP (t:Tr):∃ ts rows,iE t.rows (ts++[t]) rows/\∀ x∈ts++[t],x∈t.post:=by
 obtain ⟨gs,ts,e,h,hp,_⟩:=AZ t
 exact ⟨ts,_,⟨gs,e,h,rfl⟩,hp⟩
noncomputable def cg (t:Tr):List Hu.Row:=Classical.choose (Classical.choose_spec (tP t))
theorem Bb (t:Tr):∃ ts,iE t.rows (ts++[t]) (cg t)/\∀ x∈ts++[t],x∈t.post:=⟨_,Classical.choose_spec (Classical.choose_spec (tP t))⟩
structure RowsS (t:Tr) (rows:List Hu.Row):Prop where
 ok:jc rows
 pos:0 < rows.length
 len:rows.length<=t.size
 fd:Hu.fds rows<=t.nf
 dat:∀{K:PySem.W.Frag} {H:Hp} {us:List V},bO (RwV H) us t.rows->DatAll K H (rows.map kH) us
 run:∀ g:List T3,(∃ out r,Hu.run g rows []=.rules out/\out.getLast?=some r/\rl g t=some r)\/(∃ k x,Hu.run g rows []=.mixed k x)/\rl g t=none
theorem Ba (t:Tr):t.rows.length<=t.size:=by
 have:=hX t []
 show (t.putR []).1.length<=_
 simpa using this
theorem iC (t:Tr):RowsS t (cg t):=by
 obtain ⟨ts,R,hp⟩:=Bb t
 obtain ⟨l1,l2⟩:=R.len
 have l3:=Ba t
 refine ⟨R.ok,by rw [l1,l2];simp,by omega,?_,λal=>R.dat al,λg=>?_⟩
 ·rw [R.fd]
  have:=nJ t []
  rw [List.countP_nil,Nat.zero_add] at this
  exact this
 ·rcases R.run g with ⟨out,e,q⟩ | ⟨e,x,hx,q⟩
  ·have z:(out.map some).getLast?=some (rl g t):=by rw [<- q,List.map_append];simp
   rw [List.getLast?_map] at z
   cases y:out.getLast? with
   | none=>rw [y] at z;cases z
   | some r=>rw [y] at z;exact .inl ⟨out,r,e,y,(Option.some.inj z).symm⟩
  ·refine .inr ⟨e,?_⟩
   cases y:rl g t with
   | none=>rfl
   | some r=>exact absurd q (rE g t (by rw [y];exact λz=>nomatch z) x (hp x hx))
noncomputable def Az (K:PySem.W.Frag):Sp:=λvs H Q _=>vs=[]/\∀(l:Addr) (us:List V) (H':Hp),aJ H H'->H l=none->H' l=some (.lst us)->DatAll K H' (Hu.sqH.map t3D) us->Q (.ref l) H'
section
variable {P:Program} {w:World} {K:PySem.W.Frag} {mg:Str->Option Value} {base:Heap}
theorem ok_sq (T:aE K mg "square" kG):Def P w K mg base 1 "square" [] (Az K):=by
 refine aO T yI (λ_ _ _ _ _ _=>L2.ar0 rfl) (λvs H Q E h=>?_) (λf cdv A outer s H vs Q E hr h=>?_)
 ·obtain ⟨rfl,_⟩:=h
  rfl
 obtain ⟨rfl,q⟩:=h
 obtain ⟨e,p,he,eq⟩:∃ e p,IsSq e/\aY kG=[.Return (some e) p]:=⟨_,_,⟨_,_,_,_,_,_,_,_,_,_,_,_,_,_,_,_,_,_,_,_,_,_,_,_,_,_,_,_,_,_,_,_,_,rfl⟩,rfl⟩
 rw [eq]
 refine ⟨_,ao (av (pe_sq he)),?_⟩
 refine ⟨(by show 3<=sizeLine;decide),λt1 h1=>⟨(by show 3<=sizeLine;decide),λt2 h2=>⟨(by show 3<=sizeLine;decide),λt3 h3=>⟨(by show 3<=sizeLine;decide),λt4 h4=>⟨(by show 4<=sizeLine;decide),λl h5=>?_⟩⟩⟩⟩⟩
 have u1:=aq h1 (.tup [.int 1,.int 0,.int 0])
 have u2:=aq h2 (.tup [.int 1,.int 1,.int 0])
 have u3:=aq h3 (.tup [.int 1,.int 1,.int 1])
 have u4:=aq h4 (.tup [.int 1,.int 0,.int 1])
 have u5:=aq h5 (.lst [.ref t1,.ref t2,.ref t3,.ref t4])
 refine q l _ _ (u1.trans (u2.trans (u3.trans (u4.trans u5)))) ((u1.trans (u2.trans (u3.trans u4))).free h5) ae ?_
 exact ⟨_,_,rfl,bU (p:=⟨1,0,0⟩) (SqT.of ((u2.trans (u3.trans (u4.trans u5))) _ _ ae)),_,_,rfl,bU (p:=⟨1,1,0⟩) (SqT.of ((u3.trans (u4.trans u5)) _ _ ae)),_,_,rfl,bU (p:=⟨1,1,1⟩) (SqT.of ((u4.trans u5) _ _ ae)),_,_,rfl,bU (p:=⟨1,0,1⟩) (SqT.of (u5 _ _ ae)),rfl⟩
end
end Mine
namespace L2
open PySem
theorem lJ {n:Nat} (h:n<=9000):n < sizeLine:=Nat.lt_of_le_of_lt h (by decide)
end L2
namespace Mine
open PySem L2
noncomputable def HuL (K:PySem.W.Frag) (H:Hp) (N:Addr->Prop) (h:List T3) (v:V):Prop:=∃ a us,v=.ref a/\N a/\H a=some (.lst us)/\DatAll K H (h.map t3D) us
noncomputable def bE (K:PySem.W.Frag) (H:Hp) (N:Addr->Prop):List (List T3)->List V->Prop
 | [],vs=>vs=[]
 | h::hs,vs=>∃ v r,vs=v::r/\HuL K H N h v/\bE K H N hs r
section
variable {K:PySem.W.Frag} {H H':Hp} {N M:Addr->Prop} {h:List T3} {v:V}
theorem HuL.same (g:HuL K H N h v) (s:aJ H H'):HuL K H' N h v:=by
 obtain ⟨a,us,e,n,ha,d⟩:=g
 exact ⟨a,us,e,n,s _ _ ha,d.ts s.ts⟩
theorem HuL.mut (g:HuL K H N h v) {c:Addr} {ws zs:List V} (e:H c=some (.lst ws)) (ne:∀ a,N a->a≠c):HuL K (upd H c (.lst zs)) N h v:=by
 obtain ⟨a,us,e1,n,ha,d⟩:=g
 exact ⟨a,us,e1,n,by rw [au (ne a n)];exact ha,d.ts (cA e)⟩
theorem HuL.imp (g:HuL K H N h v) (z:∀ a,N a->M a):HuL K H M h v:=by
 obtain ⟨a,us,e1,n,ha,d⟩:=g
 exact ⟨a,us,e1,z a n,ha,d⟩
theorem bE.map {H':Hp} {M:Addr->Prop} (f:∀ h v,HuL K H N h v->HuL K H' M h v):∀{hs:List (List T3)} {vs:List V},bE K H N hs vs->bE K H' M hs vs
 | [],_,g=>g
 | _::_,_,⟨v,r,e,g1,g2⟩=>⟨v,r,e,f _ _ g1,bE.map f g2⟩
theorem bE.same {hs:List (List T3)} {vs:List V} (g:bE K H N hs vs) (s:aJ H H'):bE K H' N hs vs:=bE.map (λ_ _ z=>z.same s) g
theorem bE.mut {hs:List (List T3)} {vs:List V} (g:bE K H N hs vs) {c:Addr} {ws zs:List V} (e:H c=some (.lst ws)) (ne:∀ a,N a->a≠c):bE K (upd H c (.lst zs)) N hs vs:=bE.map (λ_ _ z=>z.mut e ne) g
theorem bE.imp {hs:List (List T3)} {vs:List V} (g:bE K H N hs vs) (z:∀ a,N a->M a):bE K H M hs vs:=bE.map (λ_ _ y=>y.imp z) g
theorem bE.len:∀{hs:List (List T3)} {vs:List V},bE K H N hs vs->vs.length=hs.length
 | [],_,g=>by rw [show _=([]:List V) from g];rfl
 | _::_,_,⟨v,r,e,g1,g2⟩=>by rw [e,List.length_cons,List.length_cons,bE.len g2]
theorem bE.app:∀{hs gs:List (List T3)} {vs us:List V},bE K H N hs vs->bE K H N gs us->bE K H N (hs++gs) (vs++us)
 | [],_,_,_,g,z=>by rw [show _=([]:List V) from g];exact z
 | _::_,_,_,_,⟨v,r,e,g1,g2⟩,z=>by subst e;exact ⟨v,_,rfl,g1,bE.app g2 z⟩
theorem bE.one (g:HuL K H N h v):bE K H N [h] [v]:=⟨v,[],rfl,g,rfl⟩
end
section
variable {K:PySem.W.Frag} {H H':Hp} {N M:Addr->Prop} {h:List T3} {v:V}
theorem DatAll.unsnoc:∀{ds:List PyData} {d:PyData} {vs:List V},DatAll K H (ds++[d]) vs->∃ us v,vs=us++[v]/\DatAll K H ds us/\Dat K H d v
 | [],d,vs,⟨x,r,e,g,z⟩=>by
  cases (show r=[] from z)
  exact ⟨[],x,e,rfl,g⟩
 | c::ds,d,vs,⟨x,r,e,g,z⟩=>by
  obtain ⟨us,v,rfl,g1,g2⟩:=DatAll.unsnoc (ds:=ds) z
  exact ⟨x::us,v,e,⟨x,us,rfl,g,g1⟩,g2⟩
theorem bE.unsnoc:∀{hs:List (List T3)} {h:List T3} {vs:List V},bE K H N (hs++[h]) vs->∃ us v,vs=us++[v]/\bE K H N hs us/\HuL K H N h v
 | [],d,vs,⟨x,r,e,g,z⟩=>by
  cases (show r=[] from z)
  exact ⟨[],x,e,rfl,g⟩
 | c::ds,d,vs,⟨x,r,e,g,z⟩=>by
  obtain ⟨us,v,rfl,g1,g2⟩:=bE.unsnoc (hs:=ds) z
  exact ⟨x::us,v,e,⟨x,us,rfl,g,g1⟩,g2⟩
end
theorem qH {us:List V} {v:V}:(us++[v])[(us++[v]).length - 1]?=some v:=by simp
noncomputable abbrev Stk:=List (Hu.Tc×List T3)
noncomputable def tot:Stk->Nat
 | []=>0
 | p::r=>p.1.size+tot r
theorem nE:∀ a b,tot (a++b)=tot a+tot b
 | [],b=>by simp [tot]
 | p::a,b=>by have:=nE a b;simp only [List.cons_append,tot];omega
theorem qW:∀ S:Stk,S.length<=tot S
 | []=>Nat.le_refl _
 | p::r=>by
  have:=qW r
  have:=Hu.Tc.size_pos p.1
  simp only [tot,List.length_cons];omega
noncomputable def xo (K:PySem.W.Frag) (CN:Addr):Sp:=λvs H Q E=>∃(x:V) (t:Hu.Tc),vs=[x]/\Dat K H (tcD t) x/\t.Sm 64/\t.deep<=12/\
 (t.told Hu.sqH=none->∀ H',aJ H H'->E (.ref CN) none H')/\
 (∀ L,t.told Hu.sqH=some L->∀(l:Addr) (us:List V) (H':Hp),aJ H H'->H l=none->H' l=some (.lst us)->bE K H' (λa=>H a=none/\a≠l) L us->Q (.ref l) H')
structure HI (K:PySem.W.Frag) (H H':Hp) (t:Hu.Tc) (lf lt lh:Addr) (m:Nat) (S:Stk) (F:List (List T3)) (fv tv hv:List V):Prop where
 sm:aJ H H'
 ef:H' lf=some (.lst fv)
 et:H' lt=some (.lst tv)
 eh:H' lh=some (.lst hv)
 df:bE K H' (λa=>H a=none/\a≠lf/\a≠lt/\a≠lh) F fv
 dt:DatAll K H' (S.map λp=>tcD p.1) tv
 dh:bE K H' (λa=>H a=none/\a≠lf/\a≠lt/\a≠lh) (S.map (·.2)) hv
 to:t.told Hu.sqH=(Hu.Tc.dP S.reverse).map (F++·)
 ok:∀ p∈S,Hu.HK p.2/\p.1.Sm 64/\p.2.length+p.1.deep<=20
 me:tot S=m
 few:F.length+m<=8900
section
variable {P:Program} {w:World} {K:PySem.W.Frag} {mg:Str->Option Value} {base:Heap}
theorem BU {CN:Addr} (T:aE K mg "hulls_of" jO) (pK:Def P w K mg base 1 "square" [] (Az K)) (Dw:lC P w K mg base 3 "cut" ["hull","rule"] (AJ K CN)):lC P w K mg base 4 "hulls_of" ["tree"] (xo K CN):=by
 refine nP T mM (λ_ _ _ _ _ _=>L2.ar1 λ_=>rfl) (λvs H Q E h=>?_) (λf cdv A outer s H vs Q E hr h=>?_)
 ·obtain ⟨x,t,rfl,_⟩:=h
  rfl
 obtain ⟨x,t,rfl,dx,sm0,dp,kn,kc⟩:=h
 have nd:=mM.nd
 have tsz:=Hu.Tc.size_le (t:=t) (d:=12) dp
 refine ⟨_,(ah (aF (i:=1) nd rfl (Or.inl rfl) (bo ag))
  (ah (aF (i:=2) nd rfl (Or.inl rfl) (bo (aa (pv 0) ag)))
  (ah (aF (i:=3) nd rfl (Or.inl rfl) (bo (aa (gx pK (hr.mono (by decide)) rfl) ag)))
  (ah (kI PassesOwn.leaving (tQ (pv 2) (λ_=>rfl)) (ah (aF (i:=4) nd rfl (Or.inl rfl) (lW PySem.F.plainAttrs_list PySem.F.slot_list_pop PySem.F.type_list_pop rR (pv 2)))
  (ah (aF (i:=5) nd rfl (Or.inl rfl) (lW PySem.F.plainAttrs_list PySem.F.slot_list_pop PySem.F.type_list_pop rR (pv 3)))
  (ao (aM (aC aZ (aw az (pv 4) af (λ_ _=>rfl)) aK (aI _)) (ao (bj (dJ PySem.F.plainAttrs_list PySem.F.slot_list_append PySem.F.type_list_append bh (pv 1) (aa (pv 5) ag)))) (ah (aF (i:=6) nd rfl (Or.inl rfl) (xO Dw (hr.mono (by decide)) rfl (aa (pv 5) (aa (aw az (pv 4) af (λ_ _=>rfl)) ag))))
  (ah (bj (dJ PySem.F.plainAttrs_list PySem.F.slot_list_extend PySem.F.type_list_extend lZ (pv 2) (aa (bo (aa (aw az (pv 4) af (λ_ _=>rfl)) (aa (aw az (pv 4) af (λ_ _=>rfl)) ag))) ag)))
  (ao (bj (dJ PySem.F.plainAttrs_list PySem.F.slot_list_extend PySem.F.type_list_extend lZ (pv 3) (aa (bo (aa (aw az (pv 6) af (λ_ _=>rfl)) (aa (aw az (pv 6) af (λ_ _=>rfl)) ag))) ag)))))))))))
  (ao (av (pv 1))))))),?_⟩
 refine ⟨(by show 0<=sizeLine;decide),λlf hlf=>?_⟩
 refine ⟨_,rfl,(by show 1<=sizeLine;decide),λlt hlt=>?_⟩
 refine ⟨rfl,λl0 us0 H0 s0 f0 hl0 da0=>⟨(by show 1<=sizeLine;decide),λlh hlh=>?_⟩⟩
 have u1:=aq hlf (.lst [])
 have u2:=aq hlt (.lst [x])
 have u3:=aq hlh (.lst [.ref l0])
 have ef0:H0 lf=some (.lst []):=s0 _ _ (u2 _ _ ae)
 have et0:H0 lt=some (.lst [x]):=s0 _ _ ae
 have n1:lf≠lt:=λz=>by subst z;rw [ae] at hlt;cases hlt
 have n2:lf≠lh:=λz=>by subst z;rw [ef0] at hlh;cases hlh
 have n3:lt≠lh:=λz=>by subst z;rw [et0] at hlh;cases hlh
 have n4:l0≠lh:=λz=>by subst z;rw [hl0] at hlh;cases hlh
 have s00:=u1.trans (u2.trans s0)
 have Hlt:H lt=none:=u1.free hlt
 have Hlh:H lh=none:=s00.free hlh
 have n5:l0≠lf:=λz=>by subst z;rw [u2 _ _ ae] at f0;cases f0
 have n6:l0≠lt:=λz=>by subst z;rw [ae] at f0;cases f0
 refine ⟨λm σ H'=>∃ S F fv tv hv,∃(o4 o5 o6:Option V),σ=[some x,some (.ref lf),some (.ref lt),some (.ref lh),o4,o5,o6]/\HI K H H' t lf lt lh m S F fv tv hv,⟨t.size,[(t,Hu.sqH)],[],[],[x],[.ref l0],_,_,_,rfl,?_⟩,?_⟩
 ·refine ⟨s00.trans u3,u3 _ _ ef0,u3 _ _ et0,ae,rfl,?_,?_,?_,?_,?_,?_⟩
  ·exact ⟨x,[],rfl,dx.ts (s00.trans u3).ts,rfl⟩
  ·exact bE.one ⟨l0,us0,rfl,⟨(u1.trans u2).free f0,n5,n6,n4⟩,u3 _ _ hl0,da0.ts u3.ts⟩
  ·show t.told Hu.sqH=(match t.told Hu.sqH,Hu.Tc.dP [] with | some a,some b=>some (a++b) | _,_=>none).map ([]++·)
   cases t.told Hu.sqH with
   | none=>rfl
   | some L=>simp [Hu.Tc.dP]
  ·intro p hp
   rw [List.mem_singleton.mp hp]
   exact ⟨Hu.ko,sm0,by show 4+t.deep<=20;omega⟩
  ·simp [tot]
  ·show 0+t.size<=8900
   omega
 rintro m σ H' ⟨S,F,fv,tv,hv,o4,o5,o6,rfl,I⟩
 refine ⟨_,rfl,_,.inl ⟨tv,SqL.of I.et,rfl⟩,?_⟩
 have lt1:=I.dt.len
 rw [List.length_map] at lt1
 have hfew:=I.few
 have hme:=I.me
 have hlen:=qW S
 rcases List.eq_nil_or_concat S with e | ⟨S',p,e⟩
 ·subst e
  have e2:tv=[]:=List.eq_nil_of_length_eq_zero lt1
  rw [e2]
  refine bM ⟨_,rfl,?_⟩
  have to:=I.to
  simp only [List.reverse_nil,Hu.Tc.dP,Option.map_some,List.append_nil] at to
  exact kc F to lf fv H' I.sm hlf I.ef (I.df.imp λa z=>⟨z.1,z.2.1⟩)
 rw [List.concat_eq_append] at e
 subst e
 obtain ⟨t1,h1⟩:=p
 have dt:=I.dt
 have dh:=I.dh
 rw [List.map_append] at dt dh
 obtain ⟨tv',b,rfl,dt',db⟩:=DatAll.unsnoc dt
 obtain ⟨hv',c,rfl,dh',dc⟩:=bE.unsnoc dh
 have hb:(!(tv'++[b]).isEmpty)=true:=by cases tv' <;> rfl
 rw [hb]
 obtain ⟨hk,hsm,hdp⟩:Hu.HK h1/\t1.Sm 64/\h1.length+t1.deep<=20:=I.ok (t1,h1) (List.mem_append_right _ List.mem_cons_self)
 have hlS:=qW S'
 have ok':∀ q∈S',Hu.HK q.2/\q.1.Sm 64/\q.2.length+q.1.deep<=20:=λq hq=>I.ok q (List.mem_append_left _ hq)
 rw [nE] at hme hlen
 simp only [tot] at hme hlen
 have tp:=Hu.Tc.size_pos t1
 have to:=I.to
 rw [List.reverse_append] at to
 refine dk ⟨fun σ' H''=>∃ m',m' < m/\∃ S F fv tv hv,∃(o4 o5 o6:Option V),σ'=[some x,some (.ref lf),some (.ref lt),some (.ref lh),o4,o5,o6]/\HI K H H'' t lf lt lh m' S F fv tv hv,fun σ' H'' ⟨m',q1,q2⟩=>⟨m',q1,q2⟩,?_⟩
 refine ⟨_,rfl,.inl ⟨rfl,_,SqL.of I.et⟩,lt,_,b,rfl,rfl,I.et,qH,?_⟩
 rw [List.dropLast_concat]
 have eh1:(upd H' lt (.lst tv')) lh=some (.lst (hv'++[c])):=by rw [au (Ne.symm n3)];exact I.eh
 have g1:Tst H' (upd H' lt (.lst tv')):=cA I.et
 refine ⟨_,rfl,.inl ⟨rfl,_,SqL.of eh1⟩,lh,_,c,rfl,rfl,eh1,qH,?_⟩
 rw [List.dropLast_concat]
 have g2:Tst (upd H' lt (.lst tv')) (upd (upd H' lt (.lst tv')) lh (.lst hv')):=cA eh1
 generalize eH2:upd (upd H' lt (.lst tv')) lh (.lst hv')=H2 at g2
 have sm2:aJ H H2:=by rw [<- eH2];exact aT (aT I.sm Hlt _) Hlh _
 have ef2:H2 lf=some (.lst fv):=by rw [<- eH2,au n2,au n1];exact I.ef
 have et2:H2 lt=some (.lst tv'):=by rw [<- eH2,au n3,ae]
 have eh2:H2 lh=some (.lst hv'):=by rw [<- eH2,ae]
 have df2:=(I.df.mut (zs:=tv') I.et λa z=>z.2.2.1).mut (zs:=hv') eh1 λa z=>z.2.2.2
 have dh2:=(dh'.mut (zs:=tv') I.et λa z=>z.2.2.1).mut (zs:=hv') eh1 λa z=>z.2.2.2
 have dc2:=(dc.mut (zs:=tv') I.et λa z=>z.2.2.1).mut (zs:=hv') eh1 λa z=>z.2.2.2
 rw [eH2] at df2 dh2 dc2
 have db2:=(db.ts g1).ts g2
 have dt2:=(dt'.ts g1).ts g2
 have lh1:=dh'.len
 have lf1:=I.df.len
 have lt2:=dt'.len
 rw [List.length_map] at lh1 lt2
 cases t1 with
 | leaf =>
  obtain ⟨a,rfl,sa⟩:=qX db2
  refine ⟨_,rfl,_,_,_,_,rfl,rfl,sa,rfl,rfl,_,rfl,dk ?_⟩
  refine ⟨_,rfl,.inl ⟨rfl,_,SqL.of ef2⟩,_,rfl,lf,fv,_,rfl,rfl,ef2,lJ (by omega),?_⟩
  refine ⟨tot S',by omega,S',F++[h1],fv++[c],tv',hv',_,_,_,rfl,?_⟩
  refine ⟨aT sm2 hlf _,ae,by rw [au (Ne.symm n1)];exact et2,by rw [au (Ne.symm n2)];exact eh2,?_,dt2.ts (cA ef2),dh2.mut ef2 (λa z=>z.2.1),?_,ok',rfl,?_⟩
  ·exact (df2.app (.one dc2)).mut ef2 λa z=>z.2.1
  ·rw [to]
   show (Hu.Tc.dP ((Hu.Tc.leaf,h1)::S'.reverse)).map _=_
   rw [Hu.Tc.vz]
   cases Hu.Tc.dP S'.reverse with
   | none=>rfl
   | some L=>simp
  ·rw [List.length_append]
   simp only [List.length_cons,List.length_nil]
   omega
 | cut r l g =>
  obtain ⟨a,y1,y2,y3,rfl,sa,d1,d2,d3⟩:=vB db2
  refine ⟨_,rfl,_,_,_,_,rfl,rfl,sa,rfl,rfl,_,rfl,bM ?_⟩
  obtain ⟨cc,cu,rfl,cn,hcc,dcc⟩:=dc2
  have ddp:max l.deep g.deep+1+h1.length<=20:=by simp only [Hu.Tc.deep] at hdp;omega
  refine ⟨_,rfl,_,rfl,_,_,_,_,rfl,rfl,sa,rfl,cc,y1,cu,h1,r,rfl,hcc,dcc,d1,hk.hull.mono (by decide) (by omega),hsm.1.mono (by decide),λnc H3 s3=>?_,λnc v H3 s3 cr=>?_⟩
  ·refine kn ?_ H3 (sm2.trans s3)
   rw [to]
   show (Hu.Tc.dP ((Hu.Tc.cut r l g,h1)::S'.reverse)).map _=_
   rw [Hu.Tc.Ak nc]
   rfl
  obtain ⟨pt,pa,pb,w1,w2,rfl,nab,fa,fb,sp,e1,e2,p1,p2⟩:=cr
  have C:=Hu.bQ hk hsm.1 nc
  have cl:=C.ll
  have ch:=C.lh
  refine ⟨_,rfl,.inl ⟨rfl,_,SqL.of (s3 _ _ et2)⟩,_,rfl,_,_,_,_,rfl,rfl,sa.ts s3.ts,rfl,_,rfl,_,_,_,_,rfl,rfl,sa.ts s3.ts,rfl,(by show 2<=sizeLine;decide),λq1 hq1=>?_⟩
  have v1:=aq hq1 (.lst [y3,y2])
  have et4:=v1 _ _ (s3 _ _ et2)
  refine ⟨lt,q1,tv',[y3,y2],rfl,rfl,et4,ae,(by show tv'.length+2<=sizeLine;exact Nat.le_of_lt (lJ (by omega))),?_⟩
  have s34:=s3.trans v1
  generalize eH4:upd H3 q1 (.lst [y3,y2])=H4 at et4 s34
  have g5:Tst H4 (upd H4 lt (.lst (tv'++[y3,y2]))):=cA et4
  have s24:=sm2.trans s34
  have sp4:SqT K H4 pt [.ref pa,.ref pb]:=by rw [<- eH4];exact sp.ts v1.ts
  have ha4:H4 pa=some (.lst w1):=by rw [<- eH4];exact v1 _ _ e1
  have hb4:H4 pb=some (.lst w2):=by rw [<- eH4];exact v1 _ _ e2
  have p14:DatAll K H4 ((Hu.low r h1).map t3D) w1:=by rw [<- eH4];exact p1.ts v1.ts
  have p24:DatAll K H4 ((Hu.high r h1).map t3D) w2:=by rw [<- eH4];exact p2.ts v1.ts
  have ne2:∀ z u,H2 z=some u->∀ k,H2 k=none->k≠z:=λz u h3 k h4 h5=>by rw [h5,h3] at h4;cases h4
  have na:H pa=none/\pa≠lf/\pa≠lt/\pa≠lh:=⟨sm2.free fa,ne2 _ _ ef2 _ fa,ne2 _ _ et2 _ fa,ne2 _ _ eh2 _ fa⟩
  have nb:H pb=none/\pb≠lf/\pb≠lt/\pb≠lh:=⟨sm2.free fb,ne2 _ _ ef2 _ fb,ne2 _ _ et2 _ fb,ne2 _ _ eh2 _ fb⟩
  have eh5':(upd H4 lt (.lst (tv'++[y3,y2]))) lh=some (.lst hv'):=by rw [au (Ne.symm n3)];exact s34 _ _ eh2
  refine ⟨_,rfl,.inl ⟨rfl,_,SqL.of eh5'⟩,_,rfl,_,_,_,_,rfl,rfl,sp4.ts g5,rfl,_,rfl,_,_,_,_,rfl,rfl,sp4.ts g5,rfl,(by show 2<=sizeLine;decide),λq2 hq2=>?_⟩
  have v2:=aq hq2 (.lst [.ref pb,.ref pa])
  have eh5:(upd H4 lt (.lst (tv'++[y3,y2]))) lh=some (.lst hv'):=by rw [au (Ne.symm n3)];exact s34 _ _ eh2
  have ef5:(upd H4 lt (.lst (tv'++[y3,y2]))) lf=some (.lst fv):=by rw [au n1];exact s34 _ _ ef2
  have s25:aJ H (upd H4 lt (.lst (tv'++[y3,y2]))):=aT s24 Hlt _
  have et5:(upd H4 lt (.lst (tv'++[y3,y2]))) lt=some (.lst (tv'++[y3,y2])):=ae
  have df5:=(df2.same s34).mut (zs:=tv'++[y3,y2]) et4 λa z=>z.2.2.1
  have dh5:=(dh2.same s34).mut (zs:=tv'++[y3,y2]) et4 λa z=>z.2.2.1
  have da5:=(show HuL K H4 (λa=>H a=none/\a≠lf/\a≠lt/\a≠lh) (Hu.low r h1) (.ref pa) from ⟨pa,w1,rfl,na,ha4,p14⟩).mut (zs:=tv'++[y3,y2]) et4 λa z=>z.2.2.1
  have db5:=(show HuL K H4 (λa=>H a=none/\a≠lf/\a≠lt/\a≠lh) (Hu.high r h1) (.ref pb) from ⟨pb,w2,rfl,nb,hb4,p24⟩).mut (zs:=tv'++[y3,y2]) et4 λa z=>z.2.2.1
  have dt5:=(dt2.ts s34.ts).ts g5
  have y35:=(d3.ts s34.ts).ts g5
  have y25:=(d2.ts s34.ts).ts g5
  generalize upd H4 lt (.lst (tv'++[y3,y2]))=H5 at *
  have eh6:=v2 _ _ eh5
  refine ⟨lh,q2,hv',[.ref pb,.ref pa],rfl,rfl,eh6,ae,(by show hv'.length+2<=sizeLine;exact Nat.le_of_lt (lJ (by omega))),?_⟩
  have g6:Tst (upd H5 q2 (.lst [.ref pb,.ref pa])) (upd (upd H5 q2 (.lst [.ref pb,.ref pa])) lh (.lst (hv'++[.ref pb,.ref pa]))):=cA eh6
  refine ⟨tot (S'++[(g,Hu.high r h1),(l,Hu.low r h1)]),?_,S'++[(g,Hu.high r h1),(l,Hu.low r h1)],F,fv,tv'++[y3,y2],hv'++[.ref pb,.ref pa],_,_,_,rfl,?_⟩
  ·rw [nE]
   simp only [tot,Hu.Tc.size] at hme ⊢
   omega
  refine ⟨aT (s25.trans v2) Hlh _,by rw [au n2];exact v2 _ _ ef5,by rw [au n3];exact v2 _ _ et5,ae,(df5.same v2).mut eh6 (λa z=>z.2.2.2),?_,?_,?_,?_,rfl,?_⟩
  ·rw [List.map_append]
   exact ((dt5.ts v2.ts).ts g6).append ⟨y3,[y2],rfl,(y35.ts v2.ts).ts g6,y2,[],rfl,(y25.ts v2.ts).ts g6,rfl⟩
  ·rw [List.map_append]
   exact ((dh5.same v2).mut eh6 λa z=>z.2.2.2).app ⟨_,_,rfl,(db5.same v2).mut eh6 (λa z=>z.2.2.2),_,_,rfl,(da5.same v2).mut eh6 (λa z=>z.2.2.2),rfl⟩
  ·rw [to,List.reverse_append]
   show (Hu.Tc.dP ((Hu.Tc.cut r l g,h1)::S'.reverse)).map _=(Hu.Tc.dP ((l,Hu.low r h1)::(g,Hu.high r h1)::S'.reverse)).map _
   rw [Hu.Tc.yC nc]
  ·intro q hq
   rcases List.mem_append.mp hq with z | z
   ·exact ok' q z
   ·rcases List.mem_cons.mp z with z | z
    ·rw [z]
     exact ⟨C.hi,hsm.2.2,by show (Hu.high r h1).length+g.deep<=20;omega⟩
    ·rw [List.mem_singleton.mp z]
     exact ⟨C.lo,hsm.2.1,by show (Hu.low r h1).length+l.deep<=20;omega⟩
  ·rw [nE]
   simp only [tot,Hu.Tc.size] at hme ⊢
   omega
end
theorem zI {K:PySem.W.Frag} {te:TE} {js:List Nat} {σ:St} {H:Hp} {Q:VK} {a b:Addr} {xs ys:List V} (zs:List V) (ha:H a=some (.lst xs)) (hb:H b=some (.lst ys)) (l1:ys.length=xs.length) (l2:zs.length=xs.length) (hx:xs.length<=1000)
  (hs:∀(i:Nat) (x y z:V) (H':Hp) (N:VK),xs[i]?=some x->ys[i]?=some y->zs[i]?=some z->aJ H H'->(∀ t H'',aJ H' H''->H' t=none->H'' t=some (.tup [x,z])->N (.ref t) H'')->te (some x::some y::cw js σ) H' N)
  (hd:∀ D us H',aJ H H'->H D=none->H' D=some (.lst us)->us.length=xs.length->(∀(i:Nat) (x z:V),xs[i]?=some x->zs[i]?=some z->∃ t,us[i]?=some (.ref t)/\H' t=some (.tup [x,z]))->Q (.ref D) H') :
  iK 2 (λ_ H R=>R (ItZ K a b) H) (gTup K 2 (uF (jG 0) (uF (jG 1) gNil))) te js σ H Q:=by
 intro D hD
 have na:a≠D:=aB ha hD
 have nb:b≠D:=aB hb hD
 refine ⟨λi m H'=>m=xs.length - i/\i<=xs.length/\aJ H H'/\∃ us,us.length=i/\H' D=some (.lst us)/\∀(j:Nat) (x z:V),j < i->xs[j]?=some x->zs[j]?=some z->∃ t,us[j]?=some (.ref t)/\H' t=some (.tup [x,z]),⟨xs.length,rfl,Nat.zero_le _,aq hD _,[],rfl,ae,λj x z h=>absurd h (Nat.not_lt_zero _)⟩,?_⟩
 rintro i m H2 ⟨rfl,hi,s2,us,lu,eD,al⟩
 have ea:=s2 _ _ ha
 have eb:=s2 _ _ hb
 by_cases hlt:i < xs.length
 ·have h1:xs[i]?=some xs[i]:=List.getElem?_eq_getElem hlt
  have h2:ys[i]?=some (ys[i]'(by omega)):=List.getElem?_eq_getElem (by omega)
  have h3:zs[i]?=some (zs[i]'(by omega)):=List.getElem?_eq_getElem (by omega)
  refine .inr ⟨⟨xs,ys,_,_,SqL.of ea,SqL.of eb,h1,h2⟩,λo lo v H3 y=>?_⟩
  obtain ⟨T,vs',hT,rfl,rfl,x,y',rfl,q1,q2⟩:=y
  have q1:=q1 xs (SqL.of ea)
  have q2:=q2 ys (SqL.of eb)
  rw [h1] at q1
  rw [h2] at q2
  cases q1
  cases q2
  have uT:=aq hT (.tup [xs[i],ys[i]'(by omega)])
  obtain ⟨o1,o2,rfl⟩:∃ o1 o2,o=[o1,o2]:=by
   match o,lo with
   | [o1,o2],_=>exact ⟨o1,o2,rfl⟩
  refine ⟨T,_,rfl,SqT.of ae,rfl,_,_,rfl,_,_,rfl,rfl,[some xs[i],some (ys[i]'(by omega))],rfl,rfl,?_⟩
  refine hs i _ _ _ _ _ h1 h2 h3 (s2.trans uT) λt H4 s4 ht et=>?_
  have s24:=uT.trans s4
  have eD4:=s24 _ _ eD
  have nt:t≠D:=λz=>by subst z;rw [uT _ _ eD] at ht;cases ht
  refine ⟨us,eD4,Nat.lt_of_le_of_lt (show us.length<=1000 by omega) (by decide),xs.length - (i+1),by omega,rfl,hlt,aT (s2.trans s24) hD _,us++[.ref t],by simp [lu],ae,λj x z hj hxj hzj=>?_⟩
  by_cases ej:j=i
  ·subst ej
   rw [h1] at hxj
   rw [h3] at hzj
   cases hxj
   cases hzj
   exact ⟨t,by rw [<- lu,List.getElem?_concat_length],by rw [au nt];exact et⟩
  ·obtain ⟨t',e1,e2⟩:=al j x z (by omega) hxj hzj
   have nt':t'≠D:=λz=>by subst z;rw [eD] at e2;cases e2
   exact ⟨t',by rw [List.getElem?_append_left (by omega)];exact e1,by rw [au nt'];exact s24 _ _ e2⟩
 ·have ei:i=xs.length:=by omega
  subst ei
  refine .inl ⟨⟨xs,ys,SqL.of ea,SqL.of eb,.inl (Nat.le_refl _)⟩,hd D us H2 s2 hD eD lu λi x z hxi hzi=>al i x z (List.getElem?_eq_some_iff.mp hxi).1 hxi hzi⟩
theorem CZ {K:PySem.W.Frag} {te:TE} {js:List Nat} {σ:St} {H:Hp} {Q:VK} {a:Addr} {vs:List V} (ps:List (V×V)) (bs:List Bool) (ha:H a=some (.lst vs)) (l1:vs.length=ps.length) (l2:bs.length=ps.length) (hx:ps.length<=1000)
  (hv:∀(i:Nat) (p:V×V),ps[i]?=some p->∃ t,vs[i]?=some (.ref t)/\H t=some (.tup [p.1,p.2]))
  (hs:∀(i:Nat) (p:V×V) (b:Bool) (H':Hp) (N:VK),ps[i]?=some p->bs[i]?=some b->aJ H H'->(∀ H'',aJ H' H''->N (.bl b) H'')->te (some p.1::some p.2::cw js σ) H' N)
  (hd:∀ D H',aJ H H'->H D=none->H' D=some (.lst (bs.map V.bl))->Q (.ref D) H') :
  iK 2 (λ_ H R=>R (Itl K a) H) (gTup K 2 (uF (jG 0) (uF (jG 1) gNil))) te js σ H Q:=by
 intro D hD
 have na:a≠D:=aB ha hD
 refine ⟨λi m H'=>m=ps.length - i/\i<=ps.length/\aJ H H'/\H' D=some (.lst ((bs.take i).map V.bl)),⟨ps.length,rfl,Nat.zero_le _,aq hD _,ae⟩,?_⟩
 rintro i m H2 ⟨rfl,hi,s2,eD⟩
 have ea:=s2 _ _ ha
 by_cases hlt:i < ps.length
 ·have h1:ps[i]?=some ps[i]:=List.getElem?_eq_getElem hlt
  have h2:bs[i]?=some (bs[i]'(by omega)):=List.getElem?_eq_getElem (by omega)
  obtain ⟨t,e1,e2⟩:=hv i _ h1
  refine .inr ⟨⟨vs,_,SqL.of ea,e1⟩,λo lo v H3 y=>?_⟩
  obtain ⟨rfl,y⟩:=y
  have ev:=y vs (SqL.of ea)
  rw [e1] at ev
  cases ev
  obtain ⟨o1,o2,rfl⟩:∃ o1 o2,o=[o1,o2]:=by
   match o,lo with
   | [o1,o2],_=>exact ⟨o1,o2,rfl⟩
  refine ⟨t,_,rfl,SqT.of (s2 _ _ e2),rfl,_,_,rfl,_,_,rfl,rfl,[some ps[i].1,some ps[i].2],rfl,rfl,?_⟩
  refine hs i _ _ _ _ h1 h2 s2 λH4 s4=>?_
  refine ⟨_,s4 _ _ eD,Nat.lt_of_le_of_lt (show _<=1000 by rw [List.length_map,List.length_take];omega) (by decide),ps.length - (i+1),by omega,rfl,hlt,aT (s2.trans s4) hD _,?_⟩
  rw [ae,List.take_add_one,h2,List.map_append]
  rfl
 ·have ei:i=ps.length:=by omega
  subst ei
  rw [<- l2,List.take_length] at eD
  exact .inl ⟨⟨vs,SqL.of ea,by omega⟩,hd D H2 s2 hD eD⟩
theorem pD {n:Nat} {wi:TI} {g:TG} {te:TE} {js:List Nat} {σ:St} {H:Hp} {Q:VK} (h:wi σ H λJ H1=>iK n (λ_ H R=>R J H) g te js σ H1 Q):iK n wi g te js σ H Q:=h
theorem cutS (x:V) (us:List V):sv (x::us) (some 1) none=us:=by
 unfold sv
 rw [show _root_.HT.sIx (x::us).length 0 (some 1)=1 from by
  rw [show (some (1:Int))=some ((1:Nat):Int) from rfl,_root_.HT.xF,List.length_cons];omega,_root_.HT.AR]
 show List.take ((x::us).length - 1) us=us
 rw [List.length_cons,Nat.add_sub_cancel,List.take_length]
theorem sl1 {K:PySem.W.Frag} {H:Hp} {a:Addr} {x:V} {us:List V} {Q:VK} (e:H a=some (.tup (x::us))) (h:∀ p,H p=none->Q (.ref p) (upd H p (.tup us))):rSlA K (.ref a) (some 1) none H Q:=by
 refine ⟨a,_,rfl,SqT.of e,λz=>?_,λ_ p=>?_⟩
 ·have hix0:_root_.HT.sIx (x::us).length 0 (some 1)=1:=by
   rw [show (some (1:Int))=some ((1:Nat):Int) from rfl,_root_.HT.xF,List.length_cons];omega
  exact absurd (hix0.symm.trans z) (by decide)
 ·intro hp'
  rw [cutS]
  exact h _ hp'
noncomputable def dj:List Tr->List Rw->List Rw×List Nat
 | [],rs=>(rs,[])
 | t::r,rs=>((dj r (t.putR rs).1).1,(t.putR rs).2::(dj r (t.putR rs).1).2)
theorem jQ (x:Tr):∀(l:List Tr) (rs:List Rw),dj (l++[x]) rs=((x.putR (dj l rs).1).1,(dj l rs).2++[(x.putR (dj l rs).1).2])
 | [],rs=>rfl
 | t::r,rs=>by
  show ((dj (r++[x]) (t.putR rs).1).1,(t.putR rs).2::(dj (r++[x]) (t.putR rs).1).2)=_
  rw [jQ x r]
  rfl
theorem yK (t:Tr) (rs:List Rw):t.putR rs=aP (dj t.kids rs).1 (dU t.word (dj t.kids rs).2):=by cases t <;> rfl
theorem lS:∀(l:List Tr) (rs:List Rw),(dj l rs).1.length<=rs.length+bC l
 | [],rs=>by simp [dj,bC]
 | t::r,rs=>by
  have h1:=hX t rs
  have h2:=lS r (t.putR rs).1
  have e:bC (t::r)=t.size+bC r:=by simp [bC]
  show (dj r (t.putR rs).1).1.length<=_
  omega
theorem oO:∀(l:List Tr) (rs:List Rw),(∀ x∈rs,mv x)->∀ x∈(dj l rs).1,mv x
 | [],rs,h=>h
 | t::r,rs,h=>oO r _ (nI t rs h)
theorem lT:∀(l:List Tr) (rs:List Rw),(dj l rs).2.length=l.length
 | [],rs=>rfl
 | t::r,rs=>congrArg (·+1) (lT r _)
theorem vI (l:List Tr) (i:Nat):bC (l.take i)<=bC l:=by
 have:bC l=bC (l.take i)+bC (l.drop i):=by rw [<- jh,List.take_append_drop]
 omega
noncomputable def AB (K:PySem.W.Frag) (n:Nat):Sp:=λvs H Q _=>∃(a l:Addr) (t:Tr) (rs:List Rw) (us:List V),vs=[.ref a,.ref l]/\Tu H a t/\t.size<=n/\H l=some (.lst us)/\bO (RwV H) us rs/\rs.length+t.size<=1000/\(∀ x∈rs,mv x)/\
 ∀ H' us',SB (.ref l) H H'->H' l=some (.lst us')->bO (RwV H') us' (t.putR rs).1->Q (.int ((t.putR rs).2:Nat)) H'
noncomputable abbrev put46N:List Str:=["_law_tree","_law_rows","_law_row","_law_part_here"]
section
variable {P:Program} {w:World} {K:PySem.W.Frag} {mg:Str->Option Value} {base:Heap} {c:CCs}
theorem oo:aG put46N ["_law_tree","_law_rows"] (ak rq):=L2.fsc rfl (by decide +kernel)
theorem BL (T:aE K mg "_law_put" rq):∀ n:Nat,Def P w K mg base (n+1) "_law_put" ["_law_tree","_law_rows"] (AB K n):=by
 intro n
 induction n with
 | zero =>
  refine aO T oo (λ_ _ _ _ _ _=>L2.ar2 λ_ _=>rfl) (λvs H Q E h=>?_) (λf cdv A outer s H vs Q E hr h=>?_)
  ·obtain ⟨a,l,t,rs,us,rfl,_⟩:=h
   rfl
  ·obtain ⟨a,l,t,rs,us,rfl,_,z,_⟩:=h
   have:=t.size_pos
   omega
 | succ n mD =>
  refine aO T oo (λ_ _ _ _ _ _=>L2.ar2 λ_ _=>rfl) (λvs H Q E h=>?_) (λf cdv A outer s H vs Q E hr h=>?_)
  ·obtain ⟨a,l,t,rs,us,rfl,_⟩:=h
   rfl
  obtain ⟨a,l,t,rs,vs0,rfl,tu,hz,el,rv,hb,rok,q⟩:=h
  have nd:=oo.nd
  have hu:=hr.units
  obtain ⟨us,e,ou⟩:=tu.parts
  refine ⟨_,(ah (aF (i:=2) nd rfl (Or.inl rfl) (aL (aa (aw az (pv 0) af (λ_ _=>rfl)) ag)))
  (ah (fN PassesOwn.never rfl (vP (Bv sl_tupA (pv 0) (po_some af) po_none)) (aW (i:=3) nd rfl (Or.inl rfl)) (ao (aF (i:=2) nd rfl (Or.inl rfl) (aA xR (pv 2) (aL (aa (aD mD (hr.mono (by omega)) rfl (aa (pv 3) (aa (pv 1) ag))) ag))))))
  (ah (aM (aC (yN hu) (pv 2) (pv 1) rfl) (ao (bj (dJ PySem.F.plainAttrs_list PySem.F.slot_list_append PySem.F.type_list_append bh (pv 1) (aa (pv 2) ag)))) aH)
  (ao (av (dJ PySem.F.plainAttrs_list PySem.F.slot_list_index PySem.F.type_list_index (zm hu) (pv 1) (aa (pv 2) ag))))))),?_⟩
  have ksz:=qI t
  have kl:=kT t
  have ul:=ou.len
  refine ⟨_,rfl,_,_,_,_,rfl,rfl,SqT.of e,dD (j:=0) rfl,(by show 1<=sizeLine;decide),λr0 hr00=>?_⟩
  have sr:=aq hr00 (.tup [V.str t.word])
  have er0:upd H r0 (.tup [V.str t.word]) r0=some (.tup [V.str t.word]):=ae
  generalize upd H r0 (.tup [V.str t.word])=Hr at sr er0 ⊢
  refine ⟨_,rfl,_,rfl,?_⟩
  dsimp only [wX]
  refine sl1 (K:=K) (sr _ _ e) λp hp=>?_
  refine ⟨p,rfl,⟨_,SqT.of ae⟩,?_⟩
  have sp:=aq hp (.tup us)
  have ep:upd Hr p (.tup us) p=some (.tup us):=ae
  generalize upd Hr p (.tup us)=H1 at sp ep ⊢
  have s1:=sr.trans sp
  have el1:=s1 _ _ el
  refine for_tup (D:={nx:=_,rt:=Q}) (K:=K) (a:=p) (σ:=[some (.ref a),some (.ref l),some (.ref r0),none]) (H:=H1) (xs:=us) (λi σ H'=>∃(rr:Addr) (o3:Option V) (vs1:List V),σ=[some (.ref a),some (.ref l),some (.ref rr),o3]/\SB (.ref l) H1 H'/\H' rr=some (.tup (.str t.word::(dj (t.kids.take i) rs).2.map λi:Nat=>V.int (i:Int)))/\H' l=some (.lst vs1)/\bO (RwV H') vs1 (dj (t.kids.take i) rs).1)
   ⟨r0,none,vs0,rfl,SB.refl _ _,sp _ _ er0,el1,rv.imp (RwV.to (Kp.of s1))⟩ (λi σ H' _ z=>?_) (λi v σ H' hv z=>?_) (fun σ H' z=>?_)
  ·obtain ⟨_,_,_,_,sb,_⟩:=z
   exact SqT.of (sb _ _ ep λz=>by cases z;rw [ep] at el1;cases el1)
  ·obtain ⟨rr,o3,vs1,rfl,sb,err,elv,rv1⟩:=z
   obtain ⟨x,hx,b,rfl,tb⟩:=ou.get i v hv
   have xm:x∈t.kids:=List.mem_of_getElem? hx
   have xs:=Cu xm
   have kp:Kp H1 H':=sb.kp λa' o' z1 z2=>by cases z1;rw [el1] at z2;cases z2;rfl
   have pl:=lS (t.kids.take i) rs
   have hsn:t.kids.take (i+1)=t.kids.take i++[x]:=by rw [List.take_add_one,hx];rfl
   have st:bC (t.kids.take (i+1))<=bC t.kids:=vI _ _
   have st2:bC (t.kids.take (i+1))=bC (t.kids.take i)+x.size:=by rw [hsn,jh];simp [bC]
   have pc:=lT (t.kids.take i) rs
   have ki:(t.kids.take i).length<=2:=by rw [List.length_take];omega
   refine ⟨_,rfl,_,rfl,_,rfl,b,l,x,(dj (t.kids.take i) rs).1,vs1,rfl,(tb.to (Kp.of s1)).to kp,by omega,elv,rv1,by omega,oO _ _ rok,λH2 vs2 sb2 el2 rv2=>?_⟩
   have err2:=sb2 _ _ err λz=>by cases z;rw [err] at elv;cases elv
   refine ⟨(by show 1<=sizeLine;decide),λp1 hp1=>?_⟩
   have u3:=aq hp1 (.tup [V.int (((x.putR (dj (t.kids.take i) rs).1).2:Nat):Int)])
   refine uQ (K:=K) (u3 _ _ err2) ae (by simp) (by simp only [List.length_cons,List.length_nil,List.length_map];exact Nat.le_trans (show _<=5 by omega) (by decide)) λrw' H4 s4 e4=>?_
   have s24:=u3.trans s4
   refine ⟨rw',_,vs2,rfl,λd o z n=>s24 _ _ (sb2 _ _ (sb _ _ z n) n),?_,s24 _ _ el2,?_⟩
   ·rw [hsn,jQ,List.map_append]
    exact e4
   ·rw [hsn,jQ]
    exact rv2.imp (RwV.to (Kp.of s24))
  ·obtain ⟨rw',o3,vs1,rfl,sb,err,el6,rv6⟩:=z
   rw [ul,List.take_length] at err rv6
   have pl:=lS t.kids rs
   have pc:=lT t.kids rs
   have pok:=oO t.kids rs rok
   have e6':RwV H' (.ref rw') (dU t.word (dj t.kids rs).2):=⟨rw',rfl,by rw [rC];exact err⟩
   have sb06:SB (.ref l) H H':=λd o z n=>sb _ _ (s1 _ _ z) n
   have rv1:=rv6
   have hr0:mv (dU t.word (dj t.kids rs).2):=ir (word_ok t)
   have vl:=rv1.len
   have hput:=yK t rs
   generalize dU t.word (dj t.kids rs).2=r at e6' hr0 hput
   generalize (dj t.kids rs).1=rs1 at *
   refine ⟨_,rfl,_,rfl,rwD r,rs1.map rwD,l,vs1,.inl e6'.dat,rfl,SqL.of el6,RwV.all rv6,rA pok,vK hr0,Nat.le_trans (lQ _) (by decide),_,rfl,?_⟩
   rw [rws_any]
   have fin:∀(H7:Hp) (vs7:List V),SB (.ref l) H H7->H7 l=some (.lst vs7)->bO (RwV H7) vs7 (aP rs1 r).1->RwV H7 (.ref rw') r->∃ j,(aP rs1 r).2=j/\xJ K (.ref l) [.ref rw'] H7 Q:=by
    intro H7 vs7 sb7 el7 rv7 e7
    refine ⟨_,rfl,l,vs7,.ref rw',(aP rs1 r).1.map rwD,rwD r,(aP rs1 r).2,rwD r,rfl,rfl,el7,RwV.all rv7,e7.dat,rA (iw pok hr0),vK hr0,Nat.le_trans (lQ _) (by decide),?_,?_,?_,?_⟩
    ·rw [List.getElem?_map]
     unfold aP
     cases hx0:idx rs1 r with
     | some i=>exact congrArg (Option.map rwD) (wj hx0)
     | none=>show ((rs1++[r])[rs1.length]?).map rwD=_;simp
    ·rw [rB,decide_eq_true rfl]
    ·intro m x hm hx
     rw [List.getElem?_map] at hx
     obtain ⟨y,hy,rfl⟩:=Option.map_eq_some_iff.mp hx
     rw [rB,decide_eq_false_iff_not]
     unfold aP at hm hy
     cases hx0:idx rs1 r with
     | some i=>rw [hx0] at hm hy;exact qN hx0 m y hm hy
     | none =>
      rw [hx0] at hm hy
      have hm':m < rs1.length:=hm
      have hy':rs1[m]?=some y:=by
       have:=hy
       simp only [List.getElem?_append_left hm'] at this
       exact this
      intro z
      subst z
      exact uD hx0 (List.mem_of_getElem? hy')
    ·have:=q H7 vs7 sb7 el7 (by rw [hput];exact rv7)
     rw [hput] at this
     exact this
   cases hx0:idx rs1 r with
   | some i =>
    refine bM ?_
    have hp7:(aP rs1 r).1=rs1:=by unfold aP;rw [hx0]
    obtain ⟨_,_,g⟩:=fin H' vs1 sb06 el6 (by rw [hp7];exact rv6) e6'
    exact ⟨_,rfl,.inl ⟨rfl,_,SqL.of el6⟩,_,rfl,g⟩
   | none =>
    refine dk ?_
    have hp7:(aP rs1 r).1=rs1++[r]:=by unfold aP;rw [hx0]
    refine ⟨_,rfl,.inl ⟨rfl,_,SqL.of el6⟩,_,rfl,l,_,_,rfl,rfl,el6,by rw [vl];exact Nat.lt_of_le_of_lt (show _<=1000 by omega) (by decide),?_⟩
    have km:Kp H' (upd H' l (.lst (vs1++[.ref rw']))):=gQ el6 rfl
    obtain ⟨_,_,g⟩:=fin (upd H' l (.lst (vs1++[.ref rw']))) (vs1++[.ref rw']) (sb06.trans (sb_upd _ _)) ae (by rw [hp7];exact (rv6.imp (RwV.to km)).app (.cons (RwV.to km _ _ e6') .nil)) (RwV.to km _ _ e6')
    exact ⟨_,rfl,.inl ⟨rfl,_,SqL.of ae⟩,_,rfl,g⟩
end
noncomputable def AI:Sp:=λvs H Q _=>∃ i:Int,vs=[.int i]/\i<=8/\Q .non H
noncomputable def AH (C:Addr):Sp:=λvs H _ E=>∃ i:Int,vs=[.int i]/\8 < i/\∀ H',aJ H H'->E (.ref C) none H'
section
variable {P:Program} {w:World} {K:PySem.W.Frag} {mg:Str->Option Value} {base:Heap} {c:CCs}
theorem BW {tm:Tok} (T:aE K mg "must_be_few" fi) (iy:mg "MOST_FOLDS"=some (.int 8 tm)):Def P w K mg base 1 "must_be_few" ["folds"] AI:=by
 refine aO T eC (λ_ _ _ _ _ _=>L2.ar1 λ_=>rfl) (λvs H Q E h=>?_) (λf cdv A outer s H vs Q E hr h=>?_)
 ·obtain ⟨i,rfl,_⟩:=h
  rfl
 obtain ⟨i,rfl,hi,q⟩:=h
 have nd:=eC.nd
 refine ⟨_,ao (aM (aC tV (pv 0) (cG (v:=V.int 8) rfl iy ⟨_,rfl⟩) (aI _)) (ao Br) aH),?_⟩
 refine ⟨_,rfl,_,_,rfl,rfl,_,rfl,bY (λc=>?_) (λ_=>q)⟩
 have c:(8:Int) < i:=of_decide_eq_true c
 exfalso
 omega
theorem ok_fewX {tm:Tok} {bZ:Addr} (T:aE K mg "must_be_few" fi) (iy:mg "MOST_FOLDS"=some (.int 8 tm)) (mw:mg "TooMany"=some (.ref bZ)) (zQ:PySem.W.excIn K bZ bmV "ValueError.__new__"=true):lC P w K mg base 1 "must_be_few" ["folds"] (AH bZ):=by
 refine nP T eC (λ_ _ _ _ _ _=>L2.ar1 λ_=>rfl) (λvs H Q E h=>?_) (λf cdv A outer s H vs Q E hr h=>?_)
 ·obtain ⟨i,rfl,_⟩:=h
  rfl
 obtain ⟨i,rfl,hi,k⟩:=h
 have nd:=eC.nd
 refine ⟨_,(ao (aM (aC tV (pv 0) (cG (v:=V.int 8) rfl iy ⟨_,rfl⟩) (aI _)) (ao (tS rfl mw zQ (aa aK ag))) aH)),?_⟩
 refine ⟨_,rfl,_,_,rfl,rfl,_,rfl,bY (λ_=>?_) (λc=>absurd (decide_eq_true hi) c)⟩
 exact ⟨by decide,k _ (aJ.refl _)⟩
end
noncomputable def HuV (K:PySem.W.Frag) (H:Hp) (v:V) (h:List T3):Prop:=∃(a:Addr) (us:List V),v=.ref a/\H a=some (.lst us)/\DatAll K H (h.map t3D) us
theorem HuV.to {K:PySem.W.Frag} {H H':Hp} (s:aJ H H') (v:V) (h:List T3) (y:HuV K H v h):HuV K H' v h:=by
 obtain ⟨a,us,rfl,e,d⟩:=y
 exact ⟨a,us,rfl,s _ _ e,d.ts s.ts⟩
noncomputable def qg:Sp:=λvs H Q _=>∃(a:Addr) (t:Tr),vs=[.ref a]/\Tu H a t/\t.size<=60/\∀(l:Addr) (us:List V) (H':Hp),aJ H H'->H' l=some (.lst us)->bO (RwV H') us t.rows->Q (.ref l) H'
section
variable {P:Program} {w:World} {K:PySem.W.Frag} {mg:Str->Option Value} {base:Heap} {c:CCs}
theorem om:aG ["_law_tree","_law_rows"] ["_law_tree"] (ak iT):=L2.fsc rfl (by decide +kernel)
theorem vT (T:aE K mg "_law_rows_of" iT) (mD:Def P w K mg base 61 "_law_put" ["_law_tree","_law_rows"] (AB K 60)):Def P w K mg base 62 "_law_rows_of" ["_law_tree"] qg:=by
 refine aO T om (λ_ _ _ _ _ _=>L2.ar1 λ_=>rfl) (λvs H Q E h=>?_) (λf cdv A outer s H vs Q E hr h=>?_)
 ·obtain ⟨a,t,rfl,_⟩:=h
  rfl
 obtain ⟨a,t,rfl,tu,sz,q⟩:=h
 have nd:=om.nd
 refine ⟨_,(ah (aF (i:=1) nd rfl (Or.inl rfl) (bo ag))
  (ah (bj (aD mD (hr.mono (by omega)) rfl (aa (pv 0) (aa (pv 1) ag))))
  (ao (av (pv 1))))),?_⟩
 refine ⟨(by show 0<=sizeLine;decide),λl hl=>?_⟩
 have u1:=aq hl (.lst [])
 refine ⟨_,rfl,_,rfl,a,l,t,[],[],rfl,tu.to (Kp.of u1),sz,ae,.nil,by simp;omega,(λ_ z=>nomatch z),λH2 us' sb el rv=>?_⟩
 exact ⟨_,rfl,q l us' H2 (λb o z=>sb _ _ (u1 _ _ z) λy=>by cases y;rw [hl] at z;cases z) el rv⟩
end
end Mine
namespace L2
open PySem PySem.Spec PyProof.Rows
end L2
namespace Mine
open PySem L2
noncomputable def LeafV (K:PySem.W.Frag) (H:Hp) (v:V) (p:List T3×List T3):Prop:=∃(t a b:Addr) (us ws:List V),v=.ref t/\H t=some (.tup [.ref a,.ref b])/\H a=some (.lst us)/\DatAll K H (p.1.map t3D) us/\H b=some (.lst ws)/\DatAll K H (p.2.map t3D) ws
noncomputable def eG (rows:List Hu.Row):List (List T3)->Option (List (List T3))
 | []=>some []
 | g::r=>match Hu.run g rows [],eG rows r with
  | .rules rs,some o=>some (rs::o)
  | _,_=>none
noncomputable def eO (rows:List Hu.Row) (t:Hu.Tc):Option (List (List T3×List T3)):=match t.told Hu.sqH with
 | none=>none
 | some L=>(eG rows L).map λo=>L.zip o
noncomputable def qh (K:PySem.W.Frag):Sp:=λvs H Q _=>∃(l:Addr) (us:List V) (rows:List Hu.Row) (x:V) (t:Hu.Tc),vs=[.ref l,x]/\H l=some (.lst us)/\DatAll K H (rows.map kH) us/\jc rows/\0 < rows.length/\rows.length<=100/\Dat K H (tcD t) x/\t.Sm 64/\t.deep<=12/\t.bQ<=600/\
 (eO rows t=none->∀ H',aJ H H'->Q .non H')/\
 ∀ o,eO rows t=some o->∀(d:Addr) (ws:List V) (H':Hp),aJ H H'->H' d=some (.lst ws)->bO (LeafV K H') ws o->Q (.ref d) H'
theorem fV:∀{t:Hu.Tc} {h:List T3} {L:List (List T3)},t.told h=some L->L.length=t.bQ+1
 | .leaf,h,L,e=>by cases e;rfl
 | .cut r l g,h,L,e=>by
  unfold Hu.Tc.told at e
  split at e
  ·cases e
  ·cases ea:l.told (Hu.low r h) with
   | none=>rw [ea] at e;cases e
   | some a=>cases eb:g.told (Hu.high r h) with
    | none=>rw [ea,eb] at e;cases e
    | some b =>
     rw [ea,eb] at e
     cases e
     have:=fV ea
     have:=fV eb
     rw [List.length_append]
     show _=1+l.bQ+g.bQ+1
     omega
noncomputable def iG:Hu.Out->Bool
 | .mixed _ _=>true
 | _=>false
noncomputable def ji:Hu.Out->List T3
 | .rules rs=>rs
 | _=>[]
theorem dA (rows:List Hu.Row):∀ L:List (List T3),((L.map λg=>iG (Hu.run g rows [])).any id=true->eG rows L=none)/\((L.map λg=>iG (Hu.run g rows [])).any id=false->eG rows L=some (L.map λg=>ji (Hu.run g rows [])))
 | []=>⟨λz=>by simp at z,λ_=>rfl⟩
 | g::r=>by
  obtain ⟨i1,i2⟩:=dA rows r
  rw [List.map_cons,List.any_cons]
  cases e:Hu.run g rows [] with
  | mixed k t=>exact ⟨λ_=>by unfold eG;rw [e],λz=>by simp [iG] at z⟩
  | rules rs =>
   refine ⟨λz=>?_,λz=>?_⟩
   ·have z':((r.map λg=>iG (Hu.run g rows [])).any id)=true:=by simpa [iG] using z
    unfold eG
    rw [e,i1 z']
   ·have z':((r.map λg=>iG (Hu.run g rows [])).any id)=false:=by simpa [iG] using z
    unfold eG
    rw [e,i2 z',List.map_cons,e]
    rfl
theorem bE.all2 {K:PySem.W.Frag} {H:Hp} {N:Addr->Prop}:∀{L:List (List T3)} {vs:List V},bE K H N L vs->bO (HuV K H) vs L
 | [],_,g=>by cases (show _=([]:List V) from g);exact .nil
 | _::_,_,⟨v,r,e,⟨a,us,e1,_,e2,e3⟩,g2⟩=>by subst e;exact .cons ⟨a,us,e1,e2,e3⟩ g2.all2
noncomputable def qa (K:PySem.W.Frag) (rows:List Hu.Row) (H:Hp) (v:V) (g:List T3):Prop:=∃ a,v=.ref a/\match Hu.run g rows [] with
 | .rules rs=>∃(lr:Addr) (ws:List V),SqT K H a [.str "rules",.ref lr]/\H lr=some (.lst ws)/\DatAll K H (rs.map t3D) ws
 | .mixed k t=>∃ x,SqT K H a [.str "mixed",.int k,x]
theorem qa.to {K:PySem.W.Frag} {rows:List Hu.Row} {H H':Hp} (s:aJ H H') (v:V) (g:List T3) (h:qa K rows H v g):qa K rows H' v g:=by
 obtain ⟨a,rfl,h⟩:=h
 refine ⟨a,rfl,?_⟩
 cases e:Hu.run g rows [] with
 | rules rs =>
  rw [e] at h
  obtain ⟨lr,ws,h1,h2,h3⟩:=h
  exact ⟨lr,ws,h1.ts s.ts,s _ _ h2,h3.ts s.ts⟩
 | mixed k t =>
  rw [e] at h
  obtain ⟨x,h1⟩:=h
  exact ⟨x,h1.ts s.ts⟩
theorem wy {α:Type} {K:PySem.W.Frag} {wi:TI} {te:TE} {js:List Nat} {σ:St} {H:Hp} {Q:VK} {xs:List V} {ts:List α} {R0:Hp->V->α->Prop} {R:Addr->Hp->V->α->Prop} (hR0:∀ H H' v t,aJ H H'->R0 H v t->R0 H' v t) (hR1:∀ D H H' v t,aJ H H'->R D H v t->R D H' v t) (hR:∀ D H ws zs v t,H D=some (.lst ws)->R D H v t->R D (upd H D (.lst zs)) v t) (Src:Addr->Hp->Prop)
  (hwi:∀ R:It->Hp->Prop,(∀ l H,Src l H->R (Itl K l) H)->wi σ H R) (hsrc:∀ l H',Src l H'->H' l=some (.lst xs)/\aJ H H') (hx:xs.length<=1000) (o:bO (R0 H) xs ts)
  (hs:∀ D v t H' (N:VK),t∈ts->aJ H H'->(∃ ys,H' D=some (.lst ys))->R0 H' v t->(∀ v' H'',aJ H' H''->R D H'' v' t->N v' H'')->te (some v::cw js σ) H' N)
  (hd:∀ D ys H',aJ H H'->H D=none->H' D=some (.lst ys)->bO (R D H') ys ts->Q (.ref D) H'):iA wi mK te js σ H Q:=by
 refine mj Src hwi (λl H src=>(hsrc l H src).1) hx (λl D i ys H'=>H D=none/\aJ H H'/\bO (R D H') ys (ts.take i)) (λl H' D src hD=>⟨(hsrc l H' src).2.free hD,(hsrc l H' src).2.trans (aq hD _),.nil⟩) (λl D i v ys H' hv nl el eD h N hN=>?_) (λl D ys H' el eD h=>?_)
 ·obtain ⟨hD,sm,al⟩:=h
  obtain ⟨t,ht,hr⟩:=o.get i v hv
  refine hs D v t H' N (List.mem_of_getElem? ht) sm ⟨_,eD⟩ (hR0 _ _ _ _ sm hr) λv' H'' s2 r=>?_
  have eD2:=s2 _ _ eD
  refine hN _ _ (s2 _ _ el) eD2 ⟨hD,aT (sm.trans s2) hD _,?_⟩
  rw [List.take_succ,ht]
  exact ((al.imp λu t ru=>hR1 D _ _ _ _ s2 ru).app (.cons r .nil)).imp λu t ru=>hR D _ _ _ _ _ eD2 ru
 ·obtain ⟨hD,sm,al⟩:=h
  refine hd D ys H' sm hD eD ?_
  rwa [o.len,List.take_length] at al
noncomputable def nC (K:PySem.W.Frag) (rows:List Hu.Row) (D:Addr) (H:Hp) (v:V) (g:List T3):Prop:=∃ a,v=.ref a/\match Hu.run g rows [] with
 | .rules rs=>∃(lr:Addr) (ws:List V),lr≠D/\SqT K H a [.str "rules",.ref lr]/\H lr=some (.lst ws)/\DatAll K H (rs.map t3D) ws
 | .mixed k t=>∃ x,SqT K H a [.str "mixed",.int k,x]
theorem nC.to {K:PySem.W.Frag} {rows:List Hu.Row} (D:Addr) (H H':Hp) (v:V) (g:List T3) (s:aJ H H') (h:nC K rows D H v g):nC K rows D H' v g:=by
 obtain ⟨a,rfl,h⟩:=h
 refine ⟨a,rfl,?_⟩
 cases e:Hu.run g rows [] with
 | rules rs =>
  rw [e] at h
  obtain ⟨lr,ws,n,h1,h2,h3⟩:=h
  exact ⟨lr,ws,n,h1.ts s.ts,s _ _ h2,h3.ts s.ts⟩
 | mixed k t =>
  rw [e] at h
  obtain ⟨x,h1⟩:=h
  exact ⟨x,h1.ts s.ts⟩
theorem nC.mut {K:PySem.W.Frag} {rows:List Hu.Row} (D:Addr) (H:Hp) (ws zs:List V) (v:V) (g:List T3) (eD:H D=some (.lst ws)) (h:nC K rows D H v g):nC K rows D (upd H D (.lst zs)) v g:=by
 obtain ⟨a,rfl,h⟩:=h
 refine ⟨a,rfl,?_⟩
 have t:Tst H (upd H D (.lst zs)):=cA eD
 cases e:Hu.run g rows [] with
 | rules rs =>
  rw [e] at h
  obtain ⟨lr,ws,n,h1,h2,h3⟩:=h
  exact ⟨lr,ws,n,h1.ts t,by rw [au n];exact h2,h3.ts t⟩
 | mixed k t' =>
  rw [e] at h
  obtain ⟨x,h1⟩:=h
  exact ⟨x,h1.ts t⟩
theorem nC.ans {K:PySem.W.Frag} {rows:List Hu.Row} {D:Addr} {H:Hp} (v:V) (g:List T3) (h:nC K rows D H v g):qa K rows H v g:=by
 obtain ⟨a,rfl,h⟩:=h
 refine ⟨a,rfl,?_⟩
 cases e:Hu.run g rows [] with
 | rules rs =>
  rw [e] at h
  obtain ⟨lr,ws,_,h1⟩:=h
  exact ⟨lr,ws,h1⟩
 | mixed k t' =>
  rw [e] at h
  exact h
theorem BB {K:PySem.W.Frag} {rows:List Hu.Row} {H:Hp} {v:V} {g:List T3} (h:qa K rows H v g):∃ a xs,v=.ref a/\SqT K H a (.str (if iG (Hu.run g rows [])=true then "mixed" else "rules")::xs):=by
 obtain ⟨a,rfl,h⟩:=h
 cases e:Hu.run g rows [] with
 | rules rs =>
  rw [e] at h
  obtain ⟨lr,ws,h1,_⟩:=h
  exact ⟨a,_,rfl,h1⟩
 | mixed k t =>
  rw [e] at h
  obtain ⟨x,h1⟩:=h
  exact ⟨a,_,rfl,h1⟩
theorem sF {α β:Type} {R:α->β->Prop}:∀{vs:List α} {ts:List β},vs.length=ts.length->(∀(i:Nat) (v:α) (t:β),vs[i]?=some v->ts[i]?=some t->R v t)->bO R vs ts
 | [],[],_,_=>.nil
 | v::vs,t::ts,h,k=>.cons (k 0 v t rfl rfl) (sF (by simpa using h) λi v' t' a b=>k (i+1) v' t' (by simpa using a) (by simpa using b))
 | [],_::_,h,_=>by simp at h
 | _::_,[],h,_=>by simp at h
theorem zs_of {K:PySem.W.Frag} {H:Hp} {rows:List Hu.Row}:∀{L:List (List T3)} {ts:List V},bO (qa K rows H) ts L->(L.map λg=>iG (Hu.run g rows [])).any id=false->∃ zs:List V,zs.length=ts.length/\∀(i:Nat) (y:V),ts[i]?=some y->∃ g t lr ws,L[i]?=some g/\y=.ref t/\zs[i]?=some (.ref lr)/\SqT K H t [.str "rules",.ref lr]/\H lr=some (.lst ws)/\DatAll K H ((ji (Hu.run g rows [])).map t3D) ws
 | [],_,al,_=>by cases al;exact ⟨[],rfl,λi y h=>by simp at h⟩
 | g::L,_,al,nm=>by
  cases al with
  | cons h al =>
  rw [List.map_cons,List.any_cons,Bool.or_eq_false_iff] at nm
  obtain ⟨zs,l,k⟩:=zs_of al nm.2
  obtain ⟨a,rfl,h⟩:=h
  cases e:Hu.run g rows [] with
  | mixed k t=>rw [e] at nm;simp [iG] at nm
  | rules rs =>
   rw [e] at h
   obtain ⟨lr,ws,h1,h2,h3⟩:=h
   refine ⟨.ref lr::zs,by simp [l],λi y hy=>?_⟩
   cases i with
   | zero=>cases hy;exact ⟨g,a,lr,ws,rfl,rfl,rfl,h1,h2,by rw [e];exact h3⟩
   | succ i=>simpa using k i y (by simpa using hy)
section
variable {P:Program} {w:World} {K:PySem.W.Frag} {mg:Str->Option Value} {base:Heap}
theorem ok_ril {CN:Addr} (T:aE K mg "rules_in_leaves" bf) (Dm:mg "any"=none) (iD:mg "zip"=none) (sI:mg "NoCut"=some (.ref CN)) (Dy:gn K CN) (su:PySem.W.mroIn K CN (.ref CN)=some true) (wR:lC P w K mg base 4 "hulls_of" ["tree"] (xo K CN)) (fO:Def P w K mg base 4 "rules_of_rows" ["rows","hull"] (rf K)):Def P w K mg base 6 "rules_in_leaves" ["rows","tree"] (qh K):=by
 refine aO T fZ (λ_ _ _ _ _ _=>L2.ar2 λ_ _=>rfl) (λvs H Q E h=>?_) (λf cdv A outer s H vs Q E hr h=>?_)
 ·obtain ⟨l,us,rows,x,t,rfl,_⟩:=h
  rfl
 obtain ⟨l,us,rows,x,t,rfl,el,da,ok,pos,few,dx,sm,dp,cu,q1,q2⟩:=h
 have nd:=fZ.nd
 refine ⟨_,(ah (ps_tryA (i:=2) rfl rfl rfl wR (hr.mono (by decide)) rfl (aa (pv 1) ag) rfl sI Dy nd rfl rfl (λ_=>(ao (av eI))))
  (ah (kJ (i:=3) nd rfl (Or.inl rfl) (Or.inl rfl) rfl rfl (ck (pv 2)) rfl (by decide +kernel) (by decide +kernel) rfl (show ∀ p∈Scope.names _,p.2=NameKind.free->List.lookup p.1 (ak bf).names=some .cell\/List.lookup p.1 (ak bf).names=some .free by decide +kernel) (bP (j:=0) rfl (Or.inl rfl) (by decide +kernel) (Or.inl rfl) cP) (show (["hull","rows"]:List Str).Nodup by decide +kernel) (λ_ _ _ _=>dB) (λ_ _ _ _=>(aD fO (hr.mono (by decide)) rfl (aa (pv 1) (aa (pv 0) ag)))))
  (ah (aM (vN (aR (Di rfl) rfl Dm (by decide +kernel) (aa (eJ rfl (ck (pv 3)) rfl (by decide +kernel) (by decide +kernel) rfl (show ∀ p∈Scope.names _,p.2=NameKind.free->List.lookup p.1 (ak bf).names=some .cell\/List.lookup p.1 (ak bf).names=some .free by decide +kernel) cP (show (["answer"]:List Str).Nodup by decide +kernel) (λ_ _ _ _=>dB) (λ_ _ _ _=>(jn aZ (aw (jq (K:=K) rfl) (pv 0) af (λ_ _=>rfl)) aK (aI _)))) ag))) (ao (av eI)) aH)
  (ao (av (jm (xs:=["hull","answer"]) rfl (pi_zip rfl iD (pv 2) (pv 3)) rfl (by decide +kernel) (by decide +kernel) (show ∀ p∈Scope.names _,p.2=NameKind.free->List.lookup p.1 (ak bf).names=some .cell\/List.lookup p.1 (ak bf).names=some .free by decide +kernel) cP (show (["hull","answer"]:List Str).Nodup by decide +kernel) (λ_ _ _ _=>kK (K:=K) (n:=2) rfl rfl (bx (aW (i:=0) (show (["hull","answer"]:List Str).Nodup by decide +kernel) rfl (Or.inl rfl) (.inr rfl)) (bx (aW (i:=1) (show (["hull","answer"]:List Str).Nodup by decide +kernel) rfl (Or.inl rfl) (.inr rfl)) ft))) (λ_ _ _ _=>(aL (aa (pv 0) (aa (aw (jq (K:=K) rfl) (pv 1) af (λ_ _=>rfl)) ag)))))))))),?_⟩
 refine ⟨_,rfl,x,t,rfl,dx,sm,dp,λnn H1 s1=>⟨CN,rfl,su,?_⟩,λL eL lh us1 H1 s1 f1 e1 al=>?_⟩
 ·exact q1 (by unfold eO;rw [nn]) H1 s1
 have ln:=fV eL
 have hk:=Hu.Tc.jf Hu.ko sm eL
 have a1:=al.all2
 have lu:=a1.len
 dsimp only [jG,tSeq,sR]
 refine wy (K:=K) (xs:=us1) (ts:=L) (R0:=HuV K) (R:=nC K rows) (λH H' v t s h=>HuV.to s v t h) (λD H H' v t s h=>nC.to D H H' v t s h) (λD H ws zs v t e h=>nC.mut D H ws zs v t e h) (λl' H'=>l'=lh/\H'=H1) (λR k=>⟨_,rfl,lh,rfl,⟨_,SqL.of e1⟩,k lh H1 ⟨rfl,rfl⟩⟩) (λl' H' z=>by obtain ⟨rfl,rfl⟩:=z;exact ⟨e1,aJ.refl _⟩) (by omega) a1 (λD v g H2 N hg s2 eD rv hN=>?_) (λD ts H2 s2 hD eD al2=>?_)
 ·obtain ⟨ga,gus,rfl,eg,dg⟩:=rv
  obtain ⟨ys,eD⟩:=eD
  obtain ⟨hkg,gl⟩:=hk g hg
  have n3:=hkg.n3
  have s02:=s1.trans s2
  have gl':g.length<=4+t.deep:=gl
  refine ⟨_,rfl,_,rfl,l,ga,us,gus,rows,g,rfl,s02 _ _ el,da.ts s02.ts,ok,pos,few,eg,dg,λp hp=>(hkg.ok p hp).r.mono (by decide),by omega,by omega,λrs t lr ws H3 s3 ru rb rl f2 st e2 d2=>?_,λk tt t v H3 s3 mx kl bt st dv=>?_⟩
  ·refine hN _ _ s3 ⟨t,rfl,?_⟩
   rw [ru]
   exact ⟨lr,ws,(λz=>by subst z;rw [eD] at f2;cases f2),st,e2,d2⟩
  ·refine hN _ _ s3 ⟨t,rfl,?_⟩
   rw [mx]
   exact ⟨v,st⟩
 have a2:bO (qa K rows H2) ts L:=al2.imp nC.ans
 have lt:=a2.len
 dsimp only [tIfS,tB,tCB,dZ,jH]
 refine comp_map (K:=K) (xs:=ts) (ts:=L) (R:=qa K rows) (λg=>V.bl (iG (Hu.run g rows []))) (λH H' v t s h=>qa.to s v t h) (λl' H'=>l'=D/\H'=H2) (λR k=>⟨_,rfl,D,rfl,⟨_,SqL.of eD⟩,k D H2 ⟨rfl,rfl⟩⟩) (λl' H' z=>by obtain ⟨rfl,rfl⟩:=z;exact ⟨eD,aJ.refl _⟩) (by omega) a2 (λv g H3 N hg rv hN=>?_) (λD3 H3 s3 hD3 e3=>?_)
 ·obtain ⟨a,xs,rfl,sq⟩:=BB rv
  refine ⟨_,rfl,_,_,_,_,rfl,rfl,sq,dD (j:=0) rfl,rfl,?_⟩
  have e:decide (V.str (if iG (Hu.run g rows [])=true then "mixed" else "rules")=V.str "mixed")=iG (Hu.run g rows []):=by
   cases iG (Hu.run g rows []) <;> decide +kernel
  rw [e]
  exact hN _ (aJ.refl _)
 refine ⟨D3,L.map λg=>iG (Hu.run g rows []),rfl,SqL.of (by rw [e3,List.map_map];rfl),_,rfl,bY (λc=>?_) (λc=>?_)⟩
 ·refine q1 ?_ _ ((s1.trans s2).trans s3)
  unfold eO
  rw [eL]
  show (eG rows L).map _=none
  rw [(dA rows L).1 c]
  rfl
 have c:(L.map λg=>iG (Hu.run g rows [])).any id=false:=by simpa using c
 have a3:=a2.imp (qa.to s3)
 obtain ⟨zs,lz,kz⟩:=zs_of a3 c
 have s13:=s2.trans s3
 have e13:=s13 _ _ e1
 have eD3:=s3 _ _ eD
 dsimp only [Au,vC]
 refine pD ?_
 refine ⟨_,rfl,_,rfl,lh,D,rfl,rfl,⟨_,SqL.of e13⟩,⟨_,SqL.of eD3⟩,?_⟩
 refine zI (K:=K) zs e13 eD3 (by omega) (by omega) (by omega) (λi x y z H4 N hx hy hz s4 hN=>?_) (λD5 ws H5 s5 hD5 e5 l5 k5=>?_)
 ·obtain ⟨g,t',lr,w',hg,rfl,hz',sq,e,d⟩:=kz i y hy
  rw [hz] at hz'
  cases hz'
  refine ⟨_,rfl,_,rfl,_,_,_,_,rfl,rfl,sq.ts s4.ts,dD (j:=1) rfl,(by show 2<=sizeLine;decide),λp hp=>?_⟩
  exact hN p _ (aq hp _) hp ae
 refine q2 (L.zip (L.map λg=>ji (Hu.run g rows []))) ?_ D5 ws H5 (((s1.trans s13)).trans s5) e5 ?_
 ·unfold eO
  rw [eL]
  show (eG rows L).map _=_
  rw [(dA rows L).2 c]
  rfl
 ·have a15:=a1.imp (HuV.to (s13.trans s5))
  refine sF (by simp [l5,lu]) λi v p hv hp=>?_
  rw [List.getElem?_zip_eq_some,List.getElem?_map] at hp
  obtain ⟨hg,hp2⟩:=hp
  rw [hg] at hp2
  have hi:i < us1.length:=by rw [lu];exact (List.getElem?_eq_some_iff.mp hg).1
  have h1:us1[i]?=some us1[i]:=List.getElem?_eq_getElem hi
  have h2:ts[i]?=some (ts[i]'(by omega)):=List.getElem?_eq_getElem (by omega)
  obtain ⟨g,t',lr,w',hg',et,hz',sq,e,d⟩:=kz i _ h2
  rw [hg] at hg'
  cases hg'
  obtain ⟨t5,z1,z2⟩:=k5 i _ _ h1 hz'
  rw [hv] at z1
  cases z1
  obtain ⟨g0,hg0,ga,gu,eu,eg,dg⟩:=a15.get i _ h1
  rw [hg] at hg0
  cases hg0
  rw [eu] at z2
  have:p.2=ji (Hu.run p.1 rows []):=(Option.some.inj hp2).symm
  exact ⟨t5,ga,lr,gu,w',rfl,z2,eg,dg,s5 _ _ e,by rw [this];exact d.ts s5.ts⟩
end
theorem xZ {α:Type} {P:Nat->α->Prop}:∀ n:Nat,(∀ i,i < n->∃ x,P i x)->∃ l:List α,l.length=n/\∀(i:Nat) (x:α),l[i]?=some x->P i x
 | 0,_=>⟨[],rfl,λi x h=>by simp at h⟩
 | n+1,h=>by
  obtain ⟨l,hl,k⟩:=xZ n λi hi=>h i (Nat.lt_succ_of_lt hi)
  obtain ⟨x,hx⟩:=h n (Nat.lt_succ_self n)
  refine ⟨l++[x],by simp [hl],λi y hy=>?_⟩
  by_cases e:i < l.length
  ·rw [List.getElem?_append_left e] at hy;exact k i y hy
  ·have:i=l.length:=by
    have:=(List.getElem?_eq_some_iff.mp hy).1
    simp at this
    omega
   subst this
   rw [List.getElem?_concat_length] at hy
   cases hy
   rw [hl]
   exact hx
theorem Dl {f:List T3->Bool}:∀{L:List (List T3)},(L.map f).any id=true->∃ g∈L,f g=true
 | [],h=>by simp at h
 | g::L,h=>by
  rw [List.map_cons,List.any_cons,Bool.or_eq_true] at h
  rcases h with h | h
  ·exact ⟨g,List.mem_cons_self,h⟩
  ·obtain ⟨x,hx,e⟩:=Dl h;exact ⟨x,List.mem_cons_of_mem _ hx,e⟩
theorem no_mx {f:List T3->Bool} {L:List (List T3)} (h:(L.map f).any id=false):∀ g∈L,f g=false:=λg hg=>by
 cases e:f g with
 | false=>rfl
 | true =>
  have:(L.map f).any id=true:=List.any_eq_true.mpr ⟨f g,List.mem_map.mpr ⟨g,hg,rfl⟩,e⟩
  rw [h] at this
  cases this
theorem all_false {f:List T3->Bool} {L:List (List T3)} {g:List T3} (hg:g∈L) (h:f g=false):L.all f=false:=by
 cases e:L.all f with
 | false=>rfl
 | true=>rw [List.all_eq_true.mp e g hg] at h;cases h
theorem uX {α:Type} {f:α->Bool} {L:List α} {i:Nat} {g:α} (h:(L.take i).all f=true) (hg:L[i]?=some g) (k:f g=true):(L.take (i+1)).all f=true:=by
 rw [List.take_add_one,hg,List.all_append,h]
 simp [k]
theorem mn {xs:List V} (h:0 < xs.length):atI xs (-1)=xs[xs.length - 1]?:=by
 unfold atI ixN
 rw [if_neg (by decide),if_pos (by omega)]
 show xs[((-1:Int)+(xs.length:Nat)).toNat]?=_
 congr 1
 omega
noncomputable def FrV (K:PySem.W.Frag) (H:Hp) (v:V) (p:Int×Int):Prop:=∃ a,v=.ref a/\SqT K H a [.int p.1,.int p.2]
theorem FrV.to {K:PySem.W.Frag} {H H':Hp} {v:V} {p:Int×Int} (s:aJ H H') (h:FrV K H v p):FrV K H' v p:=by
 obtain ⟨a,rfl,q⟩:=h
 exact ⟨a,rfl,q.ts s.ts⟩
noncomputable def nl (f:Int×Int) (r p:T3):Bool:=decide (f.1*p.u<=Hu.tl r p*f.2)
noncomputable def hog (a:Tr) (f:Int×Int) (g:List T3):Bool:=match rl g a with
 | some r=>g.all (nl f r)
 | none=>false
noncomputable def ho (a:Tr) (t:Hu.Tc) (f:Int×Int):Bool:=match t.told Hu.sqH with
 | none=>false
 | some L=>L.all (hog a f)
theorem mO {a b:Int} {m n:Nat} (ha:a.natAbs < 2 ^ m) (hb:b.natAbs < 2 ^ n):(a*b).natAbs < 2 ^ (m+n):=by
 rw [Int.natAbs_mul,Nat.pow_add]
 exact Nat.mul_lt_mul'' ha hb
theorem Ap {r p:T3} {m n k:Nat} (hr:Hu.R3 m r) (hp:Hu.R3 n p) (hk:m+n+2<=k):(Hu.tl r p).natAbs < 2 ^ k:=by
 have h1:=mO hr.a hp.b
 have h2:=mO hr.b hp.c
 have h3:=mO hr.c hp.a
 have e:2 ^ (m+n+2)=4*2 ^ (m+n):=by rw [Nat.pow_add];omega
 refine Nat.lt_of_lt_of_le ?_ (Nat.pow_le_pow_right (by decide) hk)
 rw [e]
 show (r.u*p.v+r.v*p.w+r.w*p.u).natAbs < _
 generalize r.u*p.v=x at *
 generalize r.v*p.w=y at *
 generalize r.w*p.u=z at *
 generalize 2 ^ (m+n)=q at *
 omega
theorem Ao {r p:T3} (hr:Hu.R3 3000 r) (hp:Hu.R3 3000 p):Bg (Hu.tl r p):=Ap hr hp (by decide)
theorem rl_b {a:Tr} {g:List T3} {r:T3} (h:rl g a=some r):Hu.R3 a.size r:=by
 have R:=iC a
 rcases R.run g with ⟨out,r',e,e1,e2⟩ | ⟨_,e⟩
 ·rw [h] at e2
  cases e2
  have B:=(Hu.AW (h:=g) (cg a) [] (λi y z=>by simp at z) (λi r z=>by simpa using R.ok i r z)).2 out e
  rw [List.getLast?_eq_getElem?] at e1
  have p:=R.pos
  have l:=R.len
  have b2:=B.2
  simp at b2
  exact (B.1 _ _ e1).mono (by omega)
 ·rw [h] at e;cases e
theorem Be {a:Tr} {g:List T3} {r:T3} (h:rl g a=some r) (sz:a.size<=60):Hu.R3 3000 r:=(rl_b h).mono (by omega)
theorem uC {a:Tr} {t:Hu.Tc} (f:Int×Int) (h:eO (cg a) t=none):ho a t f=false:=by
 unfold eO at h
 unfold ho
 cases e:t.told Hu.sqH with
 | none=>rfl
 | some L =>
  rw [e] at h
  show L.all (hog a f)=false
  cases c:(L.map λg=>iG (Hu.run g (cg a) [])).any id with
  | false =>
   have h:(eG (cg a) L).map _=none:=h
   rw [(dA (cg a) L).2 c] at h
   cases h
  | true =>
   obtain ⟨g,hg,m⟩:=Dl c
   refine all_false hg ?_
   rcases (iC a).run g with ⟨out,x,e1,_⟩ | ⟨_,e2⟩
   ·rw [e1] at m;cases m
   ·unfold hog
    rw [e2]
theorem rX {a:Tr} {t:Hu.Tc} (f:Int×Int) (sm:t.Sm 64) {o:List (List T3×List T3)} (h:eO (cg a) t=some o):o.length=t.bQ+1/\∃ bs:List Bool,bs.length=o.length/\ho a t f=bs.all id/\∀(i:Nat) (p:List T3×List T3),o[i]?=some p->∃ r,p.2.getLast?=some r/\rl p.1 a=some r/\Hu.HK p.1/\p.1.length<=4+t.deep/\bs[i]?=some (p.1.all (nl f r)):=by
 unfold eO at h
 cases e:t.told Hu.sqH with
 | none=>rw [e] at h;cases h
 | some L =>
  rw [e] at h
  have ln:=fV e
  have hk:=Hu.Tc.jf Hu.ko sm e
  have h:(eG (cg a) L).map _=some o:=h
  cases c:(L.map λg=>iG (Hu.run g (cg a) [])).any id with
  | true=>rw [(dA (cg a) L).1 c] at h;cases h
  | false =>
   rw [(dA (cg a) L).2 c] at h
   have h:L.zip (L.map λg=>ji (Hu.run g (cg a) []))=o:=Option.some.inj h
   subst h
   refine ⟨by simp [ln],L.map (hog a f),by simp,?_,λi p hp=>?_⟩
   ·unfold ho
    rw [e]
    show L.all (hog a f)=_
    rw [List.all_map]
    rfl
   ·rw [List.getElem?_zip_eq_some,List.getElem?_map] at hp
    obtain ⟨hg,hp2⟩:=hp
    rw [hg] at hp2
    have e2:p.2=ji (Hu.run p.1 (cg a) []):=(Option.some.inj hp2).symm
    have nm:=no_mx c p.1 (List.mem_of_getElem? hg)
    obtain ⟨k1,k2⟩:=hk p.1 (List.mem_of_getElem? hg)
    rcases (iC a).run p.1 with ⟨out,x,e1,x1,x2⟩ | ⟨⟨k,z,e1⟩,_⟩
    ·rw [e1] at e2
     refine ⟨x,by rw [e2];exact x1,x2,k1,k2,?_⟩
     rw [List.getElem?_map,hg]
     show some (hog a f p.1)=_
     unfold hog
     rw [x2]
    ·rw [e1] at nm;cases nm
noncomputable def spAt (K:PySem.W.Frag):Sp:=λvs H Q _=>∃(x y z:V) (r p:T3) (f:Int×Int),vs=[x,y,z]/\Dat K H (t3D r) x/\Dat K H (t3D p) y/\Hu.R3 3000 r/\Hu.R3 3000 p/\FrV K H z f/\Bg f.1/\Bg f.2/\Q (.bl (nl f r p)) H
noncomputable def spOn (K:PySem.W.Frag):Sp:=λvs H Q _=>∃(x:V) (l:Addr) (z:V) (us:List V) (r:T3) (h:List T3) (f:Int×Int),vs=[x,.ref l,z]/\Dat K H (t3D r) x/\H l=some (.lst us)/\DatAll K H (h.map t3D) us/\Hu.R3 3000 r/\(∀ p∈h,Hu.R3 3000 p)/\h.length<=900/\FrV K H z f/\Bg f.1/\Bg f.2/\∀ H',aJ H H'->Q (.bl (h.all (nl f r))) H'
noncomputable def spHo (c:CCs) (K:PySem.W.Frag):Sp:=λvs H Q _=>∃(x:Addr) (z lf:V) (a:Tr) (t:Hu.Tc) (f:Int×Int),vs=[.ref x,z,lf]/\Ob c H x a/\a.size<=60/\a.nf<=8/\Dat K H (tcD t) z/\t.Sm 64/\t.deep<=12/\t.bQ<=600/\FrV K H lf f/\Bg f.1/\Bg f.2/\∀ H',aJ H H'->Q (.bl (ho a t f)) H'
noncomputable def spHoX (c:CCs) (C:Addr):Sp:=λvs H _ E=>∃(x:Addr) (z lf:V) (a:Tr),vs=[.ref x,z,lf]/\Ob c H x a/\a.size<=900/\8 < a.nf/\∀ H',aJ H H'->E (.ref C) none H'
section
variable {P:Program} {w:World} {K:PySem.W.Frag} {mg:Str->Option Value} {base:Heap} {c:CCs}
theorem ok_at (T:aE K mg "is_no_less_at" fL) (mB:Def P w K mg base 1 "told_by" ["rule","point"] (sW K)):Def P w K mg base 2 "is_no_less_at" ["rule","corner","least"] (spAt K):=by
 refine aO T gZ (λ_ _ _ _ _ _=>L2.ar3 λ_ _ _=>rfl) (λvs H Q E h=>?_) (λf cdv A outer s H vs Q E hr h=>?_)
 ·obtain ⟨x,y,z,r,p,f,rfl,_⟩:=h
  rfl
 obtain ⟨x,y,z,r,p,fr,rfl,dx,dy,br,bp,⟨za,rfl,sz⟩,b1,b2,q⟩:=h
 have nd:=gZ.nd
 obtain ⟨ap,rfl,st⟩:=eA dy
 refine ⟨_,(ao (av (jn qB (aA bg (aD mB (hr.mono (by decide)) rfl (aa (pv 0) (aa (pv 1) ag))) (aw az (pv 2) af (λ_ _=>rfl))) (aA bg (aw az (pv 2) af (λ_ _=>rfl)) (aw az (pv 1) af (λ_ _=>rfl))) (aI _)))),?_⟩
 refine ⟨_,rfl,_,rfl,x,.ref ap,r,p,rfl,dx,dy,br,bp,?_⟩
 exact ⟨_,rfl,_,_,_,_,rfl,rfl,sz,rfl,_,_,rfl,rfl,dW (Ao br bp) b2,_,rfl,_,_,_,_,rfl,rfl,sz,rfl,_,rfl,_,_,_,_,rfl,rfl,st,rfl,_,_,rfl,rfl,dW b1 (r3b bp).1,_,_,rfl,rfl,q⟩
theorem ok_on47 (T:aE K mg "is_no_less_on" cS) (qV:mg "all"=none) (nB:Def P w K mg base 2 "is_no_less_at" ["rule","corner","least"] (spAt K)):Def P w K mg base 3 "is_no_less_on" ["rule","hull","least"] (spOn K):=by
 refine aO T gY (λ_ _ _ _ _ _=>L2.ar3 λ_ _ _=>rfl) (λvs H Q E h=>?_) (λf cdv A outer s H vs Q E hr h=>?_)
 ·obtain ⟨x,l,z,us,r,h,f,rfl,_⟩:=h
  rfl
 obtain ⟨x,l,z,us,r,h,fr,rfl,dx,el,da,br,bp,hl,fv,b1,b2,q⟩:=h
 have nd:=gY.nd
 have lu:=fJ da
 refine ⟨_,(ao (av (aR (uS rfl) rfl qV (by decide +kernel) (aa (eJ rfl (ck (pv 1)) rfl (by decide +kernel) (by decide +kernel) rfl (show ∀ p∈Scope.names _,p.2=NameKind.free->List.lookup p.1 (ak cS).names=some .cell\/List.lookup p.1 (ak cS).names=some .free by decide +kernel) (bP (j:=0) rfl (Or.inl rfl) (by decide +kernel) (Or.inl rfl) (bP (j:=2) rfl (Or.inl rfl) (by decide +kernel) (Or.inl rfl) cP)) (show (["corner","rule","least"]:List Str).Nodup by decide +kernel) (λ_ _ _ _=>dB) (λ_ _ _ _=>(aD nB (hr.mono (by decide)) rfl (aa (pv 1) (aa (pv 0) (aa (pv 2) ag)))))) ag)))),?_⟩
 have a1:bO (λv p=>aJ H H/\Dat K H (t3D p) v) us h:=sF lu λi v p hv hp=>by
  obtain ⟨p',hp',d⟩:=lG da hv
  rw [hp] at hp'
  cases hp'
  exact ⟨aJ.refl _,d⟩
 dsimp only [vC,tCB,dZ,jH]
 refine comp_map (K:=K) (xs:=us) (ts:=h) (R:=λH' v p=>aJ H H'/\Dat K H' (t3D p) v) (λp=>V.bl (nl fr r p)) (λH H' v t s h=>⟨h.1.trans s,h.2.ts s.ts⟩) (λl' H'=>l'=l/\H'=H) (λR k=>⟨_,rfl,l,rfl,⟨_,SqL.of el⟩,k l H ⟨rfl,rfl⟩⟩) (λl' H' z=>by obtain ⟨rfl,rfl⟩:=z;exact ⟨el,aJ.refl _⟩) (by omega) a1 (λv p H3 N hp rv hN=>?_) (λD3 H3 s3 hD3 e3=>?_)
 ·obtain ⟨s3,d3⟩:=rv
  exact ⟨_,rfl,_,rfl,_,rfl,x,v,z,r,p,fr,rfl,dx.ts s3.ts,d3,br,bp p hp,fv.to s3,b1,b2,hN _ (aJ.refl _)⟩
 ·refine ⟨D3,h.map (nl fr r),rfl,SqL.of (by rw [e3,List.map_map];rfl),?_⟩
  have e:(h.map (nl fr r)).all id=h.all (nl fr r):=by rw [List.all_map];rfl
  rw [e]
  exact q _ s3
theorem ok_holds (T : aE K mg "holds" s_holds) (qV : mg "all" = none) (GF : ∀ t, bw P w K mg base (c.of t) "folds" 3 ["self"] (iN c t)) (dR : Def P w K mg base 1 "must_be_few" ["folds"] AI) (mC : Def P w K mg base 3 "rows_of" ["saying"] (nX c)) (lD : Def P w K mg base 6 "rules_in_leaves" ["rows", "tree"] (qh K)) (nA : Def P w K mg base 3 "is_no_less_on" ["rule", "hull", "least"] (spOn K)) : Def P w K mg base 8 "holds" ["saying", "tree", "least"] (spHo c K) := by
 refine aO T sc_holds (fun _ _ _ _ _ _ => L2.ar3 fun _ _ _ => rfl) (fun vs H Q E h => ?_) (fun f cdv A outer s H vs Q E hr h => ?_)
 ·obtain ⟨x,z,lf,a,t,f,rfl,_⟩:=h
  rfl
 obtain ⟨x,z,lf,a,t,fr,rfl,oa,sz,n8,dz,sm,dp,cu,fv,b1,b2,q⟩:=h
 have nd := sc_holds.nd
 have hu:=hr.units
 have R:=iC a
 have rl1:=R.len
 obtain ⟨dx,fs,ea,nf⟩:=oa.cls
 refine ⟨_,(ah (bj (aD dR (hr.mono (by decide)) rfl (aa (cT (k:=3) (pv 0) (hr.mono (by omega))) ag)))
  (ah (aF (i:=3) nd rfl (Or.inl rfl) (aD lD (hr.mono (by decide)) rfl (aa (aD mC (hr.mono (by omega)) rfl (aa (pv 0) ag)) (aa (pv 1) ag))))
  (ah (aM (aC jR (pv 3) eI (aI _)) (ao (av jF)) aH)
  (ao (av (aR (uS rfl) rfl qV (by decide +kernel) (aa (jm (xs := ["hull", "rules"]) rfl (ck (pv 3)) rfl (by decide +kernel) (by decide +kernel) (show ∀ p ∈ Scope.names _, p.2 = NameKind.free → List.lookup p.1 (ak s_holds).names = some .cell ∨ List.lookup p.1 (ak s_holds).names = some .free by decide +kernel) (bP (j := 2) rfl (Or.inl rfl) (by decide +kernel) (Or.inl rfl) cP) (show (["hull", "rules", "least"] : List Str).Nodup by decide +kernel) (fun _ _ _ _ => kK (K := K) (n := 2) rfl rfl (bx (aW (i := 0) (show (["hull", "rules", "least"] : List Str).Nodup by decide +kernel) rfl (Or.inl rfl) (.inr rfl)) (bx (aW (i := 1) (show (["hull", "rules", "least"] : List Str).Nodup by decide +kernel) rfl (Or.inl rfl) (.inr rfl)) ft))) (fun _ _ _ _ => (aD nA (hr.mono (by decide)) rfl (aa (aw (Cw (K := K) rfl) (pv 1) (jE gM af) (fun _ _ => rfl)) (aa (pv 0) (aa (pv 2) ag)))))) ag))))))), ?_⟩
 refine ⟨_,rfl,x,_,_,_,_,_,rfl,ea,nf _ (by decide +kernel),GF a,x,rfl,oa,by omega,λH1 s1=>⟨_,rfl,by omega,?_⟩⟩
 refine ⟨_,rfl,x,a,rfl,oa.to (Kp.of s1),by omega,λlr us H3 s3 hlr el al=>?_⟩
 have s13:=s1.trans s3
 refine ⟨_,rfl,lr,us,cg a,z,t,rfl,el,R.dat al,R.ok,R.pos,by omega,dz.ts s13.ts,sm,dp,cu,λnn H4 s4=>?_,λo eo d ws H4 s4 ed al4=>?_⟩
 ·refine ⟨_,rfl,rfl,_,rfl,dk ?_⟩
  have e:=uC fr nn
  have q:=q H4 (s13.trans s4)
  rw [e] at q
  exact q
 ·refine ⟨_,rfl,rfl,_,rfl,bM ?_⟩
  obtain ⟨lo,bs,lb,eb,kb⟩:=rX fr sm eo
  have lw:=al4.len
  have pr:∀(i:Nat) (p:List T3×List T3),o[i]?=some p->∃(tt a b:Addr) (us ws':List V),ws[i]?=some (.ref tt)/\H4 tt=some (.tup [.ref a,.ref b])/\H4 a=some (.lst us)/\DatAll K H4 (p.1.map t3D) us/\H4 b=some (.lst ws')/\DatAll K H4 (p.2.map t3D) ws':=λi p hp=>by
   have hi:i < ws.length:=by rw [lw];exact (List.getElem?_eq_some_iff.mp hp).1
   have h1:ws[i]?=some ws[i]:=List.getElem?_eq_getElem hi
   obtain ⟨p',hp',tt,a,b,us,ws',ev,e1,e2,e3,e4,e5⟩:=al4.get i _ h1
   rw [hp] at hp'
   cases hp'
   exact ⟨tt,a,b,us,ws',by rw [h1,ev],e1,e2,e3,e4,e5⟩
  obtain ⟨ps,lp,kp⟩:=xZ (P:=λi (q:V×V)=>∀ p,o[i]?=some p->∃(tt a b:Addr) (us ws':List V),ws[i]?=some (.ref tt)/\H4 tt=some (.tup [q.1,q.2])/\q=(.ref a,.ref b)/\H4 a=some (.lst us)/\DatAll K H4 (p.1.map t3D) us/\H4 b=some (.lst ws')/\DatAll K H4 (p.2.map t3D) ws') o.length (λi hi=>by
   obtain ⟨tt,a,b,us,ws',h1,h2,h3,h4,h5,h6⟩:=pr i _ (List.getElem?_eq_getElem hi)
   exact ⟨(.ref a,.ref b),λp hp=>by rw [List.getElem?_eq_getElem hi] at hp;cases hp;exact ⟨tt,a,b,us,ws',h1,h2,rfl,h3,h4,h5,h6⟩⟩)
  have at_o:∀{i:Nat} {q:V×V},ps[i]?=some q->∃ p,o[i]?=some p:=λ{i q} h=>by
   have hi:i < o.length:=by rw [<- lp];exact (List.getElem?_eq_some_iff.mp h).1
   exact ⟨_,List.getElem?_eq_getElem hi⟩
  dsimp only [Au,vC,tCB,dZ,jH]
  refine pD ?_
  refine ⟨_,rfl,d,rfl,⟨_,SqL.of ed⟩,?_⟩
  refine CZ (K:=K) ps bs ed (by omega) (by omega) (by omega) (λi q hq=>?_) (λi q b' H5 N hq hb' s5 hN=>?_) (λD5 H5 s5 hD5 e5=>?_)
  ·obtain ⟨p,hp⟩:=at_o hq
   obtain ⟨tt,a,b,us,ws',h1,h2,_⟩:=kp i q hq p hp
   exact ⟨tt,h1,h2⟩
  ·obtain ⟨p,hp⟩:=at_o hq
   obtain ⟨tt,a2,b2',us',ws',h1,h2,rfl,h4,h5,h6,h7⟩:=kp i q hq p hp
   obtain ⟨r,r1,r2,hk,pl,e1⟩:=kb i p hp
   rw [hb'] at e1
   cases e1
   have lw':=fJ h7
   rw [List.getLast?_eq_getElem?,<- lw'] at r1
   obtain ⟨vx,hvx,dvx⟩:=iL (h7.ts s5.ts) r1
   have s35:=s13.trans (s4.trans s5)
   have hpos:0 < ws'.length:=Nat.lt_of_le_of_lt (Nat.zero_le _) (List.getElem?_eq_some_iff.mp hvx).1
   refine ⟨_,rfl,_,rfl,_,_,_,_,rfl,rfl,SqL.of (s5 _ _ h6),(by rw [mn hpos];exact hvx),_,rfl,_,rfl,vx,a2,lf,us',r,p.1,fr,rfl,dvx,s5 _ _ h4,h5.ts s5.ts,Be r2 sz,λp' hp'=>(hk.ok p' hp').r.mono (by decide),by omega,fv.to s35,b1,b2,λH6 s6=>hN _ s6⟩
  ·refine ⟨D5,bs,rfl,SqL.of e5,?_⟩
   rw [<- eb]
   exact q H5 ((s13.trans s4).trans s5)
theorem ok_hoX {bZ : Addr} (T : aE K mg "holds" s_holds) (GF : ∀ t, bw P w K mg base (c.of t) "folds" 3 ["self"] (iN c t)) (dR : lC P w K mg base 1 "must_be_few" ["folds"] (AH bZ)) : lC P w K mg base 8 "holds" ["saying", "tree", "least"] (spHoX c bZ) := by
 refine nP T sc_holds (fun _ _ _ _ _ _ => L2.ar3 fun _ _ _ => rfl) (fun vs H Q E h => ?_) (fun f cdv A outer s H vs Q E hr h => ?_)
 ·obtain ⟨x,z,lf,a,rfl,_⟩:=h
  rfl
 obtain ⟨x,z,lf,a,rfl,oa,sz,n8,k⟩:=h
 have nd := sc_holds.nd
 obtain ⟨dx,fs,ea,nf⟩:=oa.cls
 refine ⟨_,ah (bj (xO dR (hr.mono (by omega)) rfl (aa (cT (k:=3) (pv 0) (hr.mono (by omega))) ag))) (show PSs _ _ tDead from λ_ _ _ _ _ _ h=>h.elim),?_⟩
 exact ⟨_,rfl,x,_,_,_,_,_,rfl,ea,nf _ (by decide +kernel),GF a,x,rfl,oa,by omega,λH1 s1=>⟨_,rfl,by omega,λH3 s3=>k H3 (s1.trans s3)⟩⟩
end
namespace Hu
noncomputable def co (p:T3) (k:Nat):Int:=if k=0 then p.u else if k=1 then p.v else p.w
end Hu
theorem co_at {K:PySem.W.Frag} {H:Hp} {p:T3} {a:Addr} (s:SqT K H a [.int p.u,.int p.v,.int p.w]) {k:Nat} (hk:k < 3):atI [V.int p.u,.int p.v,.int p.w] ((0:Int)+(k:Nat))=some (.int (Hu.co p k)):=by
 rcases (by omega:k=0\/k=1\/k=2) with rfl | rfl | rfl <;> rfl
section
variable {P:Program} {w:World} {K:PySem.W.Frag} {mg:Str->Option Value} {base:Heap}
end
section
variable {P:Program} {w:World} {K:PySem.W.Frag} {mg:Str->Option Value} {base:Heap}
end
noncomputable def sg (s:Int) (p q:T3):T3:=⟨p.u+s*q.u,p.v+s*q.v,p.w+s*q.w⟩
theorem AL (p q:T3):sg 1 p q=Hu.pl p q:=by simp only [sg,Hu.pl,Int.one_mul]
theorem qk (p q:T3):sg (-1) p q=Hu.mi p q:=by
 simp only [sg,Hu.mi,T3.mk.injEq]
 omega
theorem sg_co (s:Int) (p q:T3) (k:Nat):Hu.co (sg s p q) k=Hu.co p k+s*Hu.co q k:=by
 unfold Hu.co sg
 split
 ·rfl
 ·split <;> rfl
theorem r3co {q:T3} (h:Hu.R3 3000 q) (k:Nat):Bg (Hu.co q k):=by
 obtain ⟨a,b,c⟩:=r3b h
 unfold Hu.co
 split
 ·exact a
 ·split
  ·exact b
  ·exact c
noncomputable def AK (K:PySem.W.Frag):Sp:=λvs H Q _=>∃(x y:V) (p q:T3) (s:Int),vs=[x,y,.int s]/\Dat K H (t3D p) x/\Dat K H (t3D q) y/\(s=1\/s = -1)/\Hu.R3 3000 q/\∀(t:Addr) (H':Hp),aJ H H'->Dat K H' (t3D (sg s p q)) (.ref t)->Q (.ref t) H'
noncomputable def xk (K:PySem.W.Frag):Sp:=λvs H Q _=>∃(k:Nat) (x y:V) (a b:T3),vs=[.str (fw k),x,y]/\k < 5/\Dat K H (t3D a) x/\Dat K H (t3D b) y/\Hu.R3 2000 a/\Hu.R3 2000 b/\∀(v:V) (H':Hp),aJ H H'->Ch K H' (Hu.fch k a b) v->Q v H'
section
variable {P:Program} {w:World} {K:PySem.W.Frag} {mg:Str->Option Value} {base:Heap}
theorem Cc (T:aE K mg "_law_added" hV) (jw:mg "range"=none) (bI:mg "tuple"=none):Def P w K mg base 1 "_law_added" ["_law_one","_law_other","_law_sign"] (AK K):=by
 refine aO T oC (λ_ _ _ _ _ _=>ar3 λ_ _ _=>rfl) (λvs H Q E h=>?_) (λf cdv A outer s H vs Q E hr h=>?_)
 ·obtain ⟨x,y,p,q,s,rfl,_⟩:=h
  rfl
 obtain ⟨x,y,p,q,sn,rfl,dx,dy,hs,bq,k⟩:=h
 obtain ⟨ax,rfl,sx⟩:=eA dx
 obtain ⟨ay,rfl,sy⟩:=eA dy
 have nd:=oC.nd
 have bs:Bg sn:=bL (n:=1) (by rcases hs with rfl | rfl <;> decide) (by decide)
 refine ⟨_,(ao (av (cC bV rfl bI (by decide +kernel) (aa (eJ rfl (qy rfl jw (dM ag)) rfl (by decide +kernel) (by decide +kernel) rfl (show ∀ p∈Scope.names _,p.2=NameKind.free->List.lookup p.1 (ak hV).names=some .cell\/List.lookup p.1 (ak hV).names=some .free by decide +kernel) (bP (j:=0) rfl (Or.inl rfl) (by decide +kernel) (Or.inl rfl) (bP (j:=2) rfl (Or.inl rfl) (by decide +kernel) (Or.inl rfl) (bP (j:=1) rfl (Or.inl rfl) (by decide +kernel) (Or.inl rfl) cP))) (show (["_law_k","_law_one","_law_sign","_law_other"]:List Str).Nodup by decide +kernel) (λ_ _ _ _=>dB) (λ_ _ _ _=>(aA bR (aw (jq (K:=K) rfl) (pv 1) (pv 0) (λ_ _=>rfl)) (aA bg (pv 2) (aw (jq (K:=K) rfl) (pv 3) (pv 0) (λ_ _=>rfl)))))) ag)))),?_⟩
 refine ⟨_,rfl,by decide,by decide,λD hD=>?_⟩
 refine ⟨λi m H2=>m=3 - i/\i<=3/\aJ H H2/\H2 D=some (.lst ((List.range i).map λk=>V.int (Hu.co (sg sn p q) k))),⟨_,rfl,Nat.zero_le _,aq hD _,ae⟩,?_⟩
 rintro i m H2 ⟨rfl,hi,sm,hlD⟩
 have sx2:=sx.ts sm.ts
 have sy2:=sy.ts sm.ts
 by_cases hlt:i < 3
 ·refine .inr ⟨hlt,λv H3 y=>?_⟩
  obtain ⟨rfl,rfl⟩:=y
  refine gS ?_
  refine ⟨_,rfl,_,rfl,_,_,_,_,rfl,rfl,sx2,co_at sx2 hlt,_,rfl,_,rfl,_,rfl,_,_,_,_,rfl,rfl,sy2,co_at sy2 hlt,_,_,rfl,rfl,dW bs (r3co bq i),_,_,rfl,rfl,?_⟩
  refine ⟨_,hlD,aN (by simp;omega),3 - (i+1),by omega,rfl,hlt,aT sm hD _,?_⟩
  rw [ae,List.range_succ,List.map_append,List.map_singleton,sg_co]
 have ei:i=3:=by omega
 subst ei
 refine .inl ⟨Nat.le_refl _,?_⟩
 refine ⟨D,_,rfl,.inl ⟨SqL.of hlD,λtt htt=>?_⟩⟩
 exact k tt _ (sm.trans (aq htt _)) (bU (p:=sg sn p q) (SqT.of ae))
theorem BQ (T:aE K mg "_law_fold" oJ) (cR:Def P w K mg base 1 "_law_added" ["_law_one","_law_other","_law_sign"] (AK K)):Def P w K mg base 2 "_law_fold" ["_law_word","_law_one","_law_other"] (xk K):=by
 refine aO T qr (λ_ _ _ _ _ _=>ar3 λ_ _ _=>rfl) (λvs H Q E h=>?_) (λf cdv A outer s H vs Q E hr h=>?_)
 ·obtain ⟨k,x,y,a,b,rfl,_⟩:=h
  rfl
 obtain ⟨k,x,y,a,b,rfl,hk,dx,dy,ba,bb,q⟩:=h
 have nd:=qr.nd
 have d3:(3:Nat)<=sizeLine:=by decide
 refine ⟨_,(ah (aF (i:=3) nd rfl (Or.inl rfl) (aL (dM (dM (dM ag)))))
  (ah (aM (PW.pt (qw (aC aZ (pv 0) aK (aI _)) (oN (aC aZ (pv 0) aK (aI _))))) (ah (aF (i:=4) nd rfl (Or.inl rfl) (aD cR (hr.mono (by decide)) rfl (aa (pv 1) (aa (pv 2) (dM ag)))))
  (ah (aF (i:=5) nd rfl (Or.inl rfl) (aD cR (hr.mono (by decide)) rfl (aa (pv 4) (aa (pv 3) (aa (jE gM af) ag)))))
  (ah (aM (aC aZ (pv 0) aK (aI _)) (ao (av (aL (aa (pv 5) (aa (pv 4) (aa (pv 3) ag)))))) aH)
  (ao (av (aL (aa (pv 5) (oR (aL (dM (dM (dM ag)))) (aa (pv 5) ag))))))))) aH)
  (ah (aM (aC aZ (pv 0) aK (aI _)) (ah (aF (i:=5) nd rfl (Or.inl rfl) (aD cR (hr.mono (by decide)) rfl (aa (pv 2) (aa (pv 1) (aa (jE gM af) ag)))))
  (ao (av (aL (aa (pv 5) (aa (aD cR (hr.mono (by decide)) rfl (aa (pv 3) (aa (pv 5) (dM ag)))) (aa (pv 3) ag))))))) aH)
  (ah (aF (i:=5) nd rfl (Or.inl rfl) (aD cR (hr.mono (by decide)) rfl (aa (pv 1) (aa (pv 2) (aa (jE gM af) ag)))))
  (ah (aM (aC aZ (pv 0) aK (aI _)) (ao (av (aL (aa (pv 5) (aa (pv 2) (aa (pv 1) ag)))))) aH)
  (ao (av (aL (aa (pv 5) (aa (pv 1) (aa (pv 2) ag))))))))))),?_⟩
 refine ⟨d3,λtf htf=>?_⟩
 have uf:=aq htf (.tup [.int 0,.int 0,.int 1])
 have df:Dat K (upd H tf (.tup [.int 0,.int 0,.int 1])) (t3D Hu.al) (.ref tf):=bU (p:=Hu.al) (SqT.of ae)
 have dx:=dx.ts uf.ts
 have dy:=dy.ts uf.ts
 have q:∀(v:V) (H':Hp),aJ (upd H tf (.tup [.int 0,.int 0,.int 1])) H'->Ch K H' (Hu.fch k a b) v->Q v H':=λv H' s'=>q v H' (uf.trans s')
 generalize upd H tf (.tup [.int 0,.int 0,.int 1])=H0 at df dx dy q ⊢
 rcases (c5 (by assumption):k=0\/k=1\/k=2\/k=3\/k=4) with rfl | rfl | rfl | rfl | rfl
 ·refine ⟨_,rfl,rfl,_,rfl,?_⟩
  rw [show decide (V.str (fw 0)=V.str "more")=true by decide +kernel]
  refine dk ?_
  refine ⟨_,rfl,_,rfl,_,_,a,b,1,rfl,dx,dy,.inl rfl,bb.mono (by decide),λt1 H1 s1 e1=>?_⟩
  rw [AL] at e1
  refine ⟨_,rfl,_,rfl,_,rfl,_,_,_,_,-1,rfl,e1,df.ts s1.ts,.inr rfl,(Hu.oM 0).mono (by decide),λt2 H2 s2 e2=>?_⟩
  rw [qk] at e2
  have m2:=s1.trans s2
  refine ⟨_,rfl,rfl,_,rfl,?_⟩
  rw [show decide (V.str (fw 0)=V.str "more")=true by decide +kernel]
  refine dk ?_
  refine ⟨_,rfl,_,rfl,_,rfl,d3,λt ht=>?_⟩
  have u:=aq ht (.tup [.ref t2,.ref t1,.ref tf])
  exact q _ _ (m2.trans u) ⟨t,_,_,_,rfl,SqT.of ae,e2.ts u.ts,(e1.ts s2.ts).ts u.ts,(df.ts m2.ts).ts u.ts⟩
 ·refine ⟨_,rfl,rfl,_,rfl,?_⟩
  rw [show decide (V.str (fw 1)=V.str "more")=false by decide +kernel]
  refine bM ?_
  refine ⟨_,rfl,rfl,_,rfl,?_⟩
  rw [show decide (V.str (fw 1)=V.str "less")=true by decide +kernel]
  refine dk ?_
  refine ⟨_,rfl,_,rfl,_,_,a,b,1,rfl,dx,dy,.inl rfl,bb.mono (by decide),λt1 H1 s1 e1=>?_⟩
  rw [AL] at e1
  refine ⟨_,rfl,_,rfl,_,rfl,_,_,_,_,-1,rfl,e1,df.ts s1.ts,.inr rfl,(Hu.oM 0).mono (by decide),λt2 H2 s2 e2=>?_⟩
  rw [qk] at e2
  have m2:=s1.trans s2
  refine ⟨_,rfl,rfl,_,rfl,?_⟩
  rw [show decide (V.str (fw 1)=V.str "more")=false by decide +kernel]
  refine bM ?_
  refine ⟨_,rfl,d3,λtz htz=>?_⟩
  have uz:=aq htz (.tup [.int 0,.int 0,.int 0])
  have dz:Dat K (upd H2 tz (.tup [.int 0,.int 0,.int 0])) (t3D Hu.z0) (.ref tz):=bU (p:=Hu.z0) (SqT.of ae)
  refine ⟨_,rfl,d3,λt ht=>?_⟩
  have u:=aq ht (.tup [.ref t2,.ref tz,.ref t2])
  exact q _ _ (m2.trans (uz.trans u)) ⟨t,_,_,_,rfl,SqT.of ae,(e2.ts uz.ts).ts u.ts,dz.ts u.ts,(e2.ts uz.ts).ts u.ts⟩
 ·refine ⟨_,rfl,rfl,_,rfl,?_⟩
  rw [show decide (V.str (fw 2)=V.str "more")=false by decide +kernel]
  refine bM ?_
  refine ⟨_,rfl,rfl,_,rfl,?_⟩
  rw [show decide (V.str (fw 2)=V.str "less")=false by decide +kernel]
  refine bM ?_
  refine ⟨_,rfl,rfl,_,rfl,?_⟩
  rw [show decide (V.str (fw 2)=V.str "leads")=false by decide +kernel]
  refine bM ?_
  refine ⟨_,rfl,_,rfl,_,rfl,_,_,a,b,-1,rfl,dx,dy,.inr rfl,bb.mono (by decide),λt1 H1 s1 e1=>?_⟩
  rw [qk] at e1
  refine ⟨_,rfl,rfl,_,rfl,?_⟩
  rw [show decide (V.str (fw 2)=V.str "greater")=true by decide +kernel]
  refine dk ?_
  refine ⟨_,rfl,_,rfl,_,rfl,d3,λt ht=>?_⟩
  have u:=aq ht (.tup [.ref t1,y,x])
  exact q _ _ (s1.trans u) ⟨t,_,_,_,rfl,SqT.of ae,e1.ts u.ts,(dy.ts s1.ts).ts u.ts,(dx.ts s1.ts).ts u.ts⟩
 ·refine ⟨_,rfl,rfl,_,rfl,?_⟩
  rw [show decide (V.str (fw 3)=V.str "more")=false by decide +kernel]
  refine bM ?_
  refine ⟨_,rfl,rfl,_,rfl,?_⟩
  rw [show decide (V.str (fw 3)=V.str "less")=false by decide +kernel]
  refine bM ?_
  refine ⟨_,rfl,rfl,_,rfl,?_⟩
  rw [show decide (V.str (fw 3)=V.str "leads")=false by decide +kernel]
  refine bM ?_
  refine ⟨_,rfl,_,rfl,_,rfl,_,_,a,b,-1,rfl,dx,dy,.inr rfl,bb.mono (by decide),λt1 H1 s1 e1=>?_⟩
  rw [qk] at e1
  refine ⟨_,rfl,rfl,_,rfl,?_⟩
  rw [show decide (V.str (fw 3)=V.str "greater")=false by decide +kernel]
  refine bM ?_
  refine ⟨_,rfl,_,rfl,_,rfl,d3,λt ht=>?_⟩
  have u:=aq ht (.tup [.ref t1,x,y])
  exact q _ _ (s1.trans u) ⟨t,_,_,_,rfl,SqT.of ae,e1.ts u.ts,(dx.ts s1.ts).ts u.ts,(dy.ts s1.ts).ts u.ts⟩
 ·refine ⟨_,rfl,rfl,_,rfl,?_⟩
  rw [show decide (V.str (fw 4)=V.str "more")=false by decide +kernel]
  refine bM ?_
  refine ⟨_,rfl,rfl,_,rfl,?_⟩
  rw [show decide (V.str (fw 4)=V.str "less")=false by decide +kernel]
  refine bM ?_
  refine ⟨_,rfl,rfl,_,rfl,?_⟩
  rw [show decide (V.str (fw 4)=V.str "leads")=true by decide +kernel]
  refine dk ?_
  refine ⟨_,rfl,_,rfl,_,rfl,_,_,b,a,-1,rfl,dy,dx,.inr rfl,ba.mono (by decide),λt1 H1 s1 e1=>?_⟩
  rw [qk] at e1
  refine ⟨_,rfl,_,rfl,_,rfl,_,_,_,_,1,rfl,df.ts s1.ts,e1,.inl rfl,(Hu.qv bb ba).mono (by decide),λt2 H2 s2 e2=>?_⟩
  rw [AL] at e2
  have m2:=s1.trans s2
  refine ⟨_,rfl,d3,λt ht=>?_⟩
  have u:=aq ht (.tup [.ref t1,.ref t2,.ref tf])
  exact q _ _ (m2.trans u) ⟨t,_,_,_,rfl,SqT.of ae,(e1.ts s2.ts).ts u.ts,e2.ts u.ts,(df.ts m2.ts).ts u.ts⟩
end
noncomputable def OutD (K:PySem.W.Frag) (H H':Hp) (rows:List Hu.Row) (o:Hu.Out) (v:V):Prop:=match o with
 | .rules rs=>∃(t lr:Addr) (ws:List V),v=.ref t/\Hu.Rb rs/\rs.length=rows.length/\H lr=none/\SqT K H' t [.str "rules",.ref lr]/\H' lr=some (.lst ws)/\DatAll K H' (rs.map t3D) ws
 | .mixed k tt=>∃(t:Addr) (x:V),v=.ref t/\SqT K H' t [.str "mixed",.int k,x]/\Dat K H' (t3D tt) x
noncomputable def kq (K:PySem.W.Frag):Sp:=λvs H Q _=>∃(l lh:Addr) (us hs:List V) (rows:List Hu.Row) (h:List T3),vs=[.ref l,.ref lh]/\H l=some (.lst us)/\DatAll K H (rows.map kH) us/\jc rows/\0 < rows.length/\rows.length<=100/\H lh=some (.lst hs)/\DatAll K H (h.map t3D) hs/\(∀ p∈h,Hu.R3 3000 p)/\0 < h.length/\h.length<=900/\
 ∀(o:Hu.Out) (v:V) (H':Hp),aJ H H'->Hu.run h rows []=o->OutD K H H' rows o v->Q v H'
theorem in4 {k:Nat} (h:k < 4):inV (V.str (lw k)) [V.str "never",V.str "always",V.str "p",V.str "q"]=true:=by
 rcases (c4 (by assumption):k=0\/k=1\/k=2\/k=3) with rfl | rfl | rfl | rfl <;> decide +kernel
theorem out5 {k:Nat} (h:k < 5):inV (V.str (fw k)) [V.str "never",V.str "always",V.str "p",V.str "q"]=false:=by
 rcases (c5 (by assumption):k=0\/k=1\/k=2\/k=3\/k=4) with rfl | rfl | rfl | rfl | rfl <;> decide +kernel
theorem not5 {k:Nat} (h:k < 5):decide (V.str (fw k)=V.str "not")=false:=by
 rcases (c5 (by assumption):k=0\/k=1\/k=2\/k=3\/k=4) with rfl | rfl | rfl | rfl | rfl <;> decide +kernel
theorem fF {h:List T3} {x:T3}:Hu.aS h (Hu.z0,x,x)=some x:=by
 unfold Hu.aS
 rw [if_pos (λq _=>Int.le_of_eq (Hu.mI q))]
theorem lf_dec {k:Nat} (h:k < 4):(if decide (V.str (lw k)=V.str "p")=true then (1:Int) else 0)=(Hu.lft k).u/\(if decide (V.str (lw k)=V.str "q")=true then (1:Int) else 0)=(Hu.lft k).v/\(if decide (V.str (lw k)=V.str "always")=true then (1:Int) else 0)=(Hu.lft k).w:=by
 rcases (c4 (by assumption):k=0\/k=1\/k=2\/k=3) with rfl | rfl | rfl | rfl <;> decide +kernel
theorem mm_if {K:PySem.W.Frag} {i:Nat} {σ:St} {H:Hp} {t u:TS} {D:Ends} {d:Addr} {ns:List Int} (hi:σ[i]?=some (some (.ref d))) (hd:SqL K H d (ns.map V.int)) (ne:0 < ns.length) (a:(∃ x∈ns,x < 0)->(∃ x∈ns,0 < x)->t D σ H) (b:(∀ x∈ns,0<=x)\/(∀ x∈ns,x<=0)->u D σ H) :
  tIfS (As (Aw (rI0 λi j=>.bl (decide (i < j))) (rI0 λi j=>.bl (decide (i < j))) (tCB (λxs H Q=>∃(l:Addr) (ns:List Int),xs=[.ref l]/\SqL K H l (ns.map V.int)/\0 < ns.length/\∀ M,M∈ns->(∀ a∈ns,M<=a)->Q (.int M) H) (dZ (Ar i) jH)) (tC (.int 0))
   (tCB (λxs H Q=>∃(l:Addr) (ns:List Int),xs=[.ref l]/\SqL K H l (ns.map V.int)/\0 < ns.length/\∀ M,M∈ns->(∀ a∈ns,a<=M)->Q (.int M) H) (dZ (Ar i) jH)))) t u D σ H:=by
 refine ⟨_,hi,d,_,rfl,hd,ne,λM hM hmin=>?_⟩
 refine ⟨_,_,rfl,rfl,_,rfl,?_⟩
 refine bY (λc1=>?_) (λc1=>⟨_,rfl,bM (b (.inl λx hx=>Int.le_trans (Int.not_lt.mp λz=>c1 (decide_eq_true z)) (hmin x hx)))⟩)
 refine ⟨_,hi,d,_,rfl,hd,ne,λM2 hM2 hmax=>?_⟩
 refine ⟨_,_,rfl,rfl,_,rfl,?_⟩
 exact bY (λc2=>a ⟨M,hM,of_decide_eq_true c1⟩ ⟨M2,hM2,of_decide_eq_true c2⟩) (λc2=>b (.inr λx hx=>Int.le_trans (hmax x hx) (Int.not_lt.mp λz=>c2 (decide_eq_true z))))
section
variable {P:Program} {w:World} {K:PySem.W.Frag} {mg:Str->Option Value} {base:Heap}
theorem yV (T:aE K mg "_law_rules" hJ) (bD:mg "enumerate"=none) (mY:mg "int"=none) (ib:mg "min"=none) (gG:mg "max"=none) (cR:Def P w K mg base 1 "_law_added" ["_law_one","_law_other","_law_sign"] (AK K))
  (vt:Def P w K mg base 2 "_law_fold" ["_law_word","_law_one","_law_other"] (xk K)) (cQ:Def P w K mg base 1 "_law_tells" ["_law_rule","_law_corner"] (sW K)):Def P w K mg base 3 "_law_rules" ["_law_rows","_law_hull"] (kq K):=by
 refine aO T oz (λ_ _ _ _ _ _=>ar2 λ_ _=>rfl) (λvs H Q E h=>?_) (λf cdv A outer s H vs Q E hr h=>?_)
 ·obtain ⟨l,lh,us,hs,rows,h,rfl,_⟩:=h
  rfl
 obtain ⟨l,lh,us,hs,rows,h,rfl,hl,da,ok,ne,few,hlh,dh,bp,pos,hfew,q⟩:=h
 have nd:=oz.nd
 have lu:=xH da
 have d2:(2:Nat)<=sizeLine:=by decide
 have d3:(3:Nat)<=sizeLine:=by decide
 have d4:(4:Nat)<=sizeLine:=by decide
 refine ⟨_,(ah (aF (i:=2) nd rfl (Or.inl rfl) (bo ag))
  (ah (fN PassesOwn.never rfl (nK rfl bD (pv 0)) (lV rfl (bx (aW (i:=3) nd rfl (Or.inl rfl)) (bx (aW (i:=4) nd rfl (Or.inl rfl)) ft))) (ao (aM (aC yO (aw az (pv 4) af (λ_ _=>rfl)) (aL (aa aK (aa aK (aa aK (aa aK ag))))) rfl) (ao (bj (dJ PySem.F.plainAttrs_list PySem.F.slot_list_append PySem.F.type_list_append bh (pv 2) (oR (aL (aa (cC jv rfl mY (by decide +kernel) (aa (jn aZ (aw az (pv 4) af (λ_ _=>rfl)) aK (aI _)) ag)) (aa (cC jv rfl mY (by decide +kernel) (aa (jn aZ (aw az (pv 4) af (λ_ _=>rfl)) aK (aI _)) ag)) (aa (cC jv rfl mY (by decide +kernel) (aa (jn aZ (aw az (pv 4) af (λ_ _=>rfl)) aK (aI _)) ag)) ag)))) ag)))) (ao (aM (aC aZ (aw az (pv 4) af (λ_ _=>rfl)) aK (aI _)) (ao (bj (dJ PySem.F.plainAttrs_list PySem.F.slot_list_append PySem.F.type_list_append bh (pv 2) (aa (aD cR (hr.mono (by decide)) rfl (oR (aL (dM (dM (dM ag)))) (aa (aw aU (pv 2) (aw az (pv 4) af (λ_ _=>rfl)) (λ_ _=>rfl)) (aa (jE gM af) ag)))) ag)))) (ah (ps_asg (aD vt (hr.mono (by decide)) rfl (aa (aw az (pv 4) af (λ_ _=>rfl)) (aa (aw aU (pv 2) (aw az (pv 4) af (λ_ _=>rfl)) (λ_ _=>rfl)) (aa (aw aU (pv 2) (aw az (pv 4) af (λ_ _=>rfl)) (λ_ _=>rfl)) ag)))) (lV rfl (bx (aW (i:=5) nd rfl (Or.inr rfl)) (bx (aW (i:=6) nd rfl (Or.inl rfl)) (bx (aW (i:=7) nd rfl (Or.inl rfl)) ft)))))
  (ah (kJ (i:=8) nd rfl (Or.inl rfl) (Or.inl rfl) rfl rfl (ck (pv 1)) rfl (by decide +kernel) (by decide +kernel) rfl (show ∀ p∈Scope.names _,p.2=NameKind.free->List.lookup p.1 (ak hJ).names=some .cell\/List.lookup p.1 (ak hJ).names=some .free by decide +kernel) (bP (j:=5) rfl (Or.inl rfl) (by decide +kernel) (Or.inl rfl) cP) (show (["_law_corner","_law_test"]:List Str).Nodup by decide +kernel) (λ_ _ _ _=>dB) (λ_ _ _ _=>(aD cQ (hr.mono (by decide)) rfl (aa (pv 1) (aa (pv 0) ag)))))
  (ah (aM (tR gy gy (aR (ju rfl) rfl ib (by decide +kernel) (aa (pv 8) ag)) af (aR (ia rfl) rfl gG (by decide +kernel) (aa (pv 8) ag))) (ao (av (aL (aa aK (aa (pv 3) (aa (pv 5) ag)))))) aH)
  (ao (aM (aC qA (aR (ia rfl) rfl gG (by decide +kernel) (aa (pv 8) ag)) af (aI _)) (ao (bj (dJ PySem.F.plainAttrs_list PySem.F.slot_list_append PySem.F.type_list_append bh (pv 2) (aa (pv 6) ag)))) (ao (bj (dJ PySem.F.plainAttrs_list PySem.F.slot_list_append PySem.F.type_list_append bh (pv 2) (aa (pv 7) ag))))))))))))))
  (ao (av (aL (aa aK (aa (pv 2) ag))))))),?_⟩
 refine ⟨(by show 0<=sizeLine;decide),λlr hlr=>?_⟩
 have u0:=aq hlr (.lst [])
 refine ⟨_,rfl,l,rfl,⟨us,SqL.of (u0 _ _ hl)⟩,?_⟩
 refine kW (xs:=us) (λi σ H'=>i<=us.length/\aJ H H'/\∃(ws:List V) (rs:List T3) (o3 o4 o5 o6 o7 o8:Option V),σ=[some (.ref l),some (.ref lh),some (.ref lr),o3,o4,o5,o6,o7,o8]/\H' lr=some (.lst ws)/\DatAll K H' (rs.map t3D) ws/\rs.length=i/\Hu.Rb rs/\Hu.run h rows []=Hu.run h (rows.drop i) rs)
  ⟨Nat.zero_le _,u0,[],[],_,_,_,_,_,_,rfl,ae,rfl,rfl,(λi x e=>by simp at e),rfl⟩ (λi σ H' _ z=>SqL.of (z.2.1 _ _ hl)) (λi v T' σ H' hv z hT=>?_) (fun σ H' z=>?_)
 ·obtain ⟨_,sm,ws,rs,o3,o4,o5,o6,o7,o8,rfl,hr',dr,lrs,rb,er⟩:=z
  have hi:i < us.length:=(List.getElem?_eq_some_iff.mp hv).1
  have uT:=aq hT (.tup [.int i,v])
  obtain ⟨r,er',dv⟩:=xI ((da.ts sm.ts).ts uT.ts) hv
  have okr:r.Ok rs.length:=by rw [lrs];exact ok i r er'
  have dp:rows.drop i=r::rows.drop (i+1):=by
   obtain ⟨g1,g2⟩:=List.getElem?_eq_some_iff.mp er'
   rw [<- g2]
   exact List.drop_eq_getElem_cons g1
  rw [dp] at er
  obtain ⟨cb,_,_⟩:=Hu.kZ rb okr
  have lw0:=fJ dr
  obtain ⟨a,rfl,sa⟩:=Bc dv
  refine ⟨T',_,rfl,SqT.of ae,rfl,_,_,rfl,_,_,rfl,rfl,?_⟩
  have s2:=sm.trans uT
  have hr2:=uT _ _ hr'
  have dr2:=dr.ts uT.ts
  clear hr' dr hT dv er'
  generalize upd H' T' (.tup [.int i,.ref a])=H1 at s2 hr2 dr2 sa ⊢
  have put:∀(H2:Hp) (x:T3) (u:V) (o5 o6 o7 o8:Option V),aJ H1 H2->Hu.aS h (Hu.choice rs r)=some x->Dat K H2 (t3D x) u->
    (i+1<=us.length/\aJ H (upd H2 lr (.lst (ws++[u])))/\∃(ws':List V) (rs':List T3) (o3' o4' o5' o6' o7' o8':Option V),[some (V.ref l),some (.ref lh),some (.ref lr),some (.int i),some (.ref a),o5,o6,o7,o8]=[some (V.ref l),some (.ref lh),some (.ref lr),o3',o4',o5',o6',o7',o8']/\(upd H2 lr (.lst (ws++[u]))) lr=some (.lst ws')/\DatAll K (upd H2 lr (.lst (ws++[u]))) (rs'.map t3D) ws'/\rs'.length=i+1/\Hu.Rb rs'/\Hu.run h rows []=Hu.run h (rows.drop (i+1)) rs'):=λH2 x u o5 o6 o7 o8 s3 ex du=>by
   have t5:Tst H2 (upd H2 lr (.lst (ws++[u]))):=cA (s3 _ _ hr2)
   refine ⟨hi,aT (s2.trans s3) hlr _,ws++[u],rs++[x],_,_,_,_,_,_,rfl,ae,?_,?_,Hu.rF rb (Hu.pF rb okr ex),?_⟩
   ·rw [List.map_append]
    exact ((dr2.ts s3.ts).ts t5).snoc (du.ts t5)
   ·rw [List.length_append,lrs];rfl
   ·rw [er]
    show (match Hu.aS h (Hu.choice rs r) with | some x=>_ | none=>_)=_
    rw [ex]
  cases r with
  | lf k =>
   have hk:k < 4:=okr
   refine ⟨_,rfl,_,_,_,_,rfl,rfl,sa,rfl,d4,λpt hpt=>?_⟩
   have u1:=aq hpt (.tup [V.str "never",V.str "always",V.str "p",V.str "q"])
   refine ⟨pt,_,rfl,.inr (SqT.of ae),rfl,rfl,_,rfl,?_⟩
   rw [if_neg Bool.false_ne_true,in4 hk]
   refine dk ?_
   have hr3:=u1 _ _ hr2
   have sa2:=sa.ts u1.ts
   generalize upd H1 pt (.tup [V.str "never",V.str "always",V.str "p",V.str "q"])=H2 at u1 hr3 sa2 ⊢
   refine ⟨_,rfl,.inl ⟨rfl,_,SqL.of hr3⟩,_,rfl,_,_,_,_,rfl,rfl,sa2,rfl,rfl,.inr ⟨_,rfl,_,rfl,_,_,_,_,rfl,rfl,sa2,rfl,rfl,.inr ⟨_,rfl,_,rfl,_,_,_,_,rfl,rfl,sa2,rfl,rfl,.inr ⟨_,rfl,d3,λp3 hp3=>?_⟩⟩⟩⟩
   obtain ⟨f1,f2,f3⟩:=lf_dec hk
   rw [f1,f2,f3] at *
   have u3:=aq hp3 (.tup [.int (Hu.lft k).u,.int (Hu.lft k).v,.int (Hu.lft k).w])
   exact ⟨lr,ws,_,rfl,rfl,u3 _ _ hr3,aN (by omega),put _ _ _ _ _ _ _ (u1.trans u3) fF (bU (p:=Hu.lft k) (SqT.of ae))⟩
  | nt j =>
   obtain ⟨y,hy,dy⟩:=iL dr2 (getD_at (show j < rs.length from okr))
   refine ⟨_,rfl,_,_,_,_,rfl,rfl,sa,rfl,d4,λpt hpt=>?_⟩
   have u1:=aq hpt (.tup [V.str "never",V.str "always",V.str "p",V.str "q"])
   refine ⟨pt,_,rfl,.inr (SqT.of ae),rfl,rfl,_,rfl,?_⟩
   rw [if_neg Bool.false_ne_true,show inV (V.str "not") [V.str "never",V.str "always",V.str "p",V.str "q"]=false by decide +kernel]
   refine bM ?_
   have sa2:=sa.ts u1.ts
   refine ⟨_,rfl,_,_,_,_,rfl,rfl,sa2,rfl,rfl,_,rfl,?_⟩
   rw [decide_eq_true rfl]
   refine dk ?_
   refine ⟨_,rfl,.inl ⟨rfl,_,SqL.of (u1 _ _ hr2)⟩,d3,λp0 hp0=>?_⟩
   have u2:=aq hp0 (.tup [.int 0,.int 0,.int 1])
   have d0:Dat K (upd (upd H1 pt (.tup [V.str "never",V.str "always",V.str "p",V.str "q"])) p0 (.tup [.int 0,.int 0,.int 1])) (t3D Hu.al) (.ref p0):=bU (p:=Hu.al) (SqT.of ae)
   have m2:=u1.trans u2
   have sa3:=sa2.ts u2.ts
   generalize upd (upd H1 pt (.tup [V.str "never",V.str "always",V.str "p",V.str "q"])) p0 (.tup [.int 0,.int 0,.int 1])=H2 at m2 d0 sa3 ⊢
   refine ⟨_,rfl,_,rfl,_,_,_,_,rfl,rfl,sa3,rfl,_,_,_,_,rfl,rfl,SqL.of (m2 _ _ hr2),dD hy,_,rfl,_,y,Hu.al,rs.getD j Hu.z0,-1,rfl,d0,dy.ts m2.ts,.inr rfl,(Hu.qu rb (show j < rs.length from okr)).mono (by omega),λt H3 s3 e3=>?_⟩
   rw [qk] at e3
   have m3:=m2.trans s3
   exact ⟨lr,ws,_,rfl,rfl,m3 _ _ hr2,aN (by omega),put H3 _ _ _ _ _ _ m3 fF e3⟩
  | fd k j m =>
   obtain ⟨hk,hj,hm⟩:=okr
   obtain ⟨y,hy,dy⟩:=iL dr2 (getD_at hj)
   obtain ⟨z,hz,dz⟩:=iL dr2 (getD_at hm)
   refine ⟨_,rfl,_,_,_,_,rfl,rfl,sa,rfl,d4,λpt hpt=>?_⟩
   have u1:=aq hpt (.tup [V.str "never",V.str "always",V.str "p",V.str "q"])
   refine ⟨pt,_,rfl,.inr (SqT.of ae),rfl,rfl,_,rfl,?_⟩
   rw [if_neg Bool.false_ne_true,out5 hk]
   refine bM ?_
   have sa2:=sa.ts u1.ts
   have sr2:SqL K (upd H1 pt (.tup [V.str "never",V.str "always",V.str "p",V.str "q"])) lr ws:=SqL.of (u1 _ _ hr2)
   refine ⟨_,rfl,_,_,_,_,rfl,rfl,sa2,rfl,rfl,_,rfl,?_⟩
   rw [not5 hk]
   refine bM ?_
   obtain ⟨c0,ec0⟩:∃ c0,c0=Hu.choice rs (.fd k j m):=⟨_,rfl⟩
   refine ⟨_,rfl,_,_,_,_,rfl,rfl,sa2,rfl,_,rfl,_,rfl,_,_,_,_,rfl,rfl,sa2,rfl,_,_,_,_,rfl,rfl,sr2,dD hy,_,rfl,_,rfl,_,_,_,_,rfl,rfl,sa2,rfl,_,_,_,_,rfl,rfl,sr2,dD hz,k,y,z,_,_,rfl,hk,dy.ts u1.ts,dz.ts u1.ts,(Hu.qu rb hj).mono (by omega),(Hu.qu rb hm).mono (by omega),λvc H3 s3 hc=>?_⟩
   have hc:Ch K H3 c0 vc:=by rw [ec0];exact hc
   rw [<- ec0] at cb put
   obtain ⟨tc,x1,x2,x3,rfl,stc,e1,e2,e3⟩:=hc
   have m3:=u1.trans s3
   have mH:=s2.trans m3
   refine ⟨tc,_,rfl,stc,rfl,_,_,rfl,_,_,rfl,_,_,rfl,rfl,?_⟩
   refine ⟨_,rfl,lh,rfl,⟨hs,SqL.of (mH _ _ hlh)⟩,λD hD=>?_⟩
   refine nU (K:=K) (r:=c0.1) (λH' s'=>SqL.of (s' _ _ (mH _ _ hlh))) (dh.ts mH.ts) hfew hD ?step ?fin
   case step =>
    intro v p H' kk s' hp dp q
    exact ⟨_,rfl,_,rfl,x1,v,c0.1,p,rfl,e1.ts s'.ts,dp,cb.mono (by omega),bp p hp,q⟩
   intro H4 s4 hD4
   have m4:=m3.trans s4
   have hr4:=m4 _ _ hr2
   have e24:=e2.ts s4.ts
   have e34:=e3.ts s4.ts
   have hne:0 < (h.map (Hu.tl c0.1)).length:=by rw [List.length_map];exact pos
   refine mm_if (K:=K) rfl (SqL.of hD4) hne (λ⟨a1,ha1,b1⟩ ⟨a2,ha2,b2⟩=>?_) (λnc=>?_)
   ·obtain ⟨p1,hp1,ep1⟩:=List.mem_map.mp ha1
    obtain ⟨p2,hp2,ep2⟩:=List.mem_map.mp ha2
    have ex:Hu.aS h c0=none:=by
     unfold Hu.aS
     rw [if_neg (λz=>Int.not_lt.mpr (z p2 hp2) (ep2 ▸ b2)),if_neg (λz=>Int.not_lt.mpr (z p1 hp1) (ep1 ▸ b1))]
    refine ⟨_,rfl,_,rfl,d3,λpm hpm=>?_⟩
    have um:=aq hpm (.tup [.str "mixed",.int i,x1])
    refine q (.mixed i c0.1) (.ref pm) _ (s2.trans (m4.trans um)) ?_ ⟨pm,x1,rfl,SqT.of ae,(e1.ts s4.ts).ts um.ts⟩
    rw [er]
    show (match Hu.aS h (Hu.choice rs (.fd k j m)) with | some x=>_ | none=>_)=_
    rw [<- ec0,ex,lrs]
   ·have NC:(¬ ∀ q∈h,Hu.tl c0.1 q<=0)->∀ q∈h,0<=Hu.tl c0.1 q:=λz q hq=>by
     rcases nc with y | y
     ·exact y _ (List.mem_map.mpr ⟨q,hq,rfl⟩)
     ·exact absurd (λq hq=>y _ (List.mem_map.mpr ⟨q,hq,rfl⟩)) z
    refine ⟨_,rfl,D,_,rfl,SqL.of hD4,hne,λM3 hM3 hmax3=>?_⟩
    refine ⟨_,_,rfl,rfl,_,rfl,?_⟩
    refine bY (λc=>?_) (λc=>?_)
    ·have c':M3<=0:=of_decide_eq_true c
     have al:∀ q∈h,Hu.tl c0.1 q<=0:=λq hq=>Int.le_trans (hmax3 _ (List.mem_map.mpr ⟨q,hq,rfl⟩)) c'
     exact ⟨_,rfl,.inl ⟨rfl,_,SqL.of hr4⟩,_,rfl,lr,ws,_,rfl,rfl,hr4,aN (by omega),put H4 _ _ _ _ _ _ m4 (by unfold Hu.aS;rw [if_pos al]) e24⟩
    ·have c':¬M3<=0:=λz=>c (decide_eq_true z)
     obtain ⟨p3,hp3,ep3⟩:=List.mem_map.mp hM3
     have n1:¬ ∀ q∈h,Hu.tl c0.1 q<=0:=λz=>by have:=z p3 hp3;omega
     exact ⟨_,rfl,.inl ⟨rfl,_,SqL.of hr4⟩,_,rfl,lr,ws,_,rfl,rfl,hr4,aN (by omega),put H4 _ _ _ _ _ _ m4 (by unfold Hu.aS;rw [if_neg n1,if_pos (NC n1)]) e34⟩
 ·obtain ⟨_,sm,ws,rs,o3,o4,o5,o6,o7,o8,rfl,hr',dr,lrs,rb,er⟩:=z
  refine ⟨_,rfl,d2,λp hp=>?_⟩
  have u:=aq hp (.tup [.str "rules",.ref lr])
  refine q (.rules rs) (.ref p) _ (sm.trans u) ?_ ⟨p,lr,ws,rfl,rb,lrs.trans lu,hlr,SqT.of ae,u _ _ hr',dr.ts u.ts⟩
  rw [er,List.drop_eq_nil_of_le (by omega)]
  rfl
end
section
variable {P:Program} {w:World} {K:PySem.W.Frag} {mg:Str->Option Value} {base:Heap}
theorem ok_lcut (T:aE K mg "_law_cut" dw) (ib:mg "min"=none) (gG:mg "max"=none) (bD:mg "enumerate"=none) (dN:mg "len"=none)
  (cQ:Def P w K mg base 1 "_law_tells" ["_law_rule","_law_corner"] (sW K)) (pM:Def P w K mg base 2 "_law_between" ["_law_one","_law_other","_law_near_here","_law_far"] (spCB K)):Def P w K mg base 3 "_law_cut" ["_law_hull","_law_rule"] (ri K):=by
 refine aO T tL (λ_ _ _ _ _ _=>L2.ar2 λ_ _=>rfl) (λvs H Q E h=>?_) (λf cdv A outer s H vs Q E hr h=>?_)
 ·obtain ⟨l,x,us,h,r,rfl,_⟩:=h
  rfl
 obtain ⟨l,x,us,h,r,rfl,hl,da,dx,hu,hr3,kn,kc⟩:=h
 have nd:=tL.nd
 have lu:=fJ da
 have hpos:=hu.pos
 have hfew:=hu.few
 have br:Hu.R3 3000 r:=hr3.mono (by decide)
 have bp:∀ p∈h,Hu.R3 3000 p:=λp hp=>((hu.ok p hp).r).mono (by decide)
 have tb:∀ i,(Hu.tv r h i).natAbs < 2 ^ 2000:=λi=>Nat.lt_of_lt_of_le (Hu.Ap hr3 (hu.ok _ (Hu.cX hpos i)).r) (Nat.pow_le_pow_right (by decide) (by decide))
 have tB:∀ i,Bg (Hu.tv r h i):=λi=>bL (tb i) (by decide)
 have t3:∃ t,PSs (cM CX0 P w K mg base kR "_law_cut" (ak dw) f cdv A outer s H E).nox ((jr (yF dw 3)).drop 3) t/\
   ∀(
    N B:St->Hp->Prop) (H1 H':Hp) (d pt lo hi:Addr) (v:V) (i:Nat) (L1 L2:List T3) (o8:Option V),i < h.length->MI K H1 H' lo hi L1 L2->H1 l=some (.lst us)->H1 d=some (.lst ((h.map (Hu.tl r)).map V.int))->H1 lo=none->H1 hi=none->lo≠hi->SqT K H' pt [.ref lo,.ref hi]->DatAll K H1 (h.map t3D) us->Dat K H' (t3D (Hu.cor h i)) v->L1.length<=900->L2.length<=900->
    (∀(H'':Hp) (o8':Option V),SqT K H'' pt [.ref lo,.ref hi]->MI K H1 H'' lo hi (L1++(if Hu.tv r h i*Hu.tv r h (i+1) < 0 then [Hu.mid (Hu.cor h i) (Hu.cor h (i+1)) (Hu.tv r h i) (Hu.tv r h (i+1))] else [])) (L2++(if Hu.tv r h i*Hu.tv r h (i+1) < 0 then [Hu.mid (Hu.cor h i) (Hu.cor h (i+1)) (Hu.tv r h i) (Hu.tv r h (i+1))] else []))->
     N [some (.ref l),some x,some (.ref d),some (.ref pt),some (.int i),some v,some (.int (((i+1) % h.length:Nat):Int)),o8'] H'')->
    t {nx:=N,ct:=N,bk:=B,rt:=Q} [some (.ref l),some x,some (.ref d),some (.ref pt),some (.int i),some v,some (.int (((i+1) % h.length:Nat):Int)),o8] H':=by
  refine ⟨_,(ao (aM (tR gy gy (aR (zK rfl) rfl ib (by decide +kernel) (aa (aw aU (pv 2) (pv 4) (λ_ _=>rfl)) (aa (aw aU (pv 2) (pv 6) (λ_ _=>rfl)) ag))) af (aR (zL rfl) rfl gG (by decide +kernel) (aa (aw aU (pv 2) (pv 4) (λ_ _=>rfl)) (aa (aw aU (pv 2) (pv 6) (λ_ _=>rfl)) ag)))) (ah (aF (i:=7) nd rfl (Or.inl rfl) (aD pM (hr.mono (by decide)) rfl (aa (pv 5) (aa (aw aU (pv 0) (pv 6) (λ_ _=>rfl)) (aa (aw aU (pv 2) (pv 4) (λ_ _=>rfl)) (aa (aw aU (pv 2) (pv 6) (λ_ _=>rfl)) ag))))))
  (ah (bj (dJ PySem.F.plainAttrs_list PySem.F.slot_list_append PySem.F.type_list_append bh (aw az (pv 3) af (λ_ _=>rfl)) (aa (pv 7) ag)))
  (ao (bj (dJ PySem.F.plainAttrs_list PySem.F.slot_list_append PySem.F.type_list_append bh (aw az (pv 3) af (λ_ _=>rfl)) (aa (pv 7) ag)))))) aH)),?_⟩
  intro N B H1 H' d pt lo hi v i L1 L2 o8 hi' mi hl1 hd1 hlo hhi ne sp da1 dv l1 l2 n
  have jl:(i+1) % h.length < h.length:=Nat.mod_lt _ hpos
  have sd:SqL K H' d ((h.map (Hu.tl r)).map V.int):=SqL.of (mi.sm _ _ hd1)
  have ai:=gp (r:=r) hi'
  have aj:=gp (r:=r) jl
  rw [Hu.Ai] at aj
  have cr:=Hu.zH (Hu.tv r h i) (Hu.tv r h (i+1))
  refine ⟨_,rfl,_,rfl,_,_,_,_,rfl,rfl,sd,ai,_,rfl,_,rfl,_,_,_,_,rfl,rfl,sd,aj,_,_,rfl,?_⟩
  refine ⟨_,_,rfl,rfl,_,rfl,?_⟩
  refine bY (λc1=>?_) (λc1=>⟨_,rfl,bM ?_⟩)
  ·refine ⟨_,rfl,_,rfl,_,_,_,_,rfl,rfl,sd,ai,_,rfl,_,rfl,_,_,_,_,rfl,rfl,sd,aj,_,_,rfl,_,_,rfl,rfl,_,rfl,?_⟩
   refine bY (λc2=>?_) (λc2=>?_)
   ·have c':Hu.tv r h i*Hu.tv r h (i+1) < 0:=cr.mp ⟨of_decide_eq_true c1,of_decide_eq_true c2⟩
    rw [if_pos c'] at n
    obtain ⟨y,hy,dy⟩:=iL (da1.ts mi.sm.ts) (Hu.kY jl)
    rw [Hu.yo] at dy
    have sl:SqL K H' l us:=SqL.of (mi.sm _ _ hl1)
    refine ⟨_,rfl,_,rfl,_,rfl,_,_,_,_,rfl,rfl,sl,dD hy,_,rfl,_,rfl,_,_,_,_,rfl,rfl,sd,ai,_,rfl,_,rfl,_,_,_,_,rfl,rfl,sd,aj,v,y,Hu.cor h i,Hu.cor h (i+1),_,_,rfl,dv,dy,hu.ok _ (Hu.cX hpos i),hu.ok _ (Hu.cX hpos (i+1)),c',tb _,tb _,λm H2 s2 dm=>?_⟩
    have m2:=mi.new s2
    have sp1:=sp.ts s2.ts
    obtain ⟨⟨u1,e1,k1⟩,u2,e2,k2⟩:=m2.len (by omega) (by omega)
    refine ⟨_,rfl,_,_,_,_,rfl,rfl,sp1,rfl,.inl ⟨rfl,_,SqL.of e1⟩,_,rfl,lo,u1,_,rfl,rfl,e1,aN k1,?_⟩
    have m3:=m2.app1 hlo ne e1 dm
    have e2':(upd H2 lo (.lst (u1++[m]))) hi=some (.lst u2):=by rw [au (Ne.symm ne)];exact e2
    refine ⟨_,rfl,_,_,_,_,rfl,rfl,sp1.ts (cA e1),rfl,.inl ⟨rfl,_,SqL.of e2'⟩,_,rfl,hi,u2,_,rfl,rfl,e2',aN k2,?_⟩
    exact n _ _ ((sp1.ts (cA e1)).ts (cA e2')) (m3.app2 hhi ne e2' (dm.ts (cA e1)))
   ·have c':¬Hu.tv r h i*Hu.tv r h (i+1) < 0:=λz=>c2 (decide_eq_true (cr.mpr z).2)
    rw [if_neg c',List.append_nil,List.append_nil] at n
    exact n _ _ sp mi
  ·have c':¬Hu.tv r h i*Hu.tv r h (i+1) < 0:=λz=>c1 (decide_eq_true (cr.mpr z).1)
   rw [if_neg c',List.append_nil,List.append_nil] at n
   exact n _ _ sp mi
 obtain ⟨t3,ht3,hq3⟩:=t3
 have t2:∃ t,PSs (cM CX0 P w K mg base kR "_law_cut" (ak dw) f cdv A outer s H E).nox ((jr (yF dw 3)).drop 2) t/\
   ∀(
    N B:St->Hp->Prop) (H1 H':Hp) (d pt lo hi:Addr) (v:V) (i:Nat) (L1 L2:List T3) (o8:Option V),i < h.length->MI K H1 H' lo hi L1 L2->H1 l=some (.lst us)->H1 d=some (.lst ((h.map (Hu.tl r)).map V.int))->H1 lo=none->H1 hi=none->lo≠hi->SqT K H' pt [.ref lo,.ref hi]->DatAll K H1 (h.map t3D) us->Dat K H' (t3D (Hu.cor h i)) v->L1.length<=800->L2.length<=800->
    (∀(H'':Hp) (o8':Option V),SqT K H'' pt [.ref lo,.ref hi]->MI K H1 H'' lo hi (L1++(if Hu.tv r h i*Hu.tv r h (i+1) < 0 then [Hu.mid (Hu.cor h i) (Hu.cor h (i+1)) (Hu.tv r h i) (Hu.tv r h (i+1))] else [])) (L2++Hu.stp h (Hu.tn r h) i)->
     N [some (.ref l),some x,some (.ref d),some (.ref pt),some (.int i),some v,some (.int (((i+1) % h.length:Nat):Int)),o8'] H'')->
    t {nx:=N,ct:=N,bk:=B,rt:=Q} [some (.ref l),some x,some (.ref d),some (.ref pt),some (.int i),some v,some (.int (((i+1) % h.length:Nat):Int)),o8] H':=by
  refine ⟨_,ah (aM (aC qB (aw aU (pv 2) (pv 4) (λ_ _=>rfl)) af (aI _)) (ao (bj (dJ PySem.F.plainAttrs_list PySem.F.slot_list_append PySem.F.type_list_append bh (aw az (pv 3) af (λ_ _=>rfl)) (aa (pv 5) ag)))) aH) ht3,?_⟩
  intro N B H1 H' d pt lo hi v i L1 L2 o8 hi' mi hl1 hd1 hlo hhi ne sp da1 dv l1 l2 n
  have sd:SqL K H' d ((h.map (Hu.tl r)).map V.int):=SqL.of (mi.sm _ _ hd1)
  have ai:=gp (r:=r) hi'
  rw [Hu.sU] at n
  refine ⟨_,rfl,_,rfl,_,_,_,_,rfl,rfl,sd,ai,_,_,rfl,rfl,_,rfl,?_⟩
  refine bY (λc=>?_) (λc=>?_)
  ·have c':0<=Hu.tv r h i:=of_decide_eq_true c
   rw [if_pos c'] at n
   obtain ⟨_,u2,e2,k2⟩:=mi.len (by omega) (by omega)
   have sp1:=sp
   refine ⟨_,rfl,_,_,_,_,rfl,rfl,sp1,rfl,.inl ⟨rfl,_,SqL.of e2⟩,_,rfl,hi,u2,_,rfl,rfl,e2,aN k2,?_⟩
   refine hq3 N B H1 _ d pt lo hi v i L1 (L2++[Hu.cor h i]) o8 hi' (mi.app2 hhi ne e2 dv) hl1 hd1 hlo hhi ne (sp.ts (cA e2)) da1 (dv.ts (cA e2)) (by omega) (by simp;omega) λH'' o' sp' m=>n H'' o' sp' ?_
   rw [List.append_assoc] at m
   exact m
  ·have c':¬0<=Hu.tv r h i:=λz=>c (decide_eq_true z)
   rw [if_neg c',List.nil_append] at n
   exact hq3 N B H1 _ d pt lo hi v i L1 L2 o8 hi' mi hl1 hd1 hlo hhi ne sp da1 dv (by omega) (by omega) n
 obtain ⟨t2,ht2,hq2⟩:=t2
 have t1:∃ t,PSs (cM CX0 P w K mg base kR "_law_cut" (ak dw) f cdv A outer s H E).nox (jr (yF dw 3)) t/\
   ∀(
    N B:St->Hp->Prop) (H1 H':Hp) (d pt lo hi:Addr) (v:V) (i:Nat) (L1 L2:List T3) (o7 o8:Option V),i < h.length->MI K H1 H' lo hi L1 L2->H1 l=some (.lst us)->H1 d=some (.lst ((h.map (Hu.tl r)).map V.int))->H1 lo=none->H1 hi=none->lo≠hi->SqT K H' pt [.ref lo,.ref hi]->DatAll K H1 (h.map t3D) us->Dat K H' (t3D (Hu.cor h i)) v->L1.length<=700->L2.length<=700->
    (∀(H'':Hp) (o7' o8':Option V),SqT K H'' pt [.ref lo,.ref hi]->MI K H1 H'' lo hi (L1++Hu.stp h (Hu.tv r h) i) (L2++Hu.stp h (Hu.tn r h) i)->
     N [some (.ref l),some x,some (.ref d),some (.ref pt),some (.int i),some v,o7',o8'] H'')->
    t {nx:=N,ct:=N,bk:=B,rt:=Q} [some (.ref l),some x,some (.ref d),some (.ref pt),some (.int i),some v,o7,o8] H':=by
  refine ⟨_,ah (aF (i:=6) nd rfl (Or.inl rfl) (aA kM (aA bR (pv 4) af) (aR fG rfl dN (by decide +kernel) (aa (pv 0) ag)))) (ah (aM (aC qA (aw aU (pv 2) (pv 4) (λ_ _=>rfl)) af (aI _)) (ao (bj (dJ PySem.F.plainAttrs_list PySem.F.slot_list_append PySem.F.type_list_append bh (aw az (pv 3) af (λ_ _=>rfl)) (aa (pv 5) ag)))) aH) ht2),?_⟩
  intro N B H1 H' d pt lo hi v i L1 L2 o7 o8 hi' mi hl1 hd1 hlo hhi ne sp da1 dv l1 l2 n
  have sl:SqL K H' l us:=SqL.of (mi.sm _ _ hl1)
  have sd:SqL K H' d ((h.map (Hu.tl r)).map V.int):=SqL.of (mi.sm _ _ hd1)
  have ai:=gp (r:=r) hi'
  refine ⟨_,rfl,_,_,rfl,rfl,_,rfl,_,_,rfl,.inl ⟨_,sl,rfl⟩,_,_,rfl,rfl,(by rw [lu];omega),?_⟩
  rw [lu]
  dsimp only
  rw [Hu.uG]
  refine ⟨_,rfl,_,rfl,_,_,_,_,rfl,rfl,sd,ai,_,_,rfl,rfl,_,rfl,?_⟩
  refine bY (λc=>?_) (λc=>?_)
  ·have c':Hu.tv r h i<=0:=of_decide_eq_true c
   obtain ⟨⟨u1,e1,k1⟩,_⟩:=mi.len (by omega) (by omega)
   have sp1:=sp
   refine ⟨_,rfl,_,_,_,_,rfl,rfl,sp1,rfl,.inl ⟨rfl,_,SqL.of e1⟩,_,rfl,lo,u1,_,rfl,rfl,e1,aN k1,?_⟩
   refine hq2 N B H1 _ d pt lo hi v i (L1++[Hu.cor h i]) L2 o8 hi' (mi.app1 hlo ne e1 dv) hl1 hd1 hlo hhi ne (sp.ts (cA e1)) da1 (dv.ts (cA e1)) (by simp;omega) (by omega) λH'' o' sp' m=>n H'' _ o' sp' ?_
   rw [List.append_assoc] at m
   rw [show Hu.stp h (Hu.tv r h) i=[Hu.cor h i]++(if Hu.tv r h i*Hu.tv r h (i+1) < 0 then [Hu.mid (Hu.cor h i) (Hu.cor h (i+1)) (Hu.tv r h i) (Hu.tv r h (i+1))] else []) by unfold Hu.stp;rw [if_pos c']]
   exact m
  ·have c':¬Hu.tv r h i<=0:=λz=>c (decide_eq_true z)
   refine hq2 N B H1 _ d pt lo hi v i L1 L2 o8 hi' mi hl1 hd1 hlo hhi ne sp da1 dv (by omega) (by omega) λH'' o' sp' m=>n H'' _ o' sp' ?_
   rw [show Hu.stp h (Hu.tv r h) i=(if Hu.tv r h i*Hu.tv r h (i+1) < 0 then [Hu.mid (Hu.cor h i) (Hu.cor h (i+1)) (Hu.tv r h i) (Hu.tv r h (i+1))] else []) by unfold Hu.stp;rw [if_neg c',List.nil_append]]
   exact m
 obtain ⟨t1,ht1,hq1⟩:=t1
 have t4:∃ t,PSs (cM CX0 P w K mg base kR "_law_cut" (ak dw) f cdv A outer s H E).nox ((aY dw).drop 2) t/\
   ∀(H1:Hp) (d:Addr),¬Hu.gH r h->aJ H H1->H1 d=some (.lst ((h.map (Hu.tl r)).map V.int))->t {nx:=λ_ H'=>Q .non H',rt:=Q} [some (.ref l),some x,some (.ref d),none,none,none,none,none] H1:=by
  refine ⟨_,ah (aF (i:=3) nd rfl (Or.inl rfl) (aL (aa (bo ag) (aa (bo ag) ag)))) (ah (fN PassesOwn.never rfl (nK rfl bD (pv 0)) (lV rfl (bx (aW (i:=4) nd rfl (Or.inl rfl)) (bx (aW (i:=5) nd rfl (Or.inl rfl)) ft))) ht1) (ao (av (pv 3)))),?_⟩
  intro H1 d nc sm hd
  have hl1:=sm _ _ hl
  have da1:=da.ts sm.ts
  refine ⟨(by show 0<=sizeLine;decide),λlo hlo=>⟨(by show 0<=sizeLine;decide),λhi hhi=>⟨(by show 2<=sizeLine;decide),λpt hpt=>?_⟩⟩⟩
  have u1:=aq hlo (.lst [])
  have u2:=aq hhi (.lst [])
  have u3:=aq hpt (.tup [.ref lo,.ref hi])
  have ne:lo≠hi:=λz=>by subst z;rw [ae] at hhi;cases hhi
  have hhi1:H1 hi=none:=by rw [au (Ne.symm ne)] at hhi;exact hhi
  refine ⟨_,rfl,l,rfl,⟨us,SqL.of ((u1.trans (u2.trans u3)) _ _ hl1)⟩,?_⟩
  refine kW (xs:=us) (λi σ H'=>i<=us.length/\SqT K H' pt [.ref lo,.ref hi]/\MI K H1 H' lo hi (Hu.fl (Hu.stp h (Hu.tv r h)) i) (Hu.fl (Hu.stp h (Hu.tn r h)) i)/\∃ o5 o6 o7 o8,σ=[some (.ref l),some x,some (.ref d),some (.ref pt),o5,o6,o7,o8])
   ⟨Nat.zero_le _,SqT.of ae,⟨u1.trans (u2.trans u3),[],[],(u2.trans u3) _ _ ae,u3 _ _ ae,rfl,rfl⟩,_,_,_,_,rfl⟩ (λi σ H' _ z=>SqL.of (z.2.2.1.sm _ _ hl1)) (λi v T' σ H' hv z hT=>?_) (fun σ H' z=>?_)
  ·obtain ⟨_,sp,mi,o5,o6,o7,o8,rfl⟩:=z
   have hi':i < us.length:=(List.getElem?_eq_some_iff.mp hv).1
   have uT:=aq hT (.tup [.int i,v])
   obtain ⟨p,hp,dp⟩:=lG (da1.ts mi.sm.ts) hv
   have ep:p=Hu.cor h i:=by rw [Hu.kY (by omega)] at hp;exact (Option.some.inj hp).symm
   subst ep
   have f1:=Hu.pe (Hu.kg hu (Hu.tv r h)).len i
   have f2:=Hu.pe (Hu.kg hu (Hu.tn r h)).len i
   refine ⟨T',_,rfl,SqT.of ae,rfl,_,_,rfl,_,_,rfl,rfl,?_⟩
   refine hq1 _ _ H1 _ d pt lo hi v i _ _ o7 o8 (by omega) (mi.new uT) hl1 hd hlo hhi1 ne (sp.ts uT.ts) da1 (dp.ts uT.ts) (by omega) (by omega) λH'' o7' o8' sp' m=>⟨hi',sp',?_,_,_,_,_,rfl⟩
   rw [Hu.aV,Hu.aV]
   exact m
  ·obtain ⟨_,sp,mi,o5,o6,o7,o8,rfl⟩:=z
   rw [lu] at mi
   obtain ⟨w1,w2,e1,e2,d1,d2⟩:=mi.ex
   exact ⟨_,rfl,kc nc _ _ (sm.trans mi.sm) ⟨pt,lo,hi,w1,w2,rfl,ne,sm.free hlo,sm.free hhi1,sp,e1,e2,d1,d2⟩⟩
 obtain ⟨t4,ht4,hq4⟩:=t4
 refine ⟨_,ah (kJ (i:=2) nd rfl (Or.inl rfl) (Or.inl rfl) rfl rfl (ck (pv 0)) rfl (by decide +kernel) (by decide +kernel) rfl (show ∀ p∈Scope.names _,p.2=NameKind.free->List.lookup p.1 (ak dw).names=some .cell\/List.lookup p.1 (ak dw).names=some .free by decide +kernel) (bP (j:=1) rfl (Or.inl rfl) (by decide +kernel) (Or.inl rfl) cP) (show (["_law_corner","_law_rule"]:List Str).Nodup by decide +kernel) (λ_ _ _ _=>dB) (λ_ _ _ _=>(aD cQ (hr.mono (by decide)) rfl (aa (pv 1) (aa (pv 0) ag))))) (ah (aM (PW.pt (qw (aC qB (aR (ju rfl) rfl ib (by decide +kernel) (aa (pv 2) ag)) af (aI _)) (oN (aC qA (aR (ia rfl) rfl gG (by decide +kernel) (aa (pv 2) ag)) af (aI _))))) (ao (av eI)) aH) ht4),?_⟩
 refine ⟨_,rfl,l,rfl,⟨us,SqL.of hl⟩,λd hd0=>?_⟩
 refine nU (K:=K) (r:=r) (λH' s'=>SqL.of (s' _ _ hl)) da (by omega) hd0 ?step ?fin
 case step =>
  intro v p H' kk sm hp dp q
  exact ⟨_,rfl,_,rfl,x,v,r,p,rfl,dx.ts sm.ts,dp,br,bp p hp,q⟩
 intro H1 s1 hd
 have hne:0 < (h.map (Hu.tl r)).length:=by rw [List.length_map];exact hpos
 refine ⟨_,rfl,d,_,rfl,SqL.of hd,hne,λM hM hmin=>?_⟩
 refine ⟨_,_,rfl,rfl,_,rfl,?_⟩
 refine bY (λc=>?_) (λc=>?_)
 ·have c':0<=M:=of_decide_eq_true c
  exact kn (.inl λp hp=>Int.le_trans c' (hmin _ (List.mem_map.mpr ⟨p,hp,rfl⟩))) _ s1
 have c1:¬0<=M:=λz=>c (decide_eq_true z)
 refine ⟨_,rfl,d,_,rfl,SqL.of hd,hne,λM2 hM2 hmax=>?_⟩
 refine ⟨_,_,rfl,rfl,_,rfl,?_⟩
 refine bY (λc=>?_) (λc=>?_)
 ·have c':M2<=0:=of_decide_eq_true c
  exact kn (.inr λp hp=>Int.le_trans (hmax _ (List.mem_map.mpr ⟨p,hp,rfl⟩)) c') _ s1
 have c2:¬M2<=0:=λz=>c (decide_eq_true z)
 obtain ⟨p1,hp1,ep1⟩:=List.mem_map.mp hM
 obtain ⟨p2,hp2,ep2⟩:=List.mem_map.mp hM2
 refine hq4 H1 d (λnc=>?_) s1 hd
 rcases nc with z | z
 ·have:=z p1 hp1;omega
 ·have:=z p2 hp2;omega
end
noncomputable def jI (K:PySem.W.Frag) (n:Nat):Sp:=λvs H Q _=>∃(x:V) (l:Addr) (us:List V) (t:Hu.Tc) (h:List T3),vs=[x,.ref l]/\H l=some (.lst us)/\DatAll K H (h.map t3D) us/\Hu.HK h/\t.Sm 64/\h.length+t.deep<=20/\t.deep+1<=n/\t.bQ<=700/\Dat K H (tcD t) x/\
 (t.told h=none->∀ H',aJ H H'->Q .non H')/\
 ∀ L,t.told h=some L->∀(ll:Addr) (ws:List V) (H':Hp),aJ H H'->H' ll=some (.lst ws)->bO (HuV K H') ws L->Q (.ref ll) H'
noncomputable def dY (K:PySem.W.Frag) (H:Hp) (v:V) (rows:List Hu.Row):Prop:=∃(l:Addr) (us:List V),v=.ref l/\H l=some (.lst us)/\DatAll K H (rows.map kH) us
theorem dY.to {K:PySem.W.Frag} {H H':Hp} (s:aJ H H') (v:V) (rows:List Hu.Row) (h:dY K H v rows):dY K H' v rows:=by
 obtain ⟨l,us,rfl,e,d⟩:=h
 exact ⟨l,us,rfl,s _ _ e,d.ts s.ts⟩
noncomputable def LsOk (Ls:List (List Hu.Row)):Prop:=∀ rows∈Ls,jc rows/\0 < rows.length/\rows.length<=60
noncomputable def Gd (Ls:List (List Hu.Row)) (h:List T3) (T:Hu.Tc):Prop:=∃ L,T.told h=some L/\∀ g∈L,∀ rows∈Ls,∃ rs,Hu.run g rows []=.rules rs
noncomputable def nG (K:PySem.W.Frag) (n:Nat):Sp:=λvs H Q _=>∃(ll l:Addr) (vl us:List V) (Ls:List (List Hu.Row)) (h:List T3) (d:Nat),vs=[.ref ll,.ref l]/\H ll=some (.lst vl)/\bO (dY K H) vl Ls/\LsOk Ls/\H l=some (.lst us)/\DatAll K H (h.map t3D) us/\Hu.TnL Ls d h/\d+1<=n/\
 ∀(v:V) (T:Hu.Tc) (H':Hp),aJ H H'->Dat K H' (tcD T) v->T.Sm 61->T.deep<=d->T.bQ+1<=2 ^ d->Gd Ls h T->Q v H'
theorem sO {r:T3} {l g:Hu.Tc} {h:List T3} (n:¬Hu.gH r h):(Hu.Tc.cut r l g).told h=match l.told (Hu.low r h),g.told (Hu.high r h) with | some a,some b=>some (a++b) | _,_=>none:=by
 conv=>lhs;unfold Hu.Tc.told
 rw [if_neg n]
 all_goals (cases l.told (Hu.low r h) <;> cases g.told (Hu.high r h) <;> rfl)
theorem Gd.leaf {Ls:List (List Hu.Row)} {h:List T3} (k:∀ rows∈Ls,∃ rs,Hu.run h rows []=.rules rs):Gd Ls h .leaf:=⟨[h],rfl,λg hg rows hr=>by rw [List.mem_singleton.mp hg];exact k rows hr⟩
theorem Gd.cut {Ls:List (List Hu.Row)} {h:List T3} {t:T3} {X1 X2:Hu.Tc} (n:¬Hu.gH t h) (a:Gd Ls (Hu.low t h) X1) (b:Gd Ls (Hu.high t h) X2):Gd Ls h (.cut t X1 X2):=by
 obtain ⟨L1,e1,k1⟩:=a
 obtain ⟨L2,e2,k2⟩:=b
 exact ⟨L1++L2,by rw [sO n,e1,e2],λg hg=>(List.mem_append.mp hg).elim (k1 g) (k2 g)⟩
theorem zP {α:Type} {p:α->Prop} {L:List α} {i:Nat} {g:α} (h:∀ x∈L.take i,p x) (hg:L[i]?=some g) (k:p g):∀ x∈L.take (i+1),p x:=λx hx=>by
 rw [List.take_add_one,hg] at hx
 rcases List.mem_append.mp hx with z | z
 ·exact h x z
 ·have:x=g:=by simpa using z
  rw [this]
  exact k
section
variable {P:Program} {w:World} {K:PySem.W.Frag} {mg:Str->Option Value} {base:Heap}
theorem tX (T:aE K mg "_law_leaves" jN) (ig:Def P w K mg base 3 "_law_cut" ["_law_hull","_law_rule"] (ri K)):∀ n:Nat,Def P w K mg base (n+4) "_law_leaves" ["_law_tree","_law_hull"] (jI K n):=by
 intro n
 induction n with
 | zero =>
  refine aO T iP (λ_ _ _ _ _ _=>L2.ar2 λ_ _=>rfl) (λvs H Q E h=>?_) (λf cdv A outer s H vs Q E hr h=>?_)
  ·obtain ⟨x,l,us,t,h,rfl,_⟩:=h
   rfl
  ·obtain ⟨x,l,us,t,h,rfl,_,_,_,_,_,z,_⟩:=h
   omega
 | succ n dH =>
  refine aO T iP (λ_ _ _ _ _ _=>L2.ar2 λ_ _=>rfl) (λvs H Q E h=>?_) (λf cdv A outer s H vs Q E hr h=>?_)
  ·obtain ⟨x,l,us,t,h,rfl,_⟩:=h
   rfl
  obtain ⟨x,l,us,t,h,rfl,el,da,hk,sm,hl,dn,cu,dx,q1,q2⟩:=h
  have nd:=iP.nd
  have n3:=hk.n3
  refine ⟨_,(ah (aM (aC aZ (aw az (pv 0) af (λ_ _=>rfl)) aK (aI _)) (ao (av (bo (aa (pv 1) ag)))) aH)
  (ah (aF (i:=2) nd rfl (Or.inl rfl) (aD ig (hr.mono (by omega)) rfl (aa (pv 1) (aa (aw az (pv 0) af (λ_ _=>rfl)) ag))))
  (ah (aM (aC jR (pv 2) eI (aI _)) (ao (av eI)) aH)
  (ah (aF (i:=3) nd rfl (Or.inl rfl) (aD dH (hr.mono (by omega)) rfl (aa (aw az (pv 0) af (λ_ _=>rfl)) (aa (aw az (pv 2) af (λ_ _=>rfl)) ag))))
  (ah (aF (i:=4) nd rfl (Or.inl rfl) (aD dH (hr.mono (by omega)) rfl (aa (aw az (pv 0) af (λ_ _=>rfl)) (aa (aw az (pv 2) af (λ_ _=>rfl)) ag))))
  (ah (aM (PW.pt (qw (aC jR (pv 3) eI (aI _)) (oN (aC jR (pv 4) eI (aI _))))) (ao (av eI)) aH)
  (ao (av (aA BD (pv 3) (pv 4)))))))))),?_⟩
  cases t with
  | leaf =>
   obtain ⟨a,rfl,sq⟩:=qX dx
   refine ⟨_,rfl,_,_,_,_,rfl,rfl,sq,rfl,rfl,_,rfl,dk ?_⟩
   refine ⟨_,rfl,(by show 1<=sizeLine;decide),λll hll=>?_⟩
   have u:=aq hll (.lst [.ref l])
   exact q2 [h] rfl ll [.ref l] _ u ae (.cons ⟨l,us,rfl,u _ _ el,da.ts u.ts⟩ .nil)
  | cut r t1 t2 =>
   obtain ⟨a,x1,y1,z1,rfl,sq,d1,d2,d3⟩:=vB dx
   refine ⟨_,rfl,_,_,_,_,rfl,rfl,sq,rfl,rfl,_,rfl,bM ?_⟩
   have dp:max t1.deep t2.deep+1+h.length<=20:=by simp only [Hu.Tc.deep] at hl;omega
   have dn':max t1.deep t2.deep+1+1<=n+1:=dn
   have cu':1+t1.bQ+t2.bQ<=700:=cu
   refine ⟨_,rfl,_,rfl,_,_,_,_,rfl,rfl,sq,rfl,l,x1,us,h,r,rfl,el,da,d1,hk.hull.mono (by decide) (by omega),sm.1.mono (by decide),λnc H1 s1=>?_,λnc v2 H1 s1 cr=>?_⟩
   ·refine ⟨_,rfl,rfl,_,rfl,dk ?_⟩
    refine q1 ?_ H1 s1
    unfold Hu.Tc.told
    rw [if_pos nc]
   ·obtain ⟨t2',la,lb,us1,us2,rfl,nab,fa,fb,sqp,ea,eb,da1,da2⟩:=cr
    have C:=Hu.bQ hk sm.1 nc
    have c1:=C.ll
    have c2:=C.lh
    have et:=sO (l:=t1) (g:=t2) nc
    refine ⟨_,rfl,rfl,_,rfl,bM ?_⟩
    refine ⟨_,rfl,_,_,_,_,rfl,rfl,sq.ts s1.ts,rfl,_,rfl,_,_,_,_,rfl,rfl,sqp,rfl,y1,la,us1,t1,_,rfl,ea,da1,C.lo,sm.2.1,by omega,by omega,by omega,d2.ts s1.ts,λn1 H2 s2=>?_,λL1 e1 l1 w1 H2 s2 el1 al1=>?_⟩
    ·have s12:=s1.trans s2
     refine ⟨_,rfl,_,_,_,_,rfl,rfl,sq.ts s12.ts,rfl,_,rfl,_,_,_,_,rfl,rfl,sqp.ts s2.ts,rfl,z1,lb,us2,t2,_,rfl,s2 _ _ eb,da2.ts s2.ts,C.hi,sm.2.2,by omega,by omega,by omega,d3.ts s12.ts,λn2 H3 s3=>?_,λL2 e2 l2 w2 H3 s3 el2 al2=>?_⟩
     ·refine ⟨_,rfl,rfl,_,rfl,dk (dk ?_)⟩
      exact q1 (by rw [et,n1]) H3 (s12.trans s3)
     ·refine ⟨_,rfl,rfl,_,rfl,dk (dk ?_)⟩
      exact q1 (by rw [et,n1]) H3 (s12.trans s3)
    ·have s12:=s1.trans s2
     refine ⟨_,rfl,_,_,_,_,rfl,rfl,sq.ts s12.ts,rfl,_,rfl,_,_,_,_,rfl,rfl,sqp.ts s2.ts,rfl,z1,lb,us2,t2,_,rfl,s2 _ _ eb,da2.ts s2.ts,C.hi,sm.2.2,by omega,by omega,by omega,d3.ts s12.ts,λn2 H3 s3=>?_,λL2 e2 l2 w2 H3 s3 el2 al2=>?_⟩
     ·refine ⟨_,rfl,rfl,_,rfl,bM ⟨_,rfl,rfl,_,rfl,dk ?_⟩⟩
      exact q1 (by rw [et,e1,n2]) H3 (s12.trans s3)
     ·refine ⟨_,rfl,rfl,_,rfl,bM ⟨_,rfl,rfl,_,rfl,bM ?_⟩⟩
      have k1:=fV e1
      have k2:=fV e2
      have lw1:=al1.len
      have lw2:=al2.len
      refine ⟨_,rfl,_,rfl,l1,l2,w1,w2,rfl,rfl,s3 _ _ el1,el2,Nat.le_of_lt (aN (by omega)),λl3 h3=>?_⟩
      have u3:=aq h3 (.lst (w1++w2))
      exact q2 (L1++L2) (by rw [et,e1,e2]) l3 _ _ ((s12.trans s3).trans u3) ae ((al1.imp (HuV.to (s3.trans u3))).app (al2.imp (HuV.to u3)))
theorem BV (T:aE K mg "_law_grown" lO) (ig:Def P w K mg base 3 "_law_cut" ["_law_hull","_law_rule"] (ri K)) (fH:Def P w K mg base 3 "_law_rules" ["_law_rows","_law_hull"] (kq K)):∀ n:Nat,Def P w K mg base (n+4) "_law_grown" ["_law_lists","_law_hull"] (nG K n):=by
 intro n
 induction n with
 | zero =>
  refine aO T jK (λ_ _ _ _ _ _=>L2.ar2 λ_ _=>rfl) (λvs H Q E h=>?_) (λf cdv A outer s H vs Q E hr h=>?_)
  ·obtain ⟨ll,l,vl,us,Ls,h,d,rfl,_⟩:=h
   rfl
  ·obtain ⟨ll,l,vl,us,Ls,h,d,rfl,_,_,_,_,_,_,z,_⟩:=h
   omega
 | succ n bW =>
  refine aO T jK (λ_ _ _ _ _ _=>L2.ar2 λ_ _=>rfl) (λvs H Q E h=>?_) (λf cdv A outer s H vs Q E hr h=>?_)
  ·obtain ⟨ll,l,vl,us,Ls,h,d,rfl,_⟩:=h
   rfl
  obtain ⟨ll,l,vl,us,Ls,h,d,rfl,ell,al,ok,el,da,tn,dn,q⟩:=h
  have nd:=jK.nd
  have n3:=tn.hk.n3
  have ln:=tn.ln
  refine ⟨_,(ah (fN PassesOwn.never rfl (ck (pv 0)) (aW (i:=2) nd rfl (Or.inl rfl)) (ah (aF (i:=3) nd rfl (Or.inl rfl) (aD fH (hr.mono (by omega)) rfl (aa (pv 2) (aa (pv 1) ag))))
  (ao (aM (aC aZ (aw az (pv 3) af (λ_ _=>rfl)) aK (aI _)) (ah (aF (i:=4) nd rfl (Or.inl rfl) (aD ig (hr.mono (by omega)) rfl (aa (pv 1) (aa (aw az (pv 3) af (λ_ _=>rfl)) ag))))
  (ao (av (aL (aa aK (aa (aw az (pv 3) af (λ_ _=>rfl)) (aa (aD bW (hr.mono (by omega)) rfl (aa (pv 0) (aa (aw az (pv 4) af (λ_ _=>rfl)) ag))) (aa (aD bW (hr.mono (by omega)) rfl (aa (pv 0) (aa (aw az (pv 4) af (λ_ _=>rfl)) ag))) ag)))))))) aH))))
  (ao (av (aL (aa aK ag))))),?_⟩
  refine ⟨_,rfl,ll,rfl,⟨vl,SqL.of ell⟩,?_⟩
  refine gi (xs:=vl) (λi σ H'=>aJ H H'/\(∀ rows∈Ls.take i,∃ rs,Hu.run h rows []=.rules rs)/\∃ o2 o3 o4,σ=[some (.ref ll),some (.ref l),o2,o3,o4]) ⟨aJ.refl _,(λx hx=>by simp at hx),_,_,_,rfl⟩ (λi σ H' _ z=>SqL.of (z.1 _ _ ell)) (λi v σ H' hv z=>?_) (fun σ H' z=>?_)
  ·obtain ⟨s1,ki,o2,o3,o4,rfl⟩:=z
   obtain ⟨rows,hr0,lr,ur,rfl,er,dr⟩:=(al.imp (dY.to s1)).get i v hv
   have hm:=List.mem_of_getElem? hr0
   obtain ⟨rk,rp,rl⟩:=ok rows hm
   refine ⟨_,rfl,_,rfl,lr,l,ur,us,rows,h,rfl,er,dr,rk,rp,by omega,s1 _ _ el,da.ts s1.ts,λp hp=>(tn.hk.ok p hp).r.mono (by decide),by omega,by omega,λout v2 H2 s2 ro od=>?_⟩
   have s12:=s1.trans s2
   cases out with
   | rules rs =>
    obtain ⟨rt,lq,wq,rfl,rb,rlen,flq,sqr,elq,dq⟩:=od
    refine ⟨_,rfl,_,_,_,_,rfl,rfl,sqr,rfl,rfl,_,rfl,ite_no (by decide +kernel) ?_⟩
    exact ⟨s12,zP ki hr0 ⟨_,ro⟩,_,_,_,rfl⟩
   | mixed k tt =>
    obtain ⟨ta,x,rfl,sqr,dv⟩:=od
    refine ⟨_,rfl,_,_,_,_,rfl,rfl,sqr,rfl,rfl,_,rfl,ite_yes rfl ?_⟩
    obtain ⟨bt,d',rfl,T1,T2⟩:=tn.cut hm rk rl ro
    refine ⟨_,rfl,_,rfl,_,_,_,_,rfl,rfl,sqr,rfl,l,x,us,h,tt,rfl,s12 _ _ el,da.ts s12.ts,dv,tn.hk.hull.mono (by decide) (by omega),bt.mono (by decide),(λz=>absurd z (Hu.ma ro)),λ_ v3 H3 s3 cr=>?_⟩
    obtain ⟨t2',la,lb,us1,us2,rfl,nab,fa,fb,sqp,ea,eb,da1,da2⟩:=cr
    have s13:=s12.trans s3
    refine ⟨_,rfl,_,_,_,_,rfl,rfl,sqr.ts s3.ts,rfl,_,rfl,_,rfl,_,_,_,_,rfl,rfl,sqp,rfl,ll,la,vl,us1,Ls,_,d',rfl,s13 _ _ ell,al.imp (dY.to s13),ok,ea,da1,T1,by omega,λv4 X1 H4 s4 d4 m4 p4 c4 g4=>?_⟩
    have s14:=s13.trans s4
    refine ⟨_,rfl,_,rfl,_,_,_,_,rfl,rfl,sqp.ts s4.ts,rfl,ll,lb,vl,us2,Ls,_,d',rfl,s14 _ _ ell,al.imp (dY.to s14),ok,s4 _ _ eb,da2.ts s4.ts,T2,by omega,λv5 X2 H5 s5 d5 m5 p5 c5 g5=>?_⟩
    refine ⟨(by show 4<=sizeLine;decide),λp hp=>?_⟩
    have u6:=aq hp (.tup [.str "cut",x,v4,v5])
    have e2:2 ^ (d'+1)=2*2 ^ d':=by rw [Nat.pow_succ];omega
    refine q _ (.cut tt X1 X2) _ ((s14.trans s5).trans u6) (fB (SqT.of ae) (dv.ts (((s3.trans s4).trans s5).trans u6).ts) (d4.ts (s5.trans u6).ts) (d5.ts u6.ts)) ⟨bt,m4,m5⟩ (by simp only [Hu.Tc.deep];omega) (by show 1+X1.bQ+X2.bQ+1<=_;omega) (Gd.cut (Hu.ma ro) g4 g5)
  ·obtain ⟨s1,ki,o2,o3,o4,rfl⟩:=z
   rw [al.len,List.take_length] at ki
   refine ⟨(by show 1<=sizeLine;decide),λp hp=>?_⟩
   have u:=aq hp (.tup [.str "leaf"])
   exact q _ .leaf _ (s1.trans u) (eY (SqT.of ae)) trivial (Nat.zero_le _) (Nat.one_le_two_pow) (Gd.leaf ki)
end
noncomputable def sY (K:PySem.W.Frag):Sp:=λvs H Q _=>vs=[]/\∀(l:Addr) (us:List V) (H':Hp),aJ H H'->H' l=some (.lst us)->DatAll K H' (Hu.sqH.map t3D) us->Q (.ref l) H'
section
variable {P:Program} {w:World} {K:PySem.W.Frag} {mg:Str->Option Value} {base:Heap}
theorem ok_lsq (T:aE K mg "_law_square" ik):Def P w K mg base 1 "_law_square" [] (sY K):=by
 refine aO T tJ (λ_ _ _ _ _ _=>L2.ar0 rfl) (λvs H Q E h=>?_) (λf cdv A outer s H vs Q E hr h=>?_)
 ·obtain ⟨rfl,_⟩:=h
  rfl
 obtain ⟨rfl,q⟩:=h
 obtain ⟨e,p,he,eq⟩:∃ e p,IsSq e/\aY ik=[.Return (some e) p]:=⟨_,_,⟨_,_,_,_,_,_,_,_,_,_,_,_,_,_,_,_,_,_,_,_,_,_,_,_,_,_,_,_,_,_,_,_,_,rfl⟩,rfl⟩
 rw [eq]
 refine ⟨_,ao (av (pe_sq he)),?_⟩
 refine ⟨(by show 3<=sizeLine;decide),λt1 h1=>⟨(by show 3<=sizeLine;decide),λt2 h2=>⟨(by show 3<=sizeLine;decide),λt3 h3=>⟨(by show 3<=sizeLine;decide),λt4 h4=>⟨(by show 4<=sizeLine;decide),λl h5=>?_⟩⟩⟩⟩⟩
 have u1:=aq h1 (.tup [.int 1,.int 0,.int 0])
 have u2:=aq h2 (.tup [.int 1,.int 1,.int 0])
 have u3:=aq h3 (.tup [.int 1,.int 1,.int 1])
 have u4:=aq h4 (.tup [.int 1,.int 0,.int 1])
 have u5:=aq h5 (.lst [.ref t1,.ref t2,.ref t3,.ref t4])
 refine q l _ _ (u1.trans (u2.trans (u3.trans (u4.trans u5)))) ae ?_
 exact ⟨_,_,rfl,bU (p:=⟨1,0,0⟩) (SqT.of ((u2.trans (u3.trans (u4.trans u5))) _ _ ae)),_,_,rfl,bU (p:=⟨1,1,0⟩) (SqT.of ((u3.trans (u4.trans u5)) _ _ ae)),_,_,rfl,bU (p:=⟨1,1,1⟩) (SqT.of ((u4.trans u5) _ _ ae)),_,_,rfl,bU (p:=⟨1,0,1⟩) (SqT.of (u5 _ _ ae)),rfl⟩
end
theorem Bk {a b c:Int} {n:Nat} (h1:a.natAbs < 2 ^ n) (h2:b.natAbs < 2 ^ n) (h3:c.natAbs < 2 ^ n):Hu.R3 n ⟨a,b,c⟩:=⟨h1,h2,h3⟩
noncomputable def jP (v:Int):T3:=if v % 5=0 then ⟨v / 5 % 41 - 20,v / 205 % 41 - 20,v / 8405 % 61 - 30⟩ else ⟨v / 5 % 7 - 3,v / 35 % 7 - 3,v / 245 % 7 - 3⟩
theorem rule_r3 (v:Int):Hu.R3 5 (jP v):=by
 unfold jP
 split
 ·exact Bk (by omega) (by omega) (by omega)
 ·exact Bk (by omega) (by omega) (by omega)
noncomputable def xf (K:PySem.W.Frag):Sp:=λvs H Q _=>∃ v:Int,vs=[.int v]/\∀(t:Addr) (H':Hp),aJ H H'->Dat K H' (t3D (jP v)) (.ref t)->Q (.ref t) H'
section
variable {P:Program} {w:World} {K:PySem.W.Frag} {mg:Str->Option Value} {base:Heap}
theorem yT (T:aE K mg "_law_rule_by" iS):Def P w K mg base 1 "_law_rule_by" ["_law_cell"] (xf K):=by
 refine aO T ky (λ_ _ _ _ _ _=>L2.ar1 λ_=>rfl) (λvs H Q E h=>?_) (λf cdv A outer s H vs Q E hr h=>?_)
 ·obtain ⟨v,rfl,_⟩:=h
  rfl
 obtain ⟨v,rfl,q⟩:=h
 have nd:=ky.nd
 refine ⟨_,(ah (aM (aC aZ (aA aX (pv 0) af) af (aI _)) (ao (av (aL (aa (aA eM (aA aX (aA bu (pv 0) af) af) af) (aa (aA eM (aA aX (aA bu (pv 0) af) af) af) (aa (aA eM (aA aX (aA bu (pv 0) af) af) af) ag)))))) aH)
  (ao (av (aL (aa (aA eM (aA aX (aA bu (pv 0) af) af) af) (aa (aA eM (aA aX (aA bu (pv 0) af) af) af) (aa (aA eM (aA aX (aA bu (pv 0) af) af) af) ag))))))),?_⟩
 refine ⟨_,rfl,_,_,rfl,rfl,(show (0:Int) < _ by decide),rfl,_,rfl,?_⟩
 refine bY (λc=>?_) (λc=>?_)
 ·have c':v % 5=0:=V.int.inj (of_decide_eq_true c)
  refine ⟨_,rfl,_,_,rfl,rfl,⟨by decide,by decide⟩,_,_,rfl,rfl,(show (0:Int) < _ by decide),_,_,rfl,rfl,_,rfl,_,_,rfl,rfl,⟨by decide,by decide⟩,_,_,rfl,rfl,(show (0:Int) < _ by decide),_,_,rfl,rfl,_,rfl,_,_,rfl,rfl,⟨by decide,by decide⟩,_,_,rfl,rfl,(show (0:Int) < _ by decide),_,_,rfl,rfl,(by show 3<=sizeLine;decide),λt ht=>?_⟩
  have u1:=aq ht (.tup [.int (v / 5 % 41 - 20),.int (v / 205 % 41 - 20),.int (v / 8405 % 61 - 30)])
  refine q t _ u1 ?_
  unfold jP
  rw [if_pos c']
  exact bU (p:=⟨v / 5 % 41 - 20,v / 205 % 41 - 20,v / 8405 % 61 - 30⟩) (SqT.of ae)
 ·have c':¬v % 5=0:=λz=>c (decide_eq_true (congrArg V.int z))
  refine ⟨_,rfl,_,_,rfl,rfl,⟨by decide,by decide⟩,_,_,rfl,rfl,(show (0:Int) < _ by decide),_,_,rfl,rfl,_,rfl,_,_,rfl,rfl,⟨by decide,by decide⟩,_,_,rfl,rfl,(show (0:Int) < _ by decide),_,_,rfl,rfl,_,rfl,_,_,rfl,rfl,⟨by decide,by decide⟩,_,_,rfl,rfl,(show (0:Int) < _ by decide),_,_,rfl,rfl,(by show 3<=sizeLine;decide),λt ht=>?_⟩
  have u1:=aq ht (.tup [.int (v / 5 % 7 - 3),.int (v / 35 % 7 - 3),.int (v / 245 % 7 - 3)])
  refine q t _ u1 ?_
  unfold jP
  rw [if_neg c']
  exact bU (p:=⟨v / 5 % 7 - 3,v / 35 % 7 - 3,v / 245 % 7 - 3⟩) (SqT.of ae)
end
theorem yp {K:PySem.W.Frag} {te:TE} {js:List Nat} {σ:St} {H:Hp} {Q:VK} {l:Addr} {is:List Int} (g:Int->Int) (sq:SqT K H l (is.map V.int)) (hx:is.length<=1000)
  (hs:∀(i:Int) (H':Hp) (N:VK),aJ H H'->(∀ H'',aJ H' H''->N (.int (g i)) H'')->te (some (.int i)::cw js σ) H' N)
  (hd:∀ D H',aJ H H'->H D=none->H' D=some (.lst ((is.map g).map V.int))->Q (.ref D) H'):iA (λ_ H R=>R (Itt K l) H) mK te js σ H Q:=by
 intro D hD
 refine ⟨λi m H'=>m=is.length - i/\i<=is.length/\aJ H H'/\H' D=some (.lst (((is.take i).map g).map V.int)),⟨is.length,rfl,Nat.zero_le _,aq hD _,ae⟩,?_⟩
 rintro i m H2 ⟨rfl,hi,s2,eD⟩
 have sq2:=sq.ts s2.ts
 by_cases hlt:i < is.length
 ·have h1:(is.map V.int)[i]?=some (.int is[i]):=by rw [List.getElem?_map,List.getElem?_eq_getElem hlt];rfl
  refine .inr ⟨⟨_,_,sq2,h1⟩,λv H3 y=>?_⟩
  obtain ⟨rfl,y⟩:=y
  have hv:=y _ sq2
  rw [h1] at hv
  cases hv
  refine gS ?_
  refine hs _ _ _ s2 λH4 s4=>?_
  refine ⟨_,s4 _ _ eD,Nat.lt_of_le_of_lt (show _<=1000 by rw [List.length_map,List.length_map,List.length_take];omega) (by decide),is.length - (i+1),by omega,rfl,hlt,aT (s2.trans s4) hD _,?_⟩
  rw [ae,List.take_add_one,List.getElem?_eq_getElem hlt,List.map_append,List.map_append]
  rfl
 ·have ei:i=is.length:=by omega
  subst ei
  rw [List.take_length] at eD
  exact .inl ⟨⟨_,sq2,by simp⟩,hd D H2 s2 hD eD⟩
noncomputable def xh (K:PySem.W.Frag):Sp:=λvs H Q _=>∃(x:V) (r:T3) (c:Int),vs=[x,.int c]/\Dat K H (t3D r) x/\Hu.R3 61 r/\∀(v:V) (r':T3) (H':Hp),aJ H H'->Dat K H' (t3D r') v->Hu.R3 63 r'->Q v H'
noncomputable def sX (K:PySem.W.Frag) (n:Nat):Sp:=λvs H Q _=>∃(x:V) (t:Hu.Tc) (c:Int),vs=[x,.int c]/\Dat K H (tcD t) x/\t.Sm 61/\t.deep+1<=n/\∀(v:V) (t':Hu.Tc) (H':Hp),aJ H H'->Dat K H' (tcD t') v->t'.Sm 63->t'.deep<=t.deep+1->t'.bQ<=t.bQ+1->Q v H'
noncomputable def xw (K:PySem.W.Frag):Sp:=λvs H Q _=>∃(ll:Addr) (vl:List V) (Ls:List (List Hu.Row)) (c:Int),vs=[.ref ll,.int c]/\H ll=some (.lst vl)/\bO (dY K H) vl Ls/\LsOk Ls/\(Ls.map Hu.fds).sum<=8/\∀(v:V) (T:Hu.Tc) (H':Hp),aJ H H'->Dat K H' (tcD T) v->T.Sm 61->T.deep<=9->T.bQ<=511->Q v H'
theorem qZ {Ls:List (List Hu.Row)} (h:(Ls.map Hu.fds).sum<=8):Hu.TnL Ls 8 Hu.sqH:=⟨Hu.ko,by show 4+8<=20;decide,Nat.le_trans (Hu.nV Ls λx _=>Hu.need_le _ x) h⟩
theorem k_lt {k u:Int} (h0:0<=k) (h4:k<=4) (h:u.natAbs < 2 ^ 61):(k*u).natAbs < 2 ^ 63:=by
 rw [Int.natAbs_mul]
 have:k.natAbs*u.natAbs<=4*u.natAbs:=Nat.mul_le_mul_right _ (by omega)
 omega
section
variable {P:Program} {w:World} {K:PySem.W.Frag} {mg:Str->Option Value} {base:Heap}
theorem BN (T:aE K mg "_law_other_rule" cf) (bI:mg "tuple"=none):Def P w K mg base 1 "_law_other_rule" ["_law_rule","_law_cell"] (xh K):=by
 refine aO T iB (λ_ _ _ _ _ _=>L2.ar2 λ_ _=>rfl) (λvs H Q E h=>?_) (λf cdv A outer s H vs Q E hr h=>?_)
 ·obtain ⟨x,r,c,rfl,_⟩:=h
  rfl
 obtain ⟨x,r,c,rfl,dx,r61,q⟩:=h
 have nd:=iB.nd
 obtain ⟨ra,rfl,sq⟩:=eA dx
 obtain ⟨b1,b2,b3⟩:=r61
 refine ⟨_,(ah (aM (aC aZ (aA aX (pv 1) af) af (aI _)) (ao (av (cC bV rfl bI (by decide +kernel) (aa (eJ rfl (vP (pv 0)) rfl (by decide +kernel) (by decide +kernel) rfl (show ∀ p∈Scope.names _,p.2=NameKind.free->List.lookup p.1 (ak cf).names=some .cell\/List.lookup p.1 (ak cf).names=some .free by decide +kernel) (bP (j:=1) rfl (Or.inl rfl) (by decide +kernel) (Or.inl rfl) cP) (show (["_law_number","_law_cell"]:List Str).Nodup by decide +kernel) (λ_ _ _ _=>dB) (λ_ _ _ _=>(aA bg (aA bR af (aA aX (aA bu (pv 1) af) af)) (pv 0)))) ag)))) aH)
  (ah (aM (aC aZ (aA aX (pv 1) af) af (aI _)) (ao (av (cC bV rfl bI (by decide +kernel) (aa (eJ rfl (vP (pv 0)) rfl (by decide +kernel) (by decide +kernel) rfl (show ∀ p∈Scope.names _,p.2=NameKind.free->List.lookup p.1 (ak cf).names=some .cell\/List.lookup p.1 (ak cf).names=some .free by decide +kernel) cP (show (["_law_number"]:List Str).Nodup by decide +kernel) (λ_ _ _ _=>dB) (λ_ _ _ _=>(jE gM (pv 0)))) ag)))) aH)
  (ah (aM (aC aZ (aA aX (pv 1) af) af (aI _)) (ao (av (aL (aa (aw az (pv 0) af (λ_ _=>rfl)) (aa (aw az (pv 0) af (λ_ _=>rfl)) (aa (aA eM (aA bR (aw az (pv 0) af (λ_ _=>rfl)) af) (aA bg (aA aX (aA bu (pv 1) af) af) af)) ag)))))) aH)
  (ao (av (aL (aa (aw az (pv 0) af (λ_ _=>rfl)) (aa (aw az (pv 0) af (λ_ _=>rfl)) (aa (aw az (pv 0) af (λ_ _=>rfl)) ag))))))))),?_⟩
 refine ⟨_,rfl,_,_,rfl,rfl,(show (0:Int) < 4 by decide),rfl,_,rfl,bY (λ_=>?_) (λ_=>?_)⟩
 ·dsimp only [vC,tCB,dZ,jH]
  refine jt ?_
  refine ⟨_,rfl,ra,rfl,⟨_,sq⟩,?_⟩
  have k0:=Int.emod_nonneg (c / 4) (show (3:Int)≠0 by decide)
  have k1:=Int.emod_lt_of_pos (c / 4) (show (0:Int) < 3 by decide)
  refine yp (K:=K) (is:=[r.u,r.v,r.w]) (λi=>(2+c / 4 % 3)*i) sq (by show 3<=1000;decide) (λi H' N s1 hN=>?_) (λD H' s1 hD eD=>?_)
  ·exact ⟨_,rfl,_,_,rfl,rfl,⟨by decide,by decide⟩,_,_,rfl,rfl,(show (0:Int) < 3 by decide),_,_,rfl,rfl,_,rfl,_,_,rfl,rfl,uv (intBits_le_64 (by omega) (by omega)),hN _ (aJ.refl _)⟩
  ·refine ⟨D,_,rfl,.inl ⟨SqL.of eD,λp hp=>?_⟩⟩
   exact q _ ⟨(2+c / 4 % 3)*r.u,(2+c / 4 % 3)*r.v,(2+c / 4 % 3)*r.w⟩ _ (s1.trans (aq hp _)) (bU (SqT.of ae)) ⟨k_lt (by omega) (by omega) b1,k_lt (by omega) (by omega) b2,k_lt (by omega) (by omega) b3⟩
 refine ⟨_,rfl,_,_,rfl,rfl,(show (0:Int) < 4 by decide),rfl,_,rfl,bY (λ_=>?_) (λ_=>?_)⟩
 ·dsimp only [vC,tCB,dZ,jH]
  refine jt ?_
  refine ⟨_,rfl,ra,rfl,⟨_,sq⟩,?_⟩
  refine yp (K:=K) (is:=[r.u,r.v,r.w]) (λi=>-i) sq (by show 3<=1000;decide) (λi H' N s1 hN=>?_) (λD H' s1 hD eD=>?_)
  ·exact ⟨_,rfl,_,rfl,hN _ (aJ.refl _)⟩
  ·refine ⟨D,_,rfl,.inl ⟨SqL.of eD,λp hp=>?_⟩⟩
   exact q _ ⟨-r.u,-r.v,-r.w⟩ _ (s1.trans (aq hp _)) (bU (SqT.of ae)) ⟨by show (-r.u).natAbs < _;omega,by show (-r.v).natAbs < _;omega,by show (-r.w).natAbs < _;omega⟩
 refine ⟨_,rfl,_,_,rfl,rfl,(show (0:Int) < 4 by decide),rfl,_,rfl,bY (λ_=>?_) (λ_=>?_)⟩
 ·have k0:=Int.emod_nonneg (c / 4) (show (2:Int)≠0 by decide)
  have k1:=Int.emod_lt_of_pos (c / 4) (show (0:Int) < 2 by decide)
  refine ⟨_,rfl,_,_,_,_,rfl,rfl,sq,rfl,_,rfl,_,_,_,_,rfl,rfl,sq,rfl,_,rfl,_,_,_,_,rfl,rfl,sq,rfl,_,_,rfl,rfl,_,rfl,_,_,rfl,rfl,⟨by decide,by decide⟩,_,_,rfl,rfl,(show (0:Int) < 2 by decide),_,_,rfl,rfl,uv (intBits_le_64 (by omega) (by omega)),_,_,rfl,rfl,(by show 3<=sizeLine;decide),λp hp=>?_⟩
  exact q _ ⟨r.u,r.v,r.w+1 - c / 4 % 2*2⟩ _ (aq hp _) (bU (SqT.of ae)) ⟨by show r.u.natAbs < _;omega,by show r.v.natAbs < _;omega,by show (r.w+1 - c / 4 % 2*2).natAbs < _;omega⟩
 ·refine ⟨_,rfl,_,_,_,_,rfl,rfl,sq,rfl,_,rfl,_,_,_,_,rfl,rfl,sq,rfl,_,rfl,_,_,_,_,rfl,rfl,sq,rfl,(by show 3<=sizeLine;decide),λp hp=>?_⟩
  exact q _ ⟨r.v,r.u,r.w⟩ _ (aq hp _) (bU (SqT.of ae)) ⟨by show r.v.natAbs < _;omega,by show r.u.natAbs < _;omega,by show r.w.natAbs < _;omega⟩
theorem yS (T:aE K mg "_law_spoilt" jL) (mE:Def P w K mg base 1 "_law_other_rule" ["_law_rule","_law_cell"] (xh K)):∀ n:Nat,Def P w K mg base (n+2) "_law_spoilt" ["_law_tree","_law_cell"] (sX K n):=by
 intro n
 induction n with
 | zero =>
  refine aO T iO (λ_ _ _ _ _ _=>L2.ar2 λ_ _=>rfl) (λvs H Q E h=>?_) (λf cdv A outer s H vs Q E hr h=>?_)
  ·obtain ⟨x,t,c,rfl,_⟩:=h
   rfl
  ·obtain ⟨x,t,c,rfl,_,_,z,_⟩:=h
   omega
 | succ n fU =>
  refine aO T iO (λ_ _ _ _ _ _=>L2.ar2 λ_ _=>rfl) (λvs H Q E h=>?_) (λf cdv A outer s H vs Q E hr h=>?_)
  ·obtain ⟨x,t,c,rfl,_⟩:=h
   rfl
  obtain ⟨x,t,c,rfl,dx,sm,dn,q⟩:=h
  have nd:=iO.nd
  have sz:∀ n:Nat,n<=100->n<=sizeLine:=λn h=>Nat.le_trans h (by decide)
  have c0:∀(z m:Int),0 < m->0<=z % m/\z % m < m:=λz m h=>⟨Int.emod_nonneg _ (by omega),Int.emod_lt_of_pos _ h⟩
  refine ⟨_,(ah (aM (aC aZ (aw az (pv 0) af (λ_ _=>rfl)) aK (aI _)) (ao (av (aL (aa aK (oR (aL (aa (aA eM (aA aX (pv 1) af) af) (aa (aA eM (aA aX (aA bu (pv 1) af) af) af) (aa (aA eM (aA aX (aA bu (pv 1) af) af) af) ag)))) (oR (aL (aa aK ag)) (oR (aL (aa aK ag)) ag))))))) aH)
  (ah (aF (i:=2) nd rfl (Or.inl rfl) (aA aX (pv 1) af))
  (ah (aM (aC aZ (pv 2) af (aI _)) (ao (av (aL (aa aK ag)))) aH)
  (ah (aM (aC aZ (pv 2) af (aI _)) (ao (av (aL (aa aK (aa (aw az (pv 0) af (λ_ _=>rfl)) (aa (aw az (pv 0) af (λ_ _=>rfl)) (aa (aw az (pv 0) af (λ_ _=>rfl)) ag))))))) aH)
  (ah (aM (aC aZ (pv 2) af (aI _)) (ao (av (aL (aa aK (aa (aD mE (hr.mono (by omega)) rfl (aa (aw az (pv 0) af (λ_ _=>rfl)) (aa (aA bu (pv 1) af) ag))) (aa (aw az (pv 0) af (λ_ _=>rfl)) (aa (aw az (pv 0) af (λ_ _=>rfl)) ag))))))) aH)
  (ah (aM (aC aZ (aA aX (pv 2) af) af (aI _)) (ao (av (aL (aa aK (aa (aw az (pv 0) af (λ_ _=>rfl)) (aa (aD fU (hr.mono (by omega)) rfl (aa (aw az (pv 0) af (λ_ _=>rfl)) (aa (aA bu (pv 1) af) ag))) (aa (aw az (pv 0) af (λ_ _=>rfl)) ag))))))) aH)
  (ao (av (aL (aa aK (aa (aw az (pv 0) af (λ_ _=>rfl)) (aa (aw az (pv 0) af (λ_ _=>rfl)) (aa (aD fU (hr.mono (by omega)) rfl (aa (aw az (pv 0) af (λ_ _=>rfl)) (aa (aA bu (pv 1) af) ag))) ag))))))))))))),?_⟩
  cases t with
  | leaf =>
   obtain ⟨a,rfl,sq⟩:=qX dx
   refine ⟨_,rfl,_,_,_,_,rfl,rfl,sq,rfl,rfl,_,rfl,dk ?_⟩
   refine ⟨_,rfl,_,_,rfl,rfl,(show (0:Int) < 7 by decide),_,_,rfl,rfl,_,rfl,_,_,rfl,rfl,⟨by decide,by decide⟩,_,_,rfl,rfl,(show (0:Int) < 7 by decide),_,_,rfl,rfl,_,rfl,_,_,rfl,rfl,⟨by decide,by decide⟩,_,_,rfl,rfl,(show (0:Int) < 5 by decide),_,_,rfl,rfl,sz 3 (by decide),λp1 h1=>?_⟩
   refine ⟨sz 1 (by decide),λp2 h2=>⟨sz 1 (by decide),λp3 h3=>⟨sz 4 (by decide),λp4 h4=>?_⟩⟩⟩
   have u1:=aq h1 (.tup [.int (c % 7 - 3),.int (c / 7 % 7 - 3),.int (c / 49 % 5 - 2)])
   have u2:=aq h2 (.tup [.str "leaf"])
   have u3:=aq h3 (.tup [.str "leaf"])
   have u4:=aq h4 (.tup [.str "cut",.ref p1,.ref p2,.ref p3])
   have x1:=c0 c 7 (by decide)
   have x2:=c0 (c / 7) 7 (by decide)
   have x3:=c0 (c / 49) 5 (by decide)
   refine q _ (.cut ⟨c % 7 - 3,c / 7 % 7 - 3,c / 49 % 5 - 2⟩ .leaf .leaf) _ (((u1.trans u2).trans u3).trans u4) (fB (SqT.of ae) ((bU (p:=⟨c % 7 - 3,c / 7 % 7 - 3,c / 49 % 5 - 2⟩) (SqT.of ae)).ts ((u2.trans u3).trans u4).ts) ((eY (SqT.of ae)).ts (u3.trans u4).ts) ((eY (SqT.of ae)).ts u4.ts)) ⟨Bk (by omega) (by omega) (by omega),trivial,trivial⟩ (by simp [Hu.Tc.deep]) (by show 1+0+0<=0+1;decide)
  | cut r t1 t2 =>
   obtain ⟨a,x1,y1,z1,rfl,sq,d1,d2,d3⟩:=vB dx
   have dn':max t1.deep t2.deep+1+1<=n+1:=dn
   have m1:t1.Sm 63:=sm.2.1.mono (by decide)
   have m2:t2.Sm 63:=sm.2.2.mono (by decide)
   have mr:Hu.R3 63 r:=sm.1.mono (by decide)
   refine ⟨_,rfl,_,_,_,_,rfl,rfl,sq,rfl,rfl,_,rfl,bM ?_⟩
   refine ⟨_,rfl,_,_,rfl,rfl,(show (0:Int) < 8 by decide),?_⟩
   refine ⟨_,rfl,rfl,_,rfl,bY (λ_=>?_) (λ_=>?_)⟩
   ·refine ⟨sz 1 (by decide),λp hp=>?_⟩
    exact q _ .leaf _ (aq hp _) (eY (SqT.of ae)) trivial (Nat.zero_le _) (Nat.zero_le _)
   refine ⟨_,rfl,rfl,_,rfl,bY (λ_=>?_) (λ_=>?_)⟩
   ·refine ⟨_,rfl,_,_,_,_,rfl,rfl,sq,rfl,_,rfl,_,_,_,_,rfl,rfl,sq,rfl,_,rfl,_,_,_,_,rfl,rfl,sq,rfl,sz 4 (by decide),λp hp=>?_⟩
    have u:=aq hp (.tup [.str "cut",x1,z1,y1])
    exact q _ (.cut r t2 t1) _ u (fB (SqT.of ae) (d1.ts u.ts) (d3.ts u.ts) (d2.ts u.ts)) ⟨mr,m2,m1⟩ (by simp only [Hu.Tc.deep];omega) (by show 1+t2.bQ+t1.bQ<=1+t1.bQ+t2.bQ+1;omega)
   refine ⟨_,rfl,rfl,_,rfl,bY (λ_=>?_) (λ_=>?_)⟩
   ·refine ⟨_,rfl,_,_,_,_,rfl,rfl,sq,rfl,_,rfl,_,_,rfl,rfl,⟨by decide,by decide⟩,x1,r,c / 8,rfl,d1,sm.1,λv r' H1 s1 dv br=>?_⟩
    refine ⟨_,rfl,_,_,_,_,rfl,rfl,sq.ts s1.ts,rfl,_,rfl,_,_,_,_,rfl,rfl,sq.ts s1.ts,rfl,sz 4 (by decide),λp hp=>?_⟩
    have u:=aq hp (.tup [.str "cut",v,y1,z1])
    exact q _ (.cut r' t1 t2) _ (s1.trans u) (fB (SqT.of ae) (dv.ts u.ts) (d2.ts (s1.trans u).ts) (d3.ts (s1.trans u).ts)) ⟨br,m1,m2⟩ (by simp only [Hu.Tc.deep];omega) (by show 1+t1.bQ+t2.bQ<=1+t1.bQ+t2.bQ+1;omega)
   refine ⟨_,rfl,_,_,rfl,rfl,(show (0:Int) < 2 by decide),rfl,_,rfl,bY (λ_=>?_) (λ_=>?_)⟩
   ·refine ⟨_,rfl,_,_,_,_,rfl,rfl,sq,rfl,_,rfl,_,_,_,_,rfl,rfl,sq,rfl,_,rfl,_,_,rfl,rfl,⟨by decide,by decide⟩,y1,t1,c / 8,rfl,d2,sm.2.1,by omega,λv t' H1 s1 dv ms md mc=>?_⟩
    refine ⟨_,rfl,_,_,_,_,rfl,rfl,sq.ts s1.ts,rfl,sz 4 (by decide),λp hp=>?_⟩
    have u:=aq hp (.tup [.str "cut",x1,v,z1])
    exact q _ (.cut r t' t2) _ (s1.trans u) (fB (SqT.of ae) (d1.ts (s1.trans u).ts) (dv.ts u.ts) (d3.ts (s1.trans u).ts)) ⟨mr,ms,m2⟩ (by simp only [Hu.Tc.deep];omega) (by show 1+t'.bQ+t2.bQ<=1+t1.bQ+t2.bQ+1;omega)
   ·refine ⟨_,rfl,_,_,_,_,rfl,rfl,sq,rfl,_,rfl,_,_,_,_,rfl,rfl,sq,rfl,_,rfl,_,_,_,_,rfl,rfl,sq,rfl,_,rfl,_,_,rfl,rfl,⟨by decide,by decide⟩,z1,t2,c / 8,rfl,d3,sm.2.2,by omega,λv t' H1 s1 dv ms md mc=>?_⟩
    refine ⟨sz 4 (by decide),λp hp=>?_⟩
    have u:=aq hp (.tup [.str "cut",x1,y1,v])
    exact q _ (.cut r t1 t') _ (s1.trans u) (fB (SqT.of ae) (d1.ts (s1.trans u).ts) (d2.ts (s1.trans u).ts) (dv.ts u.ts)) ⟨mr,m1,ms⟩ (by simp only [Hu.Tc.deep];omega) (by show 1+t1.bQ+t'.bQ<=1+t1.bQ+t2.bQ+1;omega)
theorem Cb (T:aE K mg "_law_begun_otherwise" dO) (pV:Def P w K mg base 1 "_law_rule_by" ["_law_cell"] (xf K)) (bS:Def P w K mg base 1 "_law_square" [] (sY K)) (ig:Def P w K mg base 3 "_law_cut" ["_law_hull","_law_rule"] (ri K)) (bW:Def P w K mg base 13 "_law_grown" ["_law_lists","_law_hull"] (nG K 9)):Def P w K mg base 14 "_law_begun_otherwise" ["_law_lists","_law_cell"] (xw K):=by
 refine aO T fD (λ_ _ _ _ _ _=>L2.ar2 λ_ _=>rfl) (λvs H Q E h=>?_) (λf cdv A outer s H vs Q E hr h=>?_)
 ·obtain ⟨ll,vl,Ls,c,rfl,_⟩:=h
  rfl
 obtain ⟨ll,vl,Ls,c,rfl,ell,al,ok,f8,q⟩:=h
 have nd:=fD.nd
 have tn:=qZ f8
 refine ⟨_,(ah (aF (i:=2) nd rfl (Or.inl rfl) (aD pV (hr.mono (by omega)) rfl (aa (pv 1) ag)))
  (ah (aF (i:=3) nd rfl (Or.inl rfl) (aD ig (hr.mono (by omega)) rfl (aa (gx bS (hr.mono (by omega)) rfl) (aa (pv 2) ag))))
  (ah (aM (aC jR (pv 3) eI (aI _)) (ao (av (aD bW (hr.mono (by omega)) rfl (aa (pv 0) (aa (gx bS (hr.mono (by omega)) rfl) ag))))) aH)
  (ao (av (aL (aa aK (aa (pv 2) (aa (aD bW (hr.mono (by omega)) rfl (aa (pv 0) (aa (aw az (pv 3) af (λ_ _=>rfl)) ag))) (aa (aD bW (hr.mono (by omega)) rfl (aa (pv 0) (aa (aw az (pv 3) af (λ_ _=>rfl)) ag))) ag)))))))))),?_⟩
 refine ⟨_,rfl,c,rfl,λta H1 s1 dt=>?_⟩
 refine ⟨rfl,λl us H2 s2 el da=>?_⟩
 have s12:=s1.trans s2
 have br:=rule_r3 c
 refine ⟨_,rfl,l,.ref ta,us,Hu.sqH,jP c,rfl,el,da,dt.ts s2.ts,Hu.ko.hull.mono (by decide) (by decide),br.mono (by decide),λnc H3 s3=>?_,λnc v3 H3 s3 cr=>?_⟩
 ·refine ⟨_,rfl,rfl,_,rfl,dk ?_⟩
  have s13:=s12.trans s3
  refine ⟨_,rfl,rfl,λl4 us4 H4 s4 el4 da4=>?_⟩
  have s14:=s13.trans s4
  exact ⟨ll,l4,vl,us4,Ls,Hu.sqH,8,rfl,s14 _ _ ell,al.imp (dY.to s14),ok,el4,da4,tn,by decide,λv X H5 s5 d5 m5 p5 c5 _=>q v X H5 (s14.trans s5) d5 m5 (by omega) (by have:2 ^ 8=256:=rfl;omega)⟩
 ·obtain ⟨t2',la,lb,us1,us2,rfl,nab,fa,fb,sqp,ea,eb,da1,da2⟩:=cr
  refine ⟨_,rfl,rfl,_,rfl,bM ?_⟩
  obtain ⟨T1,T2⟩:=tn.cutR (br.mono (by decide)) nc (by show 4+8+1<=20;decide)
  have s13:=s12.trans s3
  refine ⟨_,rfl,_,rfl,_,rfl,_,_,_,_,rfl,rfl,sqp,rfl,ll,la,vl,us1,Ls,_,8,rfl,s13 _ _ ell,al.imp (dY.to s13),ok,ea,da1,T1,by decide,λv4 X1 H4 s4 d4 m4 p4 c4 _=>?_⟩
  have s14:=s13.trans s4
  refine ⟨_,rfl,_,rfl,_,_,_,_,rfl,rfl,sqp.ts s4.ts,rfl,ll,lb,vl,us2,Ls,_,8,rfl,s14 _ _ ell,al.imp (dY.to s14),ok,s4 _ _ eb,da2.ts s4.ts,T2,by decide,λv5 X2 H5 s5 d5 m5 p5 c5 _=>?_⟩
  refine ⟨(by show 4<=sizeLine;decide),λp hp=>?_⟩
  have u6:=aq hp (.tup [.str "cut",.ref ta,v4,v5])
  have e8:2 ^ 8=256:=rfl
  exact q _ (.cut (jP c) X1 X2) _ ((s14.trans s5).trans u6) (fB (SqT.of ae) (dt.ts ((((s2.trans s3).trans s4).trans s5).trans u6).ts) (d4.ts (s5.trans u6).ts) (d5.ts u6.ts)) ⟨br.mono (by decide),m4,m5⟩ (by simp only [Hu.Tc.deep];omega) (by show 1+X1.bQ+X2.bQ<=511;omega)
end
structure wC (K:PySem.W.Frag) (mg:Str->Option Value) (x s:Str):Prop where
 ex:∃ a,mg x=some (.ref a)/\∀ H,SqT K H a [.str s]
theorem yA {K:PySem.W.Frag} {h:Heap} {mg:Str->Option Value} {x s:Str} {a:Addr} {od:Option Addr} {its:Array Value} {n:Nat} {osl:Array (Option Value)} (X:K.In h) (G:h.Ns mainGlobals mg)
  (e:PySem.W.nsIn K mainGlobals x=some (some (.ref a))) (l:K.lookup a=some ⟨.type "tuple",od,.seq its n,osl⟩) (hz:its.size<=sizeLine) (v:Vals [V.str s] its.toList):wC K mg x s :=
 ⟨a,PySem.W.mg_of X G e,λ_=>.inr ⟨_,its,n,l,rfl,rfl,hz,v⟩⟩
noncomputable def sV (K:PySem.W.Frag) (n:Nat):Sp:=λvs H Q _=>∃(l lr:Addr) (us ws:List V) (rows:List Hu.Row) (h:List T3) (d:Nat),vs=[.ref l,.ref lr]/\H l=some (.lst us)/\DatAll K H (h.map t3D) us/\H lr=some (.lst ws)/\DatAll K H (rows.map kH) ws/\jc rows/\0 < rows.length/\rows.length<=60/\Hu.TnL [rows] d h/\d+1<=n/\∀(v:V) (T:Hu.Tc) (H':Hp),aJ H H'->Dat K H' (tcD T) v->T.Sm 61->T.deep<=d->T.bQ+1<=2 ^ d->Q v H'
noncomputable def xq (c:CCs) (K:PySem.W.Frag):Sp:=λvs H Q _=>∃(a:Addr) (t:Tr),vs=[.ref a]/\Ob c H a t/\t.size<=60/\t.nf<=8/\∀(v:V) (T:Hu.Tc) (H':Hp),aJ H H'->Dat K H' (tcD T) v->T.Sm 61->T.deep<=8->T.bQ+1<=2 ^ 8->Q v H'
section
variable {P:Program} {w:World} {K:PySem.W.Frag} {mg:Str->Option Value} {base:Heap} {c:CCs}
theorem yR {CN:Addr} (T:aE K mg "tree_on" lK) (TL:wC K mg "LEAF" "leaf") (fO:Def P w K mg base 4 "rules_of_rows" ["rows","hull"] (rf K)) (Dw:lC P w K mg base 3 "cut" ["hull","rule"] (AJ K CN)):∀ n:Nat,Def P w K mg base (n+4) "tree_on" ["hull","rows"] (sV K n):=by
 intro n
 induction n with
 | zero =>
  refine aO T jJ (λ_ _ _ _ _ _=>L2.ar2 λ_ _=>rfl) (λvs H Q E h=>?_) (λf cdv A outer s H vs Q E hr h=>?_)
  ·obtain ⟨l,lr,us,ws,rows,h,d,rfl,_⟩:=h
   rfl
  ·obtain ⟨l,lr,us,ws,rows,h,d,rfl,_,_,_,_,_,_,_,_,z,_⟩:=h
   omega
 | succ n jx =>
  refine aO T jJ (λ_ _ _ _ _ _=>L2.ar2 λ_ _=>rfl) (λvs H Q E h=>?_) (λf cdv A outer s H vs Q E hr h=>?_)
  ·obtain ⟨l,lr,us,ws,rows,h,d,rfl,_⟩:=h
   rfl
  obtain ⟨l,lr,us,ws,rows,h,d,rfl,el,da,er,dr,ok,pos,few,tn,dn,q⟩:=h
  have nd:=jJ.nd
  obtain ⟨aLF,M_LEAF,qL⟩:=TL.ex
  have n3:=tn.hk.n3
  have hl:=tn.ln
  refine ⟨_,(ah (aF (i:=2) nd rfl (Or.inl rfl) (aD fO (hr.mono (by omega)) rfl (aa (pv 1) (aa (pv 0) ag))))
  (ah (aM (aC aZ (aw az (pv 2) af (λ_ _=>rfl)) aK (aI _)) (ao (av (cG (v:=V.ref aLF) rfl M_LEAF rfl))) aH)
  (ah (aF (i:=3) nd rfl (Or.inl rfl) (aw az (pv 2) af (λ_ _=>rfl)))
  (ah (aF (i:=4) nd rfl (Or.inl rfl) (pe_defX Dw (hr.mono (by omega)) rfl (aa (pv 0) (aa (pv 3) ag))))
  (ao (av (aL (aa aK (aa (pv 3) (aa (aD jx (hr.mono (by omega)) rfl (aa (aw az (pv 4) af (λ_ _=>rfl)) (aa (pv 1) ag))) (aa (aD jx (hr.mono (by omega)) rfl (aa (aw az (pv 4) af (λ_ _=>rfl)) (aa (pv 1) ag))) ag))))))))))),?_⟩
  refine ⟨_,rfl,_,rfl,lr,l,ws,us,rows,h,rfl,er,dr,ok,pos,by omega,el,da,(λp hp=>(tn.hk.ok p hp).r.mono (by decide)),by omega,by omega,λrs t lr2 ws2 H1 s1 ru rb rl f2 st e2 d2=>?_,λk tt t v H1 s1 mx kl bt st dv=>?_⟩
  ·refine ⟨_,rfl,_,_,_,_,rfl,rfl,st,rfl,rfl,_,rfl,ite_yes rfl ?_⟩
   exact q _ .leaf _ s1 (eY (qL _)) trivial (Nat.zero_le _) (Nat.one_le_two_pow)
  ·refine ⟨_,rfl,_,_,_,_,rfl,rfl,st,rfl,rfl,_,rfl,ite_no (by decide +kernel) ?_⟩
   obtain ⟨b40,d',ed,T1,T2⟩:=tn.cut List.mem_cons_self ok few mx
   subst ed
   refine ⟨_,rfl,_,_,_,_,rfl,rfl,st,rfl,?_⟩
   refine ⟨_,rfl,_,rfl,l,v,us,h,tt,rfl,s1 _ _ el,da.ts s1.ts,dv,tn.hk.hull.mono (by decide) (by omega),b40.mono (by decide),(λz=>absurd z (Hu.ma mx)),λ_ v2 H2 s2 cr=>?_⟩
   obtain ⟨t2,a,b,us1,us2,rfl,nab,fa,fb,sq,ea,eb,d1,d2⟩:=cr
   have s12:=s1.trans s2
   refine ⟨_,rfl,_,rfl,_,_,_,_,rfl,rfl,sq,rfl,_,rfl,a,lr,us1,ws,rows,_,d',rfl,ea,d1,s12 _ _ er,dr.ts s12.ts,ok,pos,few,T1,by omega,λv3 X1 H3 s3 d3 m3 p3 c3=>?_⟩
   refine ⟨_,rfl,_,_,_,_,rfl,rfl,sq.ts s3.ts,rfl,_,rfl,b,lr,us2,ws,rows,_,d',rfl,s3 _ _ eb,d2.ts s3.ts,(s12.trans s3) _ _ er,dr.ts (s12.trans s3).ts,ok,pos,few,T2,by omega,λv4 X2 H4 s4 d4 m4 p4 c4=>?_⟩
   refine ⟨(by show 4<=sizeLine;decide),λp hp=>?_⟩
   have u5:=aq hp (.tup [.str "cut",v,v3,v4])
   have e2:2 ^ (d'+1)=2*2 ^ d':=by rw [Nat.pow_succ];omega
   exact q _ (.cut tt X1 X2) _ (((s12.trans s3).trans s4).trans u5) (fB (SqT.of ae) (dv.ts (((s2.trans s3).trans s4).trans u5).ts) (d3.ts (s4.trans u5).ts) (d4.ts u5.ts)) ⟨b40,m3,m4⟩ (by simp only [Hu.Tc.deep];omega) (by show 1+X1.bQ+X2.bQ+1<=_;omega)
theorem BZ (T:aE K mg "cutting" lP) (M:∀ t,bw P w K mg base (c.of t) "folds" 3 ["self"] (iN c t)) (dR:Def P w K mg base 1 "must_be_few" ["folds"] AI) (pK:Def P w K mg base 1 "square" [] (Az K)) (mC:Def P w K mg base 3 "rows_of" ["saying"] (nX c)) (jx:Def P w K mg base 13 "tree_on" ["hull","rows"] (sV K 9)):Def P w K mg base 14 "cutting" ["saying"] (xq c K):=by
 refine aO T oF (λ_ _ _ _ _ _=>L2.ar1 λ_=>rfl) (λvs H Q E h=>?_) (λf cdv A outer s H vs Q E hr h=>?_)
 ·obtain ⟨a,t,rfl,_⟩:=h
  rfl
 obtain ⟨a,t,rfl,oa,sz,nf8,q⟩:=h
 have nd:=oF.nd
 obtain ⟨dx,fs,ea,nf⟩:=oa.cls
 have R:=iC t
 have fd:=R.fd
 have ln:=R.len
 refine ⟨_,(ah (bj (aD dR (hr.mono (by decide)) rfl (aa (cT (k:=3) (pv 0) (hr.mono (by omega))) ag)))
  (ao (av (aD jx (hr.mono (by omega)) rfl (aa (gx pK (hr.mono (by omega)) rfl) (aa (aD mC (hr.mono (by omega)) rfl (aa (pv 0) ag)) ag)))))),?_⟩
 refine ⟨_,rfl,a,_,_,_,_,_,rfl,ea,nf _ (by decide +kernel),M t,a,rfl,oa,by omega,λH1 s1=>⟨_,rfl,by omega,?_⟩⟩
 refine ⟨rfl,λl us H2 s2 hl el da=>?_⟩
 have s12:=s1.trans s2
 refine ⟨_,rfl,a,t,rfl,oa.to (Kp.of s12),by omega,λlr ws H3 s3 hlr er al=>?_⟩
 exact ⟨l,lr,us,ws,cg t,Hu.sqH,8,rfl,s3 _ _ el,da.ts s3.ts,er,R.dat al,R.ok,R.pos,by omega,qZ (by simp;omega),by decide,λv T H4 s4 d4 m4 p4 c4=>q v T H4 ((s12.trans s3).trans s4) d4 m4 p4 c4⟩
end
noncomputable def vH (K:PySem.W.Frag):Sp:=λvs H Q _=>∃ a b:Int,vs=[.int a,.int b]/\0 < b/\Bg b/\∀(v:V) (f:Int×Int) (H':Hp),aJ H H'->FrV K H' v f->0 < f.2->f.1.natAbs<=a.natAbs->f.2.natAbs<=b.natAbs->Q v H'
noncomputable def xj (K:PySem.W.Frag):Sp:=λvs H Q _=>∃(v:V) (a:Tr),vs=[v]/\dY K H v (cg a)/\a.size<=60/\a.nf<=8/\∀(v:V) (f:Int×Int) (H':Hp),aJ H H'->FrV K H' v f->0 < f.2->f.1.natAbs < 2 ^ 300->f.2.natAbs < 2 ^ 300->Q v H'
noncomputable def AD (K:PySem.W.Frag):Sp:=λvs H Q _=>∃(v:V) (f:Int×Int) (c:Int),vs=[v,.int c]/\FrV K H v f/\0 < f.2/\f.1.natAbs < 2 ^ 300/\f.2.natAbs < 2 ^ 300/\∀(v:V) (f:Int×Int) (H':Hp),aJ H H'->FrV K H' v f->Bg f.1->Bg f.2->Q v H'
noncomputable def xp (K:PySem.W.Frag):Sp:=λvs H Q _=>∃(v1 x lf:V) (a:Tr) (t:Hu.Tc) (f:Int×Int),vs=[v1,x,lf]/\dY K H v1 (cg a)/\a.size<=60/\Dat K H (tcD t) x/\t.Sm 64/\t.deep<=12/\t.bQ<=600/\FrV K H lf f/\Bg f.1/\Bg f.2/\∀ H',aJ H H'->Q (.bl (ho a t f)) H'
noncomputable def xg (c:CCs):Sp:=λvs H Q _=>∃(x:Addr) (y:V) (a:Tr),vs=[.ref x,y]/\Ob c H x a/\a.size<=900/\8 < a.nf/\∀ H',Q (.bl true) H'
theorem uJ {a g:Int} (hg:0 < g) (h:g∣a):∃ k,a=g*k/\a.fdiv g=k:=by
 obtain ⟨k,rfl⟩:=h
 exact ⟨k,rfl,Int.mul_fdiv_cancel_left k (by omega)⟩
theorem pG {g k:Int} (hg:0 < g):k.natAbs<=(g*k).natAbs:=by
 rw [Int.natAbs_mul]
 exact Nat.le_mul_of_pos_left _ (by omega)
theorem add_b {x y:Int} {n:Nat} (hx:x.natAbs < 2 ^ n) (hy:y.natAbs < 2 ^ n):(x+y).natAbs < 2 ^ (n+1):=by
 rw [Nat.pow_succ]
 generalize 2 ^ n=z at *
 omega
theorem up_b {x:Int} {m n:Nat} (hx:x.natAbs < 2 ^ m) (h:m<=n):x.natAbs < 2 ^ n:=Nat.lt_of_lt_of_le hx (Nat.pow_le_pow_right (by decide) h)
section
variable {P:Program} {w:World} {K:PySem.W.Frag} {mg:Str->Option Value} {base:Heap} {c:CCs}
theorem ok_frac (T:aE K mg "_law_fraction" il) (gk:mg "abs"=none) (gJ:Def P w K mg base 1 "_law_part" ["_law_one","_law_other"] vG):Def P w K mg base 2 "_law_fraction" ["_law_top","_law_bottom"] (vH K):=by
 refine aO T jC (λ_ _ _ _ _ _=>L2.ar2 λ_ _=>rfl) (λvs H Q E h=>?_) (λf cdv A outer s H vs Q E hr h=>?_)
 ·obtain ⟨a,b,rfl,_⟩:=h
  rfl
 obtain ⟨a,b,rfl,b0,bb,q⟩:=h
 have nd:=jC.nd
 refine ⟨_,(ah (aF (i:=2) nd rfl (Or.inl rfl) (aD gJ (hr.mono (by decide)) rfl (aa (aR gj rfl gk (by decide +kernel) (aa (pv 0) ag)) (aa (pv 1) ag))))
  (ao (av (aL (aa (aA kN (pv 0) (pv 2)) (aa (aA kN (pv 1) (pv 2)) ag)))))),?_⟩
 refine ⟨_,rfl,_,rfl,_,rfl,?_⟩
 rw [bK]
 refine ⟨_,_,rfl,by omega,by omega,?_⟩
 have g0:0 < Lo.gc (a.natAbs:Int) b:=Lo.gc_pos (by omega)
 have gl:=Lo.gc_le (t:=(a.natAbs:Int)) (b:=b) (by omega)
 have gb:Bg (Lo.gc (a.natAbs:Int) b):=Nat.lt_of_le_of_lt gl bb
 obtain ⟨k1,e1,f1⟩:=uJ (a:=a) g0 (by have:=Lo.gE (a.natAbs:Int) b;exact Int.dvd_natAbs.mp this)
 obtain ⟨k2,e2,f2⟩:=uJ g0 (Lo.ix (a.natAbs:Int) b)
 refine ⟨_,rfl,_,rfl,_,_,rfl,rfl,divB (by omega) gb,_,rfl,_,rfl,_,_,rfl,rfl,divB (by omega) gb,(by show 2<=sizeLine;decide),λp hp=>?_⟩
 generalize Lo.gc (a.natAbs:Int) b=g at *
 refine q _ (k1,k2) _ (aq hp _) ⟨p,rfl,SqT.of (by rw [ae];show some (HO.tup [V.int (a.fdiv g),V.int (b.fdiv g)])=_;rw [f1,f2])⟩ ?_ ?_ ?_
 ·show 0 < k2
  rw [e2] at b0
  rcases Int.lt_or_le 0 k2 with z | z
  ·exact z
  ·exact absurd (Int.mul_nonpos_of_nonneg_of_nonpos (Int.le_of_lt g0) z) (by omega)
 ·show k1.natAbs<=a.natAbs
  rw [e1]
  exact pG g0
 ·show k2.natAbs<=b.natAbs
  rw [e2]
  exact pG g0
theorem ok_near (T:aE K mg "_law_near" oI) (eV:Def P w K mg base 2 "_law_fraction" ["_law_top","_law_bottom"] (vH K)):Def P w K mg base 3 "_law_near" ["_law_least_here","_law_cell"] (AD K):=by
 refine aO T qq (λ_ _ _ _ _ _=>L2.ar2 λ_ _=>rfl) (λvs H Q E h=>?_) (λf cdv A outer s H vs Q E hr h=>?_)
 ·obtain ⟨v,f,c,rfl,_⟩:=h
  rfl
 obtain ⟨v,f,c,rfl,fv,f0,b1,b2,q⟩:=h
 have nd:=qq.nd
 obtain ⟨fa,rfl,sf⟩:=id fv
 refine ⟨_,(ah (aM (aC gy (aA aX (pv 1) af) af (aI _)) (ao (av (pv 0))) aH)
  (ah (aM (aC aZ (aA aX (pv 1) af) af (aI _)) (ao (av (aD eV (hr.mono (by omega)) rfl (aa (aA eM (aA aX (aA bu (pv 1) af) af) af) (aa (aA bR af (aA aX (aA bu (pv 1) af) af)) ag))))) aH)
  (ah (aF (i:=2) nd rfl (Or.inl rfl) (aA bR af (aA aX (aA bu (pv 1) af) af)))
  (ao (av (aD eV (hr.mono (by omega)) rfl (aa (aA bR (aA bg (aA bg (aw az (pv 0) af (λ_ _=>rfl)) af) (pv 2)) (aA bg (aw az (pv 0) af (λ_ _=>rfl)) (aw aU (bo (dM (aa (jE gM af) ag))) (aA aX (pv 1) af) (λ_ _=>rfl)))) (aa (aA bg (aA bg (aw az (pv 0) af (λ_ _=>rfl)) af) (pv 2)) ag)))))))),?_⟩
 refine ⟨_,rfl,_,_,rfl,rfl,(show (0:Int) < 5 by decide),_,_,rfl,rfl,_,rfl,bY (λ_=>?_) (λ_=>?_)⟩
 ·exact ⟨_,rfl,q _ f _ (aJ.refl _) fv (bL b1 (by decide)) (bL b2 (by decide))⟩
 refine ⟨_,rfl,_,_,rfl,rfl,(show (0:Int) < 5 by decide),rfl,_,rfl,bY (λ_=>?_) (λ_=>?_)⟩
 ·have m0:=Int.emod_nonneg (c / 5) (show (41:Int)≠0 by decide)
  have m1:=Int.emod_lt_of_pos (c / 5) (show (0:Int) < 41 by decide)
  have m2:=Int.emod_nonneg (c / 205) (show (20:Int)≠0 by decide)
  have m3:=Int.emod_lt_of_pos (c / 205) (show (0:Int) < 20 by decide)
  refine ⟨_,rfl,_,_,rfl,rfl,⟨by decide,by decide⟩,_,_,rfl,rfl,(show (0:Int) < 41 by decide),_,_,rfl,rfl,_,rfl,_,_,rfl,rfl,⟨by decide,by decide⟩,_,_,rfl,rfl,(show (0:Int) < 20 by decide),_,_,rfl,rfl,_,_,rfl,by omega,bL (n:=10) (by omega) (by decide),λv f' H1 s1 fv1 z0 z1 z2=>?_⟩
  exact q _ f' _ s1 fv1 (bL (n:=10) (by omega) (by decide)) (bL (n:=10) (by omega) (by decide))
 ·have m0:=Int.emod_nonneg (c / 5) (show (99:Int)≠0 by decide)
  have m1:=Int.emod_lt_of_pos (c / 5) (show (0:Int) < 99 by decide)
  have n0:=Int.emod_nonneg c (show (2:Int)≠0 by decide)
  have n1:=Int.emod_lt_of_pos c (show (0:Int) < 2 by decide)
  have b100:(100:Int).natAbs < 2 ^ 7:=by decide
  have bs:(1+c / 5 % 99).natAbs < 2 ^ 7:=by show _ < 128;omega
  have x1:=mO b1 b100
  have x2:=mO x1 bs
  have y1:=mO b2 b100
  have y2:=mO y1 bs
  obtain ⟨e,he,eb⟩:∃ e:Int,atI [V.int 1,V.int (-1)] (c % 2)=some (.int e)/\e.natAbs < 2 ^ 1:=by
   rcases (show c % 2=0\/c % 2=1 by omega) with h | h
   ·rw [h];exact ⟨1,rfl,by decide⟩
   ·rw [h];exact ⟨-1,rfl,by decide⟩
  have z1:=mO b2 eb
  have tp:0 < f.2*100*(1+c / 5 % 99):=Int.mul_pos (Int.mul_pos f0 (by decide)) (by omega)
  refine ⟨_,rfl,_,_,rfl,rfl,⟨by decide,by decide⟩,_,_,rfl,rfl,(show (0:Int) < 99 by decide),_,_,rfl,rfl,?_⟩
  refine ⟨_,rfl,_,_,_,_,rfl,rfl,sf,rfl,_,_,rfl,rfl,dW (bL b1 (by decide)) (bL b100 (by decide)),_,rfl,_,_,rfl,rfl,dW (bL x1 (by decide)) (bL bs (by decide)),_,rfl,_,_,_,_,rfl,rfl,sf,rfl,?_⟩
  refine ⟨_,rfl,(by show 2<=sizeLine;decide),λp hp=>?_⟩
  have u:=aq hp (.lst [.int 1,.int (-1)])
  have sf1:=sf.ts u.ts
  refine ⟨_,rfl,_,_,rfl,rfl,(show (0:Int) < 2 by decide),_,_,_,_,rfl,rfl,SqL.of ae,he,_,_,rfl,rfl,dW (bL b2 (by decide)) (bL eb (by decide)),_,_,rfl,rfl,?_⟩
  refine ⟨_,rfl,_,_,_,_,rfl,rfl,sf1,rfl,_,_,rfl,rfl,dW (bL b2 (by decide)) (bL b100 (by decide)),_,rfl,_,_,rfl,rfl,dW (bL y1 (by decide)) (bL bs (by decide)),_,_,rfl,tp,bL y2 (by decide),λv f' H1 s1 fv1 z0 w1 w2=>?_⟩
  exact q _ f' _ (u.trans s1) fv1 (bL (n:=315) (Nat.lt_of_le_of_lt w1 (add_b x2 (up_b z1 (by decide)))) (by decide)) (bL (Nat.lt_of_le_of_lt w2 y2) (by decide))
theorem BX (T:aE K mg "_law_due" rz) (bS:Def P w K mg base 1 "_law_square" [] (sY K)) (dH:Def P w K mg base 17 "_law_leaves" ["_law_tree","_law_hull"] (jI K 13)) (fH:Def P w K mg base 3 "_law_rules" ["_law_rows","_law_hull"] (kq K)) (cQ:Def P w K mg base 1 "_law_tells" ["_law_rule","_law_corner"] (sW K)):Def P w K mg base 18 "_law_due" ["_law_rows","_law_tree","_law_least_here"] (xp K):=by
 refine aO T tK (λ_ _ _ _ _ _=>L2.ar3 λ_ _ _=>rfl) (λvs H Q E h=>?_) (λf cdv A outer s H vs Q E hr h=>?_)
 ·obtain ⟨v1,x,lf,a,t,f,rfl,_⟩:=h
  rfl
 obtain ⟨v1,x,lf,a,t,fr,rfl,r1,sa,dx,sm,dp,cu,fv,b1,b2,q⟩:=h
 have nd:=tK.nd
 have hu:=hr.units
 have A1:=iC a
 have la:=A1.len
 obtain ⟨fa,rfl,sf⟩:=id fv
 refine ⟨_,(ah (aF (i:=3) nd rfl (Or.inl rfl) (aD dH (hr.mono (by omega)) rfl (aa (pv 1) (aa (gx bS (hr.mono (by omega)) rfl) ag))))
  (ah (aM (aC jR (pv 3) eI (aI _)) (ao (av jF)) aH)
  (ah (fN PassesOwn.never rfl (ck (pv 3)) (aW (i:=4) nd rfl (Or.inl rfl)) (ah (aF (i:=5) nd rfl (Or.inl rfl) (aD fH (hr.mono (by omega)) rfl (aa (pv 0) (aa (pv 4) ag))))
  (ah (aM (aC aZ (aw az (pv 5) af (λ_ _=>rfl)) aK (aI _)) (ao (av jF)) aH)
  (ao (fN PassesOwn.never rfl (ck (pv 4)) (aW (i:=6) nd rfl (Or.inl rfl)) (ao (aM (aC gy (aA bg (aD cQ (hr.mono (by decide)) rfl (aa (aw aU (aw az (pv 5) af (λ_ _=>rfl)) (jE gM af) (λ_ _=>rfl)) (aa (pv 6) ag))) (aw az (pv 2) af (λ_ _=>rfl))) (aA bg (aw az (pv 2) af (λ_ _=>rfl)) (aw az (pv 6) af (λ_ _=>rfl))) (aI _)) (ao (av jF)) aH)))))))
  (ao (av jF))))),?_⟩
 refine ⟨_,rfl,rfl,λl us H1 s1 el da=>?_⟩
 refine ⟨x,l,us,t,Hu.sqH,rfl,el,da,Hu.ko,sm,by show 4+t.deep<=20;omega,by omega,by omega,dx.ts s1.ts,λnn H2 s2=>?_,λL eL lh ws H2 s2 elh al=>?_⟩
 ·refine ⟨_,rfl,rfl,_,rfl,dk ?_⟩
  have e:ho a t fr=false:=by unfold ho;rw [nn]
  have z:=q H2 (s1.trans s2)
  rw [e] at z
  exact z
 refine ⟨_,rfl,rfl,_,rfl,bM ?_⟩
 have s12:=s1.trans s2
 have hk:=Hu.Tc.jf Hu.ko sm eL
 have eh:ho a t fr=L.all (hog a fr):=by unfold ho;rw [eL]
 rw [eh] at q
 have lw:=al.len
 refine ⟨_,rfl,lh,rfl,⟨ws,SqL.of elh⟩,?_⟩
 refine gi (xs:=ws) (λi σ H'=>aJ H2 H'/\(L.take i).all (hog a fr)=true/\∃ o4 o5 o6,σ=[some v1,some x,some (.ref fa),some (.ref lh),o4,o5,o6]) ⟨aJ.refl _,rfl,_,_,_,rfl⟩ (λi σ H' _ z=>SqL.of (z.1 _ _ elh)) (λi v σ H' hv z=>?_) (fun σ H' z=>?_)
 ·obtain ⟨s3,ha,o4,o5,o6,rfl⟩:=z
  obtain ⟨g,hg,ga,gus,rfl,eg,dg⟩:=(al.imp (HuV.to s3)).get i v hv
  obtain ⟨hkg,gl⟩:=hk g (List.mem_of_getElem? hg)
  have gl':g.length<=4+t.deep:=gl
  have n3:=hkg.n3
  have s13:=s12.trans s3
  have gr3:∀ p∈g,Hu.R3 3000 p:=λp hp=>(hkg.ok p hp).r.mono (by decide)
  have bad:hog a fr g=false->L.all (hog a fr)=false:=λz=>all_false (List.mem_of_getElem? hg) z
  obtain ⟨lr1,ur1,e1,er1,dr1⟩:=dY.to s13 _ _ r1
  subst e1
  refine ⟨_,rfl,_,rfl,lr1,ga,ur1,gus,cg a,g,rfl,er1,dr1,A1.ok,A1.pos,by omega,eg,dg,gr3,by omega,by omega,λout1 w1 H4 s4 ro1 od1=>?_⟩
  have s14:=s13.trans s4
  cases out1 with
  | mixed k1 t1 =>
   obtain ⟨ta,y,rfl,sq1,dv⟩:=od1
   refine ⟨_,rfl,_,_,_,_,rfl,rfl,sq1,rfl,rfl,_,rfl,ite_yes rfl ?_⟩
   have z:=q H4 s14
   rw [bad ?_] at z
   ·exact z
   ·rcases A1.run g with ⟨o,r,e,_⟩ | ⟨_,e⟩
    ·rw [e] at ro1;cases ro1
    ·unfold hog;rw [e]
  | rules rs1 =>
   obtain ⟨ta,lq1,wq1,rfl,rb1,rlen1,flq1,sq1,elq1,dq1⟩:=od1
   refine ⟨_,rfl,_,_,_,_,rfl,rfl,sq1,rfl,rfl,_,rfl,ite_no (by decide +kernel) ?_⟩
   obtain ⟨x1,hx1,ex1⟩:∃ r,rs1.getLast?=some r/\rl g a=some r:=by
    rcases A1.run g with ⟨o,r,e,e1,e2⟩ | ⟨⟨k,y,e⟩,_⟩
    ·rw [e] at ro1;cases ro1;exact ⟨r,e1,e2⟩
    ·rw [e] at ro1;cases ro1
   have lq1':=fJ dq1
   have p1:=A1.pos
   rw [List.getLast?_eq_getElem?,<- lq1'] at hx1
   have xb:=Be ex1 sa
   have eg1:hog a fr g=g.all (nl fr x1):=by unfold hog;rw [ex1]
   have gu:=fJ dg
   have eg4:=s4 _ _ eg
   have dg4:=dg.ts s4.ts
   refine ⟨_,rfl,ga,rfl,⟨gus,SqL.of eg4⟩,?_⟩
   refine gi (xs:=gus) (λj σ H'=>aJ H4 H'/\(g.take j).all (nl fr x1)=true/\∃ o6,σ=[some (.ref lr1),some x,some (.ref fa),some (.ref lh),some (.ref ga),some (.ref ta),o6]) ⟨aJ.refl _,rfl,_,rfl⟩ (λj σ H' _ z=>SqL.of (z.1 _ _ eg4)) (λj v σ H' hv z=>?_) (fun σ H' z=>?_)
   ·obtain ⟨s5,hj,o6,rfl⟩:=z
    obtain ⟨p,hp,dp⟩:=lG (dg4.ts s5.ts) hv
    obtain ⟨pa,rfl,sp⟩:=eA dp
    have bp:=gr3 p (List.mem_of_getElem? hp)
    obtain ⟨v1,hv1,dv1⟩:=iL (dq1.ts s5.ts) hx1
    have sf5:=sf.ts (s14.trans s5).ts
    refine ⟨_,rfl,_,_,_,_,rfl,rfl,sq1.ts s5.ts,rfl,_,rfl,_,_,_,_,rfl,rfl,SqL.of (s5 _ _ elq1),(by rw [mn (by omega)];exact hv1),_,rfl,v1,.ref pa,x1,p,rfl,dv1,dp,xb,bp,?_⟩
    refine ⟨_,rfl,_,_,_,_,rfl,rfl,sf5,rfl,_,_,rfl,rfl,dW (Ao xb bp) b2,_,rfl,_,_,_,_,rfl,rfl,sf5,rfl,_,rfl,_,_,_,_,rfl,rfl,sp,rfl,_,_,rfl,rfl,dW b1 (r3b bp).1,_,_,rfl,rfl,_,rfl,bY (λcc=>?_) (λcc=>?_)⟩
    ·have cc:Hu.tl x1 p*fr.2 < fr.1*p.u:=of_decide_eq_true cc
     have z:=q H' (s14.trans s5)
     rw [bad ?_] at z
     ·exact z
     ·rw [eg1]
      cases e:g.all (nl fr x1) with
      | false=>rfl
      | true =>
       have:=List.all_eq_true.mp e p (List.mem_of_getElem? hp)
       unfold nl at this
       have:=of_decide_eq_true this
       omega
    ·have cc:¬Hu.tl x1 p*fr.2 < fr.1*p.u:=λz=>cc (decide_eq_true z)
     refine ⟨s5,uX hj hp ?_,_,rfl⟩
     unfold nl
     exact decide_eq_true (by omega)
   ·obtain ⟨s5,hj,o6,rfl⟩:=z
    rw [gu,List.take_length] at hj
    exact ⟨(s3.trans s4).trans s5,uX ha hg (by rw [eg1];exact hj),_,_,_,rfl⟩
 ·obtain ⟨s3,ha,o4,o5,o6,rfl⟩:=z
  have z:=q H' (s12.trans s3)
  rw [lw,List.take_length] at ha
  rw [ha] at z
  exact z
theorem BR (T:aE K mg "_law_least" lN) (bS:Def P w K mg base 1 "_law_square" [] (sY K)) (bW:Def P w K mg base 13 "_law_grown" ["_law_lists","_law_hull"] (nG K 9)) (dH:Def P w K mg base 17 "_law_leaves" ["_law_tree","_law_hull"] (jI K 13)) (fH:Def P w K mg base 3 "_law_rules" ["_law_rows","_law_hull"] (kq K)) (cQ:Def P w K mg base 1 "_law_tells" ["_law_rule","_law_corner"] (sW K)) (eV:Def P w K mg base 2 "_law_fraction" ["_law_top","_law_bottom"] (vH K)):Def P w K mg base 18 "_law_least" ["_law_rows"] (xj K):=by
 refine aO T oA (λ_ _ _ _ _ _=>L2.ar1 λ_=>rfl) (λvs H Q E h=>?_) (λf cdv A outer s H vs Q E hr h=>?_)
 ·obtain ⟨v,a,rfl,_⟩:=h
  rfl
 obtain ⟨v1,a,rfl,r1,sa,n8,q⟩:=h
 have nd:=oA.nd
 have A1:=iC a
 have la:=A1.len
 have fd:=A1.fd
 refine ⟨_,(ah (aF (i:=1) nd rfl (Or.inl rfl) (aL (dM (dM ag))))
  (ah (fN PassesOwn.never rfl (ck (aD dH (hr.mono (by omega)) rfl (aa (aD bW (hr.mono (by omega)) rfl (aa (bo (aa (pv 0) ag)) (aa (gx bS (hr.mono (by omega)) rfl) ag))) (aa (gx bS (hr.mono (by omega)) rfl) ag)))) (aW (i:=2) nd rfl (Or.inl rfl)) (ah (aF (i:=3) nd rfl (Or.inl rfl) (aw aU (aw az (aD fH (hr.mono (by omega)) rfl (aa (pv 0) (aa (pv 2) ag))) af (λ_ _=>rfl)) (jE gM af) (λ_ _=>rfl)))
  (ao (fN PassesOwn.never rfl (ck (pv 2)) (aW (i:=4) nd rfl (Or.inl rfl)) (ah (aF (i:=5) nd rfl (Or.inl rfl) (aD cQ (hr.mono (by decide)) rfl (aa (pv 3) (aa (pv 4) ag))))
  (ao (aM (aC gy (aA bg (pv 5) (aw az (pv 1) af (λ_ _=>rfl))) (aA bg (aw az (pv 1) af (λ_ _=>rfl)) (aw az (pv 4) af (λ_ _=>rfl))) (aI _)) (ao (aF (i:=1) nd rfl (Or.inl rfl) (aL (aa (pv 5) (aa (aw az (pv 4) af (λ_ _=>rfl)) ag))))) aH)))))))
  (ao (av (aD eV (hr.mono (by omega)) rfl (aa (aw az (pv 1) af (λ_ _=>rfl)) (aa (aw az (pv 1) af (λ_ _=>rfl)) ag))))))),?_⟩
 refine ⟨(by show 2<=sizeLine;decide),λp0 hp0=>?_⟩
 have u0:=aq hp0 (.tup [.int 1,.int 1])
 have e0:upd H p0 (.tup [.int 1,.int 1]) p0=some (.tup [.int 1,.int 1]):=ae
 generalize upd H p0 (.tup [.int 1,.int 1])=H0 at u0 e0 ⊢
 refine ⟨_,rfl,(by show 1<=sizeLine;decide),λll hll=>?_⟩
 have u1:=aq hll (.lst [v1])
 have ell:upd H0 ll (.lst [v1]) ll=some (.lst [v1]):=ae
 have s01:=u0.trans u1
 generalize upd H0 ll (.lst [v1])=H1 at u1 ell s01 ⊢
 refine ⟨rfl,λl us H2 s2 el da=>?_⟩
 have s02:=s01.trans s2
 have lok:LsOk [cg a]:=λrows hr=>by rw [List.mem_singleton.mp hr];exact ⟨A1.ok,A1.pos,by omega⟩
 refine ⟨ll,l,[v1],us,[cg a],Hu.sqH,8,rfl,s2 _ _ ell,.cons (dY.to s02 _ _ r1) .nil,lok,el,da,qZ (by simp;omega),by decide,λy X H3 s3 dy sm dp cu gd=>?_⟩
 have s03:=s02.trans s3
 have e8:2 ^ 8=256:=rfl
 refine ⟨rfl,λl4 us4 H4 s4 el4 da4=>?_⟩
 have s04:=s03.trans s4
 obtain ⟨L,eL,kL⟩:=gd
 have sm64:X.Sm 64:=sm.mono (by decide)
 refine ⟨y,l4,us4,X,Hu.sqH,rfl,el4,da4,Hu.ko,sm64,by show 4+X.deep<=20;omega,by omega,by omega,dy.ts s4.ts,λnn=>absurd (eL.symm.trans nn) (λz=>by cases z),λL' eL' lh ws H5 s5 elh al=>?_⟩
 rw [eL] at eL'
 cases eL'
 have s05:=s04.trans s5
 have hk:=Hu.Tc.jf Hu.ko sm64 eL
 refine ⟨lh,rfl,⟨ws,SqL.of elh⟩,?_⟩
 refine gi (xs:=ws) (λi σ H'=>aJ H5 H'/\∃(z:V) (f:Int×Int) (o2 o3 o4 o5:Option V),σ=[some v1,some z,o2,o3,o4,o5]/\FrV K H' z f/\0 < f.2/\f.1.natAbs < 2 ^ 300/\f.2.natAbs < 2 ^ 300) ⟨aJ.refl _,_,(1,1),_,_,_,_,rfl,⟨p0,rfl,SqT.of ((((u1.trans s2).trans s3).trans s4).trans s5 _ _ e0)⟩,by decide,by show 1 < _;exact Nat.one_lt_two_pow (by decide),by show 1 < _;exact Nat.one_lt_two_pow (by decide)⟩ (λi σ H' _ z=>SqL.of (z.1 _ _ elh)) (λi v σ H' hv z=>?_) (fun σ H' z=>?_)
 ·obtain ⟨s6,z,f,o2,o3,o4,o5,rfl,fv,f0,b1,b2⟩:=z
  obtain ⟨g,hg,ga,gus,rfl,eg,dg⟩:=(al.imp (HuV.to s6)).get i v hv
  have gm:=List.mem_of_getElem? hg
  obtain ⟨hkg,gl⟩:=hk g gm
  have gl':g.length<=4+X.deep:=gl
  have n3:=hkg.n3
  have s06:=s05.trans s6
  have gr3:∀ p∈g,Hu.R3 3000 p:=λp hp=>(hkg.ok p hp).r.mono (by decide)
  obtain ⟨lr1,ur1,e1,er1,dr1⟩:=dY.to s06 _ _ r1
  subst e1
  refine ⟨_,rfl,_,rfl,lr1,ga,ur1,gus,cg a,g,rfl,er1,dr1,A1.ok,A1.pos,by omega,eg,dg,gr3,by omega,by omega,λout1 w1 H7 s7 ro1 od1=>?_⟩
  obtain ⟨rs1,er⟩:=kL g gm _ List.mem_cons_self
  rw [er] at ro1
  subst ro1
  obtain ⟨ta,lq1,wq1,rfl,rb1,rlen1,flq1,sq1,elq1,dq1⟩:=od1
  obtain ⟨x1,hx1,ex1⟩:∃ r,rs1.getLast?=some r/\rl g a=some r:=by
   rcases A1.run g with ⟨o,r,e,e1,e2⟩ | ⟨⟨k,y,e⟩,_⟩
   ·rw [e] at er;cases er;exact ⟨r,e1,e2⟩
   ·rw [e] at er;cases er
  have lq1':=fJ dq1
  have p1:=A1.pos
  rw [List.getLast?_eq_getElem?,<- lq1'] at hx1
  have xb:=Be ex1 sa
  have xb60:Hu.R3 60 x1:=(rl_b ex1).mono sa
  obtain ⟨vr,hv1,dv1⟩:=iL dq1 hx1
  refine ⟨_,_,_,_,rfl,rfl,sq1,rfl,_,rfl,_,_,_,_,rfl,rfl,SqL.of elq1,(by rw [mn (by omega)];exact hv1),?_⟩
  have eg7:=s7 _ _ eg
  have dg7:=dg.ts s7.ts
  refine ⟨_,rfl,ga,rfl,⟨gus,SqL.of eg7⟩,?_⟩
  refine gi (xs:=gus) (λj σ H'=>aJ H7 H'/\∃(z:V) (f:Int×Int) (o4 o5:Option V),σ=[some (.ref lr1),some z,some (.ref ga),some vr,o4,o5]/\FrV K H' z f/\0 < f.2/\f.1.natAbs < 2 ^ 300/\f.2.natAbs < 2 ^ 300) ⟨aJ.refl _,_,f,_,_,rfl,fv.to s7,f0,b1,b2⟩ (λj σ H' _ z=>SqL.of (z.1 _ _ eg7)) (λj v σ H' hv z=>?_) (fun σ H' z=>?_)
  ·obtain ⟨s8,z,f,o4,o5,rfl,fv,f0,b1,b2⟩:=z
   obtain ⟨fa,rfl,sf⟩:=id fv
   obtain ⟨p,hp,dp⟩:=lG (dg7.ts s8.ts) hv
   obtain ⟨pa,rfl,sp⟩:=eA dp
   have pm:=List.mem_of_getElem? hp
   have bp:=gr3 p pm
   have pk:=hkg.ok p pm
   have p0':=pk.n0
   have pr:=pk.r
   refine ⟨_,rfl,_,rfl,vr,.ref pa,x1,p,rfl,dv1.ts s8.ts,dp,xb,bp,?_⟩
   refine ⟨_,rfl,_,rfl,_,_,_,_,rfl,rfl,sf,rfl,_,_,rfl,rfl,dW (Ao xb bp) (bL b2 (by decide)),_,rfl,_,_,_,_,rfl,rfl,sf,rfl,_,rfl,_,_,_,_,rfl,rfl,sp,rfl,_,_,rfl,rfl,dW (bL b1 (by decide)) (r3b bp).1,_,_,rfl,rfl,_,rfl,bY (λcc=>?_) (λcc=>?_)⟩
   ·refine ⟨_,rfl,_,rfl,_,_,_,_,rfl,rfl,sp,rfl,(by show 2<=sizeLine;decide),λp9 hp9=>?_⟩
    exact ⟨s8.trans (aq hp9 _),_,(Hu.tl x1 p,p.u),_,_,rfl,⟨p9,rfl,SqT.of ae⟩,p0',Ap xb60 pr (by decide),up_b pr.a (by decide)⟩
   ·exact ⟨s8,_,f,_,_,rfl,fv,f0,b1,b2⟩
  ·obtain ⟨s8,z,f,o4,o5,rfl,fv,f0,b1,b2⟩:=z
   exact ⟨(s6.trans s7).trans s8,z,f,_,_,_,_,rfl,fv,f0,b1,b2⟩
 ·obtain ⟨s6,z,f,o2,o3,o4,o5,rfl,fv,f0,b1,b2⟩:=z
  obtain ⟨fa,rfl,sf⟩:=id fv
  refine ⟨_,rfl,_,_,_,_,rfl,rfl,sf,rfl,_,rfl,_,_,_,_,rfl,rfl,sf,rfl,f.1,f.2,rfl,f0,bL b2 (by decide),λv f' H7 s7 fv' g0 g1 g2=>?_⟩
  exact q v f' H7 ((s05.trans s6).trans s7) fv' g0 (Nat.lt_of_le_of_lt g1 b1) (Nat.lt_of_le_of_lt g2 b2)
theorem BK {bZ : Addr} (T : aE K mg "_law_refused" iU) (mw : mg "TooMany" = some (.ref bZ)) (wV : gn K bZ) (su : PySem.W.mroIn K bZ (.ref bZ) = some true) (D_holds : lC P w K mg base 8 "holds" ["saying", "tree", "least"] (spHoX c bZ)) : Def P w K mg base 9 "_law_refused" ["_law_saying_here", "_law_tree"] (xg c) := by
 refine aO T kA (λ_ _ _ _ _ _=>L2.ar2 λ_ _=>rfl) (λvs H Q E h=>?_) (λf cdv A outer s H vs Q E hr h=>?_)
 ·obtain ⟨x,y,a,rfl,_⟩:=h
  rfl
 obtain ⟨x,y,a,rfl,oa,sz,nf,q⟩:=h
 have nd:=kA.nd
 refine ⟨_,(ah (aF (i:=2) nd rfl (Or.inl rfl) jF)
  (ah (ps_tryE rfl rfl rfl D_holds (hr.mono (by decide)) rfl (aa (pv 0) (aa (pv 1) (oR (aL (dM (dM ag))) ag))) rfl mw wV (fun _ => (ao (aF (i := 2) nd rfl (Or.inl rfl) jF))))
  (ao (av (pv 2))))),?_⟩
 refine ⟨_,rfl,_,rfl,(by show 2<=sizeLine;decide),λp hp=>?_⟩
 have u:=aq hp (.tup [.int 0,.int 1])
 refine ⟨x,y,.ref p,a,rfl,oa.to (Kp.of u),sz,nf,λH' s'=>⟨bZ,rfl,su,?_⟩⟩
 exact ⟨_,rfl,q _⟩
end
noncomputable def xr (K:PySem.W.Frag):Sp:=λvs H Q _=>∃(a:Addr) (ns:List Int) (k:Int),vs=[.ref a,.int k]/\Scr K H a ns/\0<=k/\∀ v:Int,Q (.int v) H
noncomputable def rm (K:PySem.W.Frag):Sp:=λvs H Q _=>∃(a:Addr) (ns:List Int) (k:Int),vs=[.ref a,.int k]/\Scr K H a ns/\0<=k/\k<=1000/\∀(v:Int) (H':Hp),0<=v->aJ H H'->Q (.int v) H'
section
variable {P:Program} {w:World} {K:PySem.W.Frag} {mg:Str->Option Value} {base:Heap}
theorem Ca (T:aE K mg "_law_cell_at" iV) (dN:mg "len"=none):Def P w K mg base 1 "_law_cell_at" ["_law_script","_law_k"] (xr K):=by
 refine aO T kB (λ_ _ _ _ _ _=>ar2 λ_ _=>rfl) (λvs H Q E h=>?_) (λf cdv A outer s H vs Q E hr h=>?_)
 ·obtain ⟨a,ns,k,rfl,_⟩:=h
  rfl
 obtain ⟨a,ns,k,rfl,S,h0,q⟩:=h
 have nd:=kB.nd
 have hl:(ns.map V.int).length=ns.length:=List.length_map _
 refine ⟨_,(ah (aM (aC gy (pv 1) (aR fG rfl dN (by decide +kernel) (aa (pv 0) ag)) (aI _)) (ao (av (aw aU (pv 0) (pv 1) (λ_ _=>rfl)))) aH)
  (ao (av af))),?_⟩
 refine ⟨_,rfl,_,rfl,_,_,rfl,.inl ⟨_,S.l,rfl⟩,_,_,rfl,rfl,_,rfl,?_⟩
 refine bY (λc=>?_) (λc=>?_)
 ·have c':k < (((ns.map V.int).length:Nat):Int):=of_decide_eq_true c
  rw [hl] at c'
  obtain ⟨u,hu,mu⟩:=zN (ns:=ns) h0 c'
  exact ⟨_,rfl,_,rfl,_,_,_,_,rfl,rfl,S.l,hu,q u⟩
 ·exact q 0
theorem BY (T:aE K mg "_law_drawn" hU) (mY:mg "int"=none) (jd:Def P w K mg base 1 "_law_cell_at" ["_law_script","_law_k"] (xr K)):Def P w K mg base 2 "_law_drawn" ["_law_script","_law_k"] (rm K):=by
 refine aO T oB (λ_ _ _ _ _ _=>ar2 λ_ _=>rfl) (λvs H Q E h=>?_) (λf cdv A outer s H vs Q E hr h=>?_)
 ·obtain ⟨a,ns,k,rfl,_⟩:=h
  rfl
 obtain ⟨a,ns,k,rfl,S,h0,h1,q⟩:=h
 have nd:=oB.nd
 have t1:∃ t,PSs (cM CX0 P w K mg base qD "_law_drawn" (ak hU) f cdv A outer s H E).nox ((aY hU).drop 1) t/\
   ∀ c:Int,0<=c->c < 10 ^ 60->t {nx:=λ_ H'=>Q .non H',rt:=Q} [some (.ref a),some (.int k),some (.int c),none] H:=by
  refine ⟨_,(ah (aM (aC aZ (aA aX (aD jd (hr.mono (by decide)) rfl (aa (pv 0) (dM ag))) af) af (aI _)) (ao (av (aw aU (bo (aa (pv 2) (aa (aA bu (pv 2) af) ag))) (cC jv rfl mY (by decide +kernel) (aa (jn aZ (pv 1) af (aI _)) ag)) (λ_ _=>rfl)))) aH)
  (ah (aF (i:=3) nd rfl (Or.inl rfl) (aA aX (aA bg (aA bR (aA bR (pv 2) (aA bg af (pv 1))) af) af) af))
  (ao (av (aA bR (aA bg (pv 2) af) (aA aX (aA bg (pv 3) af) af)))))),λc v0 v2=>?_⟩
  have sc:Sm c:=Nat.lt_of_lt_of_le (m:=10 ^ 60) (by omega) (by decide)
  have sk:Sm k:=qj (by omega)
  refine ⟨_,rfl,a,ns,0,rfl,S,Int.le_refl 0,λz=>?_⟩
  refine ⟨_,_,rfl,rfl,(show (0:Int) < _ by decide),rfl,_,rfl,?_⟩
  refine bY (λ_=>?_) (λ_=>?_)
  ·refine ⟨_,rfl,_,rfl,_,_,rfl,rfl,⟨by decide,by decide⟩,(by show 2<=sizeLine;decide),λl hl=>?_⟩
   have u1:=aq hl (.lst [.int c,.int (c / 2)])
   refine ⟨_,rfl,rfl,?_⟩
   refine .inr ⟨_,rfl,?_⟩
   cases decide (V.int k=V.int 0) with
   | true=>exact ⟨_,_,_,_,rfl,rfl,SqL.of ae,rfl,q _ _ (by omega) u1⟩
   | false=>exact ⟨_,_,_,_,rfl,rfl,SqL.of ae,rfl,q _ _ v0 u1⟩
  ·have m1:(c+7919*k+1).natAbs < 2 ^ 200:=Nat.lt_of_lt_of_le (m:=10 ^ 60+10 ^ 9) (by omega) (by decide)
   refine ⟨_,rfl,_,rfl,_,_,rfl,rfl,mulS (qj (by decide)) sk,_,_,rfl,rfl,_,_,rfl,rfl,_,_,rfl,rfl,mulS m1 (qj (by decide)),_,_,rfl,rfl,(show (0:Int) < _ by decide),?_⟩
   refine ⟨_,rfl,_,_,rfl,rfl,mulS sc (qj (by decide)),_,rfl,_,_,rfl,rfl,mulS (sm_mod (by decide) (by decide)) (qj (by decide)),_,_,rfl,rfl,(show (0:Int) < _ by decide),_,_,rfl,rfl,?_⟩
   refine q _ H ?_ (λ_ _ h=>h)
   have:=Int.emod_nonneg ((c+7919*k+1)*48271 % 2147483647*69621) (show (2147483647:Int)≠0 by decide)
   have:=Int.mul_nonneg v0 (show (0:Int)<=2147483647 by decide)
   omega
 obtain ⟨t1,ht1,hq1⟩:=t1
 refine ⟨_,ah (aF (i:=2) nd rfl (Or.inl rfl) (aA aX (aD jd (hr.mono (by decide)) rfl (aa (pv 0) (aa (pv 1) ag))) (aA op_pow af af))) ht1,?_⟩
 refine ⟨_,rfl,_,rfl,a,ns,k,rfl,S,h0,λv=>?_⟩
 refine ⟨_,_,rfl,rfl,⟨by decide,by decide,by decide⟩,_,_,rfl,rfl,(show (0:Int) < _ by decide),?_⟩
 exact hq1 _ (Int.emod_nonneg _ (by decide)) (Int.emod_lt_of_pos _ (by decide))
end
end Mine
namespace L2
open PySem PySem.Spec PyProof.Rows
inductive Lt where
 | non | bl (b:Bool) | int (i:Int) | str (x:Str) | var (i:Nat) | tup (xs:List Lt) | lst (xs:List Lt) | dic
noncomputable def visB (sc:Scope) (x:Str):Bool:=match sc.names.lookup x with
 | some .local=>true
 | some .cell=>true
 | some .free=>true
 | _=>false
mutual
noncomputable def litE (N:List Str) (sc:Scope):Expr->Option Lt
 | .Constant .none _ _=>some .non
 | .Constant (.bool b) _ _=>some (.bl b)
 | .Constant (.int i) _ _=>some (.int i)
 | .Constant (.str x) _ _=>some (.str x)
 | .UnaryOp .USub (.Constant (.int i) _ _) _=>some (.int (-i))
 | .Name x _=>match N.idxOf? x with
  | some i=>if visB sc x && !(x == ("__debug__":Str)) && !(x == ("__classdict__":Str)) then some (.var i) else none
  | none=>none
 | .Tuple es _ _=>match mQ N sc es with
  | some xs=>some (.tup xs)
  | none=>none
 | .List es _=>match mQ N sc es with
  | some xs=>some (.lst xs)
  | none=>none
 | .Dict [] [] _=>some .dic
 | _=>none
noncomputable def mQ (N:List Str) (sc:Scope):List Expr->Option (List Lt)
 | []=>some []
 | e::es=>match litE N sc e,mQ N sc es with
  | some x,some xs=>if plainArg e then some (x::xs) else none
  | _,_=>none
end
mutual
noncomputable def tLit:Lt->TE
 | .non=>tC .non
 | .bl b=>tC (.bl b)
 | .int i=>tC (.int i)
 | .str x=>tC (.str x)
 | .var i=>Ar i
 | .tup xs=>tTup (sQ xs)
 | .lst xs=>tLst (sQ xs)
 | .dic=>Av
noncomputable def sQ:List Lt->TA
 | []=>jH
 | x::xs=>dZ (tLit x) (sQ xs)
end
mutual
noncomputable def LtV (σ:St) (H:Hp):Lt->V->Prop
 | .non,v=>v=.non
 | .bl b,v=>v=.bl b
 | .int i,v=>v=.int i
 | .str x,v=>v=.str x
 | .var i,v=>σ[i]?=some (some v)
 | .tup xs,v=>∃ a us,v=.ref a/\H a=some (.tup us)/\my σ H xs us
 | .lst xs,v=>∃ a us,v=.ref a/\H a=some (.lst us)/\my σ H xs us
 | .dic,v=>∃ a,v=.ref a/\H a=some (.dK [])
noncomputable def my (σ:St) (H:Hp):List Lt->List V->Prop
 | [],us=>us=[]
 | x::xs,us=>∃ u r,us=u::r/\LtV σ H x u/\my σ H xs r
end
mutual
noncomputable def Cp (σ:St):Lt->Bool
 | .var i=>match σ[i]? with | some (some _)=>true | _=>false
 | .tup xs=>decide (xs.length<=1000) && jT σ xs
 | .lst xs=>decide (xs.length<=1000) && jT σ xs
 | _=>true
noncomputable def jT (σ:St):List Lt->Bool
 | []=>true
 | x::xs=>Cp σ x && jT σ xs
end
mutual
theorem LtV.same {σ:St} {H H':Hp} (s:aJ H H'):∀{l:Lt} {v:V},LtV σ H l v->LtV σ H' l v
 | .non,_,h=>h
 | .bl _,_,h=>h
 | .int _,_,h=>h
 | .str _,_,h=>h
 | .var _,_,h=>h
 | .tup _,_,⟨a,us,h1,h2,h3⟩=>⟨a,us,h1,s _ _ h2,my.same s h3⟩
 | .lst _,_,⟨a,us,h1,h2,h3⟩=>⟨a,us,h1,s _ _ h2,my.same s h3⟩
 | .dic,_,⟨a,h1,h2⟩=>⟨a,h1,s _ _ h2⟩
theorem my.same {σ:St} {H H':Hp} (s:aJ H H'):∀{l:List Lt} {us:List V},my σ H l us->my σ H' l us
 | [],_,h=>h
 | _::_,_,⟨u,r,h1,h2,h3⟩=>⟨u,r,h1,LtV.same s h2,my.same s h3⟩
end
theorem my.len {σ:St} {H:Hp}:∀{l:List Lt} {us:List V},my σ H l us->us.length=l.length
 | [],_,h=>by cases (show _=([]:List V) from h);rfl
 | _::_,_,⟨u,r,h1,_,h3⟩=>by subst h1;simp [my.len h3]
theorem sameNew {H:Hp} {p:Addr} (h:H p=none) (o:HO):aJ H (upd H p o):=λb u z=>by rw [au (aB z h)];exact z
mutual
theorem lit_ok {σ:St}:∀(l:Lt) {H:Hp} {Q:VK},Cp σ l=true->(∀ v H',aJ H H'->LtV σ H' l v->Q v H')->tLit l σ H Q
 | .non,H,Q,_,q=>q _ _ (λ_ _ z=>z) rfl
 | .bl _,H,Q,_,q=>q _ _ (λ_ _ z=>z) rfl
 | .int _,H,Q,_,q=>q _ _ (λ_ _ z=>z) rfl
 | .str _,H,Q,_,q=>q _ _ (λ_ _ z=>z) rfl
 | .var i,H,Q,h,q=>by
  have h':(match σ[i]? with | some (some _)=>true | _=>false)=true:=h
  cases e:σ[i]? with
  | none=>rw [e] at h';cases h'
  | some o =>
   cases o with
   | none=>rw [e] at h';cases h'
   | some v=>exact ⟨v,e,q v H (λ_ _ z=>z) e⟩
 | .tup xs,H,Q,h,q=>by
  have h':(decide (xs.length<=1000) && jT σ xs)=true:=h
  rw [Bool.and_eq_true] at h'
  refine rV xs h'.2 λus H1 s1 l1=>⟨?_,λp hp=>?_⟩
  ·rw [l1.len];exact Nat.le_trans (of_decide_eq_true h'.1) (by decide)
  ·have s2:=sameNew hp (.tup us)
   exact q _ _ (λb o z=>s2 _ _ (s1 _ _ z)) ⟨p,us,rfl,ae,l1.same s2⟩
 | .lst xs,H,Q,h,q=>by
  have h':(decide (xs.length<=1000) && jT σ xs)=true:=h
  rw [Bool.and_eq_true] at h'
  refine rV xs h'.2 λus H1 s1 l1=>⟨?_,λp hp=>?_⟩
  ·rw [l1.len];exact Nat.le_trans (of_decide_eq_true h'.1) (by decide)
  ·have s2:=sameNew hp (.lst us)
   exact q _ _ (λb o z=>s2 _ _ (s1 _ _ z)) ⟨p,us,rfl,ae,l1.same s2⟩
 | .dic,H,Q,_,q=>λp hp=>q _ _ (sameNew hp _) ⟨p,rfl,ae⟩
theorem rV {σ:St}:∀(l:List Lt) {H:Hp} {Q:List V->Hp->Prop},jT σ l=true->(∀ us H',aJ H H'->my σ H' l us->Q us H')->sQ l σ H Q
 | [],H,Q,_,q=>q [] H (λ_ _ z=>z) rfl
 | x::xs,H,Q,h,q=>by
  have h':(Cp σ x && jT σ xs)=true:=h
  rw [Bool.and_eq_true] at h'
  refine lit_ok x h'.1 λv H1 s1 l1=>rV xs h'.2 λus H2 s2 l2=>?_
  exact q _ _ (λb o z=>s2 _ _ (s1 _ _ z)) ⟨v,us,rfl,l1.same s2,l2⟩
end
section
variable {X:Cx}
theorem Cy {N:List Str} {x:Str} {i:Nat} (h:N.idxOf? x=some i):N[i]?=some x:=by
 have:=List.of_findIdx?_eq_some (p:=λy=>y == x) (xs:=N) h
 cases e:N[i]? with
 | none=>rw [e] at this;cases this
 | some y =>
  rw [e] at this
  have:(y == x)=true:=this
  rw [beq_iff_eq] at this
  rw [this]
theorem vis_of {sc:Scope} {x:Str} (h:visB sc x=true):Vis sc x:=by
 unfold visB at h
 unfold Vis
 cases e:sc.names.lookup x with
 | none=>rw [e] at h;cases h
 | some k =>
  rw [e] at h
  cases k with
  | «local»=>exact .inl rfl
  | cell=>exact .inr (.inl rfl)
  | free=>exact .inr (.inr rfl)
  | globalExplicit=>cases h
  | globalImplicit=>cases h
mutual
theorem pe_litN {N:List Str} {sc:Scope} (eN:X.N=N) (es:X.env.scope=sc):∀(e:Expr) {l:Lt},litE N sc e=some l->PE X e (tLit l):=λe l h=>by
 cases e with
 | Constant c k p =>
  cases c with
  | none=>cases h;exact eI
  | bool b=>cases h;exact jF
  | int i=>cases h;exact af
  | str x=>cases h;exact aK
  | _=>cases h
 | UnaryOp o a p =>
  cases o with
  | USub =>
   cases a with
   | Constant c k q =>
    cases c with
    | int i =>
     cases h
     intro pins s σ H Q I q
     exact jE gM af pins s σ H Q I ⟨i,rfl,q⟩
    | _=>cases h
   | _=>cases h
  | _=>cases h
 | Name x p =>
  unfold litE at h
  cases z:N.idxOf? x with
  | none=>rw [z] at h;cases h
  | some i =>
   rw [z] at h
   dsimp only at h
   by_cases c:(visB sc x && !(x == ("__debug__":Str)) && !(x == ("__classdict__":Str)))=true
   ·rw [if_pos c] at h
    cases h
    rw [Bool.and_eq_true,Bool.and_eq_true] at c
    exact Bu (by rw [eN];exact Cy z) (by rw [es];exact vis_of c.1.1) (by simpa using c.1.2) (by simpa using c.2)
   ·rw [if_neg c] at h;cases h
 | Tuple xs c p =>
  unfold litE at h
  cases z:mQ N sc xs with
  | none=>rw [z] at h;cases h
  | some ls=>rw [z] at h;cases h;exact aL (rN eN es xs z)
 | List xs p =>
  unfold litE at h
  cases z:mQ N sc xs with
  | none=>rw [z] at h;cases h
  | some ls=>rw [z] at h;cases h;exact bo (rN eN es xs z)
 | Dict ks vs p =>
  cases ks with
  | nil =>
   cases vs with
   | nil=>cases h;exact Bx
   | cons _ _=>cases h
  | cons _ _=>cases h
 | _=>cases h
theorem rN {N:List Str} {sc:Scope} (eN:X.N=N) (es:X.env.scope=sc):∀(xs:List Expr) {ls:List Lt},mQ N sc xs=some ls->PA X xs (sQ ls)
 | [],ls,h=>by cases h;exact ag
 | e::r,ls,h=>by
  unfold mQ at h
  cases z1:litE N sc e with
  | none=>rw [z1] at h;cases h
  | some x =>
   cases z2:mQ N sc r with
   | none=>rw [z1,z2] at h;cases h
   | some ys =>
    rw [z1,z2] at h
    dsimp only at h
    by_cases c:plainArg e=true
    ·rw [if_pos c] at h
     cases h
     exact paS (pe_litN eN es e z1) (rN eN es r z2) c
    ·rw [if_neg c] at h;cases h
end
structure vm (X:Cx) (ss:List Stmt) (t:TS):Prop where
 h:PSs X ss t
theorem fc {st:Stmt} {rest:List Stmt} {t u:TS} (h1:PS X st t) (h2:vm X rest u):PSs X (st::rest) (tSeq t u):=ah h1 h2.h
end
end L2
namespace Mine
open PySem L2
theorem Tu.leaf46 {H:Hp} {a:Addr} {t:Tr} (h:H a=some (.tup [.str t.word])) (k:t.kids=[]):Tu H a t:=Tu.mk t h (by rw [k];exact .nil)
noncomputable abbrev kS:List V:=[V.str "p",.str "q",.str "p",.str "q",.str "always",.str "never",.str "p",.str "q"]
theorem zr {j:Int} (h0:0<=j) (h1:j < 8):∃ t:Tr,atI kS j=some (.str t.word)/\t.kids=[]/\t.size=1/\t.nf=0:=by
 have c:j=0\/j=1\/j=2\/j=3\/j=4\/j=5\/j=6\/j=7:=by omega
 rcases c with rfl | rfl | rfl | rfl | rfl | rfl | rfl | rfl
 ·exact ⟨.lp,rfl,rfl,rfl,rfl⟩
 ·exact ⟨.lq,rfl,rfl,rfl,rfl⟩
 ·exact ⟨.lp,rfl,rfl,rfl,rfl⟩
 ·exact ⟨.lq,rfl,rfl,rfl,rfl⟩
 ·exact ⟨.always,rfl,rfl,rfl,rfl⟩
 ·exact ⟨.never,rfl,rfl,rfl,rfl⟩
 ·exact ⟨.lp,rfl,rfl,rfl,rfl⟩
 ·exact ⟨.lq,rfl,rfl,rfl,rfl⟩
noncomputable def xc (K:PySem.W.Frag) (n:Nat):Sp:=λvs H Q _=>∃(a:Addr) (ns:List Int) (at_ fo:Int),vs=[.ref a,.int at_,.int fo]/\Scr K H a ns/\0<=at_/\0<=fo/\fo.toNat+1<=n/\at_+2*fo+1<=900/\
 ∀(p b:Addr) (t:Tr) (H':Hp),aJ H H'->H' p=some (.tup [.ref b,.int (2*fo+1)])->Tu H' b t->(t.nf:Int)=fo->(t.size:Int)<=4*fo+2->Q (.ref p) H'
noncomputable abbrev AQ:List Str:=["_law_script","_law_at","_law_folds","_law_cell","_law_took","_law_tree","_law_low","_law_one","_law_other"]
section
variable {P:Program} {w:World} {K:PySem.W.Frag} {mg:Str->Option Value} {base:Heap} {c:CCs}
theorem oj:aG AQ ["_law_script","_law_at","_law_folds"] (ak gh):=L2.fsc rfl (by decide +kernel)
theorem BI (T:aE K mg "_law_saying" gh) (dI:Def P w K mg base 2 "_law_drawn" ["_law_script","_law_k"] (rm K)):∀ n:Nat,Def P w K mg base (n+2) "_law_saying" ["_law_script","_law_at","_law_folds"] (xc K n):=by
 intro n
 induction n with
 | zero =>
  refine aO T oj (λ_ _ _ _ _ _=>L2.ar3 λ_ _ _=>rfl) (λvs H Q E h=>?_) (λf cdv A outer s H vs Q E hr h=>?_)
  ·obtain ⟨a,ns,at_,fo,rfl,_⟩:=h
   rfl
  ·obtain ⟨a,ns,at_,fo,rfl,_,_,_,z,_⟩:=h
   omega
 | succ n eU =>
  refine aO T oj (λ_ _ _ _ _ _=>L2.ar3 λ_ _ _=>rfl) (λvs H Q E h=>?_) (λf cdv A outer s H vs Q E hr h=>?_)
  ·obtain ⟨a,ns,at_,fo,rfl,_⟩:=h
   rfl
  obtain ⟨a,ns,at_,fo,rfl,S,a0,f0,fn,lim,q⟩:=h
  have nd:=oj.nd
  have sz:∀ n:Nat,n<=100->n<=sizeLine:=λn h=>Nat.le_trans h (by decide)
  have t4:∃ t,vm (cM CX0 P w K mg base AQ "_law_saying" (ak gh) f cdv A outer s H E).nox ((aY gh).drop 4) t/\∀(cell:Int) (b:Addr) (x:Tr) (o6 o7 o8:Option V) (H1:Hp),aJ H H1->Tu H1 b x->(x.nf:Int)=fo->(x.size:Int)<=4*fo+1->
    t {nx:=λ_ H'=>Q .non H',rt:=Q} [some (.ref a),some (.int at_),some (.int fo),some (.int cell),some (.int (2*fo+1)),some (.ref b),o6,o7,o8] H1:=by
   refine ⟨_,⟨(ah (aM (aC aZ (aA aX (pv 3) af) af (aI _)) (ao (aF (i:=5) nd rfl (Or.inl rfl) (aL (aa aK (aa (pv 5) ag))))) aH)
  (ao (av (aL (aa (pv 5) (aa (pv 4) ag))))))⟩,?_⟩
   intro cell b x o6 o7 o8 H1 s1 tb nf si
   refine ⟨_,rfl,_,_,rfl,rfl,(by show (0:Int) < 3;decide),rfl,_,rfl,bY (λ_=>?_) (λ_=>?_)⟩
   ·refine ⟨_,rfl,sz 2 (by decide),λp hp=>?_⟩
    have u1:=aq hp (.tup [.str "not",.ref b])
    have tp:Tu (upd H1 p (.tup [.str "not",.ref b])) p (.no x):=.no ae (tb.to (Kp.of u1))
    refine ⟨_,rfl,_,rfl,sz 2 (by decide),λp2 hp2=>?_⟩
    have u2:=aq hp2 (.tup [.ref p,.int (2*fo+1)])
    exact q p2 p (.no x) _ ((s1.trans u1).trans u2) ae (tp.to (Kp.of u2)) (by rw [nf_no];exact nf) (by show ((x.size+1:Nat):Int)<=_;omega)
   ·refine ⟨_,rfl,_,rfl,sz 2 (by decide),λp2 hp2=>?_⟩
    have u2:=aq hp2 (.tup [.ref b,.int (2*fo+1)])
    exact q p2 b x _ (s1.trans u2) ae (tb.to (Kp.of u2)) nf (by omega)
  obtain ⟨t4,ht4,k4⟩:=t4
  refine ⟨_,ah (aF (i:=3) nd rfl (Or.inl rfl) (aD dI (hr.mono (by omega)) rfl (aa (pv 0) (aa (pv 1) ag)))) (ah (aF (i:=4) nd rfl (Or.inl rfl) af) (ah (aF (i:=5) nd rfl (Or.inl rfl) (aL (aa (aw aU (bo (aa aK (aa aK (aa aK (aa aK (aa aK (aa aK (aa aK (aa aK ag))))))))) (aA aX (aA bu (pv 3) af) af) (λ_ _=>rfl)) ag))) (fc (aM (aC tV (pv 2) af (aI _)) (ah (aF (i:=6) nd rfl (Or.inl rfl) (aA kM (aA bu (pv 3) af) (pv 2)))
  (ah (aF (i:=7) nd rfl (Or.inl rfl) (aD eU (hr.mono (by omega)) rfl (aa (pv 0) (aa (aA bR (pv 1) af) (aa (pv 6) ag)))))
  (ah (aF (i:=8) nd rfl (Or.inl rfl) (aD eU (hr.mono (by omega)) rfl (aa (pv 0) (aa (aA bR (aA bR (pv 1) af) (aw az (pv 7) af (λ_ _=>rfl))) (aa (aA eM (aA eM (pv 2) af) (pv 6)) ag)))))
  (ah (aF (i:=5) nd rfl (Or.inl rfl) (aL (aa (aw aU (bo (aa aK (aa aK (aa aK (aa aK (aa aK ag)))))) (aA aX (aA bu (pv 3) af) af) (λ_ _=>rfl)) (aa (aw az (pv 7) af (λ_ _=>rfl)) (aa (aw az (pv 8) af (λ_ _=>rfl)) ag)))))
  (ao (aF (i:=4) nd rfl (Or.inl rfl) (aA bR (aA bR af (aw az (pv 7) af (λ_ _=>rfl))) (aw az (pv 8) af (λ_ _=>rfl))))))))) aH) ht4))),?_⟩
  refine ⟨_,rfl,_,rfl,a,ns,at_,rfl,S,a0,by omega,λcell H1 c0 s1=>?_⟩
  refine ⟨sz 8 (by decide),λl hl=>?_⟩
  have u1:=aq hl (.lst kS)
  obtain ⟨lf,hlf,lk,ls,ln⟩:=zr (j:=cell / 3 % 8) (Int.emod_nonneg _ (by decide)) (Int.emod_lt_of_pos _ (by decide))
  refine ⟨_,rfl,_,_,rfl,rfl,⟨by decide,by decide⟩,_,_,rfl,rfl,(by show (0:Int) < 8;decide),_,_,_,_,rfl,rfl,SqL.of ae,hlf,sz 1 (by decide),λp hp=>?_⟩
  have u2:=aq hp (.tup [.str lf.word])
  have s2:=(s1.trans u1).trans u2
  have tp:Tu (upd (upd H1 l (.lst kS)) p (.tup [.str lf.word])) p lf:=Tu.leaf46 ae lk
  generalize upd (upd H1 l (.lst kS)) p (.tup [.str lf.word])=H2 at s2 tp ⊢
  refine ⟨_,rfl,_,_,rfl,rfl,_,rfl,bY (λc=>?_) (λc=>?_)⟩
  ·have c:0 < fo:=of_decide_eq_true c
   have z0:=Int.fmod_nonneg_of_pos (cell / 120) c
   have z1:=Int.fmod_lt_of_pos (cell / 120) c
   refine ⟨_,rfl,_,_,rfl,rfl,⟨by decide,by decide⟩,_,rfl,_,_,rfl,rfl,(by show fo≠0;omega),?_⟩
   refine ⟨_,rfl,_,rfl,_,_,rfl,rfl,_,rfl,a,ns,at_+1,_,rfl,S.to s2,by omega,z0,by omega,by omega,λp1 b1 t1 H3 s3 e1 tu1 nf1 si1=>?_⟩
   have s23:=s2.trans s3
   refine ⟨_,rfl,_,rfl,_,_,rfl,rfl,_,rfl,_,_,_,_,rfl,rfl,SqT.of e1,rfl,_,_,rfl,rfl,_,rfl,_,_,rfl,rfl,_,rfl,_,_,rfl,rfl,a,ns,_,_,rfl,S.to s23,by omega,by omega,by omega,by omega,λp2 b2 t2 H4 s4 e2 tu2 nf2 si2=>?_⟩
   have s34:=s23.trans s4
   refine ⟨sz 5 (by decide),λl5 hl5=>?_⟩
   have u5:=aq hl5 (.lst [V.str "more",.str "less",.str "greater",.str "lesser",.str "leads"])
   have el5:upd H4 l5 (.lst [V.str "more",.str "less",.str "greater",.str "lesser",.str "leads"]) l5=_:=ae
   generalize upd H4 l5 (.lst [V.str "more",.str "less",.str "greater",.str "lesser",.str "leads"])=H5 at u5 el5 ⊢
   obtain ⟨u,hu5⟩:=word_at (cell / 24 % 5) (Int.emod_nonneg _ (by decide)) (Int.emod_lt_of_pos _ (by decide))
   have e1':=(s4.trans u5) _ _ e1
   have e2':=u5 _ _ e2
   refine ⟨_,rfl,_,_,rfl,rfl,⟨by decide,by decide⟩,_,_,rfl,rfl,(by show (0:Int) < 5;decide),_,_,_,_,rfl,rfl,SqL.of el5,hu5,_,rfl,_,_,_,_,rfl,rfl,SqT.of e1',rfl,_,rfl,_,_,_,_,rfl,rfl,SqT.of e2',rfl,sz 3 (by decide),λp6 hp6=>?_⟩
   have u6:=aq hp6 (.tup [.str u.str,.ref b1,.ref b2])
   have tf:Tu (upd H5 p6 (.tup [.str u.str,.ref b1,.ref b2])) p6 (.fold u t1 t2):=.fold ae (((tu1.to (Kp.of s4)).to (Kp.of u5)).to (Kp.of u6)) ((tu2.to (Kp.of u5)).to (Kp.of u6))
   refine ⟨_,rfl,_,_,_,_,rfl,rfl,SqT.of (u6 _ _ e1'),rfl,_,_,rfl,rfl,_,rfl,_,_,_,_,rfl,rfl,SqT.of (u6 _ _ e2'),rfl,_,_,rfl,rfl,?_⟩
   have et:1+(2*(cell / 120).fmod fo+1)+(2*(fo - 1 - (cell / 120).fmod fo)+1)=2*fo+1:=by omega
   show t4 _ [some (.ref a),some (.int at_),some (.int fo),some (.int cell),some (.int (1+(2*(cell / 120).fmod fo+1)+(2*(fo - 1 - (cell / 120).fmod fo)+1))),some (.ref p6),some (.int ((cell / 120).fmod fo)),some (.ref p1),some (.ref p2)] _
   rw [et]
   exact k4 cell p6 (.fold u t1 t2) _ _ _ _ ((s34.trans u5).trans u6) tf (by rw [rO];omega) (by show ((t1.size+t2.size+1:Nat):Int)<=_;omega)
  ·have c:¬0 < fo:=λz=>c (decide_eq_true z)
   have fz:fo=0:=by omega
   subst fz
   exact k4 cell p lf _ _ _ H2 s2 tp (by rw [ln];rfl) (by rw [ls];decide)
end
section
variable {P:Program} {w:World} {K:PySem.W.Frag} {mg:Str->Option Value} {base:Heap} {c:CCs}
theorem oq:aG ["_law_tree","_law_one","_law_other"] ["_law_tree"] (ak jM):=L2.fsc rfl (by decide +kernel)
noncomputable def xi (c:CCs) (n:Nat):Sp:=λvs H Q _=>∃(a:Addr) (t:Tr),vs=[.ref a]/\Tu H a t/\t.size<=n/\∀ x H',aJ H H'->Ob c H' x t->Q (.ref x) H'
theorem BO (T:aE K mg "_law_object" jM) (dN:mg "len"=none) (N_never:Mk0 K c.ne) (M_never:mg "Never"=some (.ref c.ne)) (Dr:Mk0 K c.al) (Ds:mg "Always"=some (.ref c.al)) (Dt:pI P w K mg base "Letter" c.le 1 ["self","name"] (jg c.le kX)) (K_not:pI P w K mg base "Not" c.no 1 ["self","part"] (jg c.no mV)) (pJ:∀ u:W5,pI P w K mg base u.cls (c.fold u) 1 ["self","one","other"] (rj (c.fold u))):∀ n:Nat,Def P w K mg base (n+3) "_law_object" ["_law_tree"] (xi c n):=by
 intro n
 induction n with
 | zero =>
  refine aO T oq (λ_ _ _ _ _ _=>L2.ar1 λ_=>rfl) (λvs H Q E h=>?_) (λf cdv A outer s H vs Q E hr h=>?_)
  ·obtain ⟨a,t,rfl,_⟩:=h
   rfl
  ·obtain ⟨a,t,rfl,_,z,_⟩:=h
   have:=t.size_pos
   omega
 | succ n dG =>
  refine aO T oq (λ_ _ _ _ _ _=>L2.ar1 λ_=>rfl) (λvs H Q E h=>?_) (λf cdv A outer s H vs Q E hr h=>?_)
  ·obtain ⟨a,t,rfl,_⟩:=h
   rfl
  obtain ⟨a,t,rfl,tu,hz,q⟩:=h
  have nd:=oq.nd
  refine ⟨_,(ah (aM (aC aZ (aw az (pv 0) af (λ_ _=>rfl)) aK (aI _)) (ao (av (tT N_never rfl M_never))) aH)
  (ah (aM (aC aZ (aw az (pv 0) af (λ_ _=>rfl)) aK (aI _)) (ao (av (tT Dr rfl Ds))) aH)
  (ah (aM (aC aZ (aR fG rfl dN (by decide +kernel) (aa (pv 0) ag)) af (aI _)) (ao (av (oQ Dt (hr.mono (by omega)) rfl (aa (aw az (pv 0) af (λ_ _=>rfl)) ag)))) aH)
  (ah (aM (aC aZ (aw az (pv 0) af (λ_ _=>rfl)) aK (aI _)) (ao (av (oQ K_not (hr.mono (by omega)) rfl (aa (aD dG (hr.mono (by omega)) rfl (aa (aw az (pv 0) af (λ_ _=>rfl)) ag)) ag)))) aH)
  (ah (aF (i:=1) nd rfl (Or.inl rfl) (aD dG (hr.mono (by omega)) rfl (aa (aw az (pv 0) af (λ_ _=>rfl)) ag)))
  (ah (aF (i:=2) nd rfl (Or.inl rfl) (aD dG (hr.mono (by omega)) rfl (aa (aw az (pv 0) af (λ_ _=>rfl)) ag)))
  (ah (aM (aC aZ (aw az (pv 0) af (λ_ _=>rfl)) aK (aI _)) (ao (av (oQ (pJ .more) (hr.mono (by omega)) rfl (aa (pv 1) (aa (pv 2) ag))))) aH)
  (ah (aM (aC aZ (aw az (pv 0) af (λ_ _=>rfl)) aK (aI _)) (ao (av (oQ (pJ .less) (hr.mono (by omega)) rfl (aa (pv 1) (aa (pv 2) ag))))) aH)
  (ah (aM (aC aZ (aw az (pv 0) af (λ_ _=>rfl)) aK (aI _)) (ao (av (oQ (pJ .greater) (hr.mono (by omega)) rfl (aa (pv 1) (aa (pv 2) ag))))) aH)
  (ah (aM (aC aZ (aw az (pv 0) af (λ_ _=>rfl)) aK (aI _)) (ao (av (oQ (pJ .lesser) (hr.mono (by omega)) rfl (aa (pv 1) (aa (pv 2) ag))))) aH)
  (ao (av (oQ (pJ .leads) (hr.mono (by omega)) rfl (aa (pv 1) (aa (pv 2) ag))))))))))))))),?_⟩
  cases tu with
  | never e =>
   refine ⟨_,rfl,_,_,_,_,rfl,rfl,SqT.of e,rfl,rfl,_,rfl,ite_yes rfl (λz dz h1 h2 ne=>?_)⟩
   exact q z _ (oG (C:=c.ne) h1 h2) (.never ae)
  | always e =>
   refine ⟨_,rfl,_,_,_,_,rfl,rfl,SqT.of e,rfl,rfl,_,rfl,ite_no (by decide +kernel) ?_⟩
   refine ⟨_,rfl,_,_,_,_,rfl,rfl,SqT.of e,rfl,rfl,_,rfl,ite_yes rfl (λz dz h1 h2 ne=>?_)⟩
   exact q z _ (oG (C:=c.al) h1 h2) (.always ae)
  | lp e =>
   refine ⟨_,rfl,_,_,_,_,rfl,rfl,SqT.of e,rfl,rfl,_,rfl,ite_no (by decide +kernel) ?_⟩
   refine ⟨_,rfl,_,_,_,_,rfl,rfl,SqT.of e,rfl,rfl,_,rfl,ite_no (by decide +kernel) ?_⟩
   refine ⟨_,rfl,_,_,rfl,.inr ⟨_,SqT.of e,rfl⟩,rfl,_,rfl,dk ?_⟩
   refine ⟨_,rfl,_,_,_,_,rfl,rfl,SqT.of e,rfl,λz dz h1 h2 ne=>⟨z,dz,_,rfl,ae,rfl,?_⟩⟩
   exact q z _ (hG (C:=c.le) (fs:=kX (.str "p")) h1 h2 ne) (.lp ae)
  | lq e =>
   refine ⟨_,rfl,_,_,_,_,rfl,rfl,SqT.of e,rfl,rfl,_,rfl,ite_no (by decide +kernel) ?_⟩
   refine ⟨_,rfl,_,_,_,_,rfl,rfl,SqT.of e,rfl,rfl,_,rfl,ite_no (by decide +kernel) ?_⟩
   refine ⟨_,rfl,_,_,rfl,.inr ⟨_,SqT.of e,rfl⟩,rfl,_,rfl,dk ?_⟩
   refine ⟨_,rfl,_,_,_,_,rfl,rfl,SqT.of e,rfl,λz dz h1 h2 ne=>⟨z,dz,_,rfl,ae,rfl,?_⟩⟩
   exact q z _ (hG (C:=c.le) (fs:=kX (.str "q")) h1 h2 ne) (.lq ae)
  | @no _ b x e tb =>
   have hz':x.size+1<=n+1:=hz
   refine ⟨_,rfl,_,_,_,_,rfl,rfl,SqT.of e,rfl,rfl,_,rfl,ite_no (by decide +kernel) ?_⟩
   refine ⟨_,rfl,_,_,_,_,rfl,rfl,SqT.of e,rfl,rfl,_,rfl,ite_no (by decide +kernel) ?_⟩
   refine ⟨_,rfl,_,_,rfl,.inr ⟨_,SqT.of e,rfl⟩,rfl,_,rfl,bM ?_⟩
   refine ⟨_,rfl,_,_,_,_,rfl,rfl,SqT.of e,rfl,rfl,_,rfl,ite_yes rfl ?_⟩
   refine ⟨_,rfl,_,_,_,_,rfl,rfl,SqT.of e,rfl,b,x,rfl,tb,by omega,λy H2 s2 oy=>?_⟩
   exact λz dz h1 h2 ne=>⟨z,dz,_,rfl,ae,rfl,q z _ (s2.trans (hG (C:=c.no) (fs:=mV (.ref y)) h1 h2 ne)) (.no ae (oy.to (Kp.of (hG (C:=c.no) (fs:=mV (.ref y)) h1 h2 ne))))⟩
  | @fold _ b d u x y e tb td =>
   have hz':x.size+y.size+1<=n+1:=hz
   refine ⟨_,rfl,_,_,_,_,rfl,rfl,SqT.of e,rfl,rfl,_,rfl,ite_no (by cases u <;> decide +kernel) ?_⟩
   refine ⟨_,rfl,_,_,_,_,rfl,rfl,SqT.of e,rfl,rfl,_,rfl,ite_no (by cases u <;> decide +kernel) ?_⟩
   refine ⟨_,rfl,_,_,rfl,.inr ⟨_,SqT.of e,rfl⟩,rfl,_,rfl,bM ?_⟩
   refine ⟨_,rfl,_,_,_,_,rfl,rfl,SqT.of e,rfl,rfl,_,rfl,ite_no (by cases u <;> decide +kernel) ?_⟩
   refine ⟨_,rfl,_,_,_,_,rfl,rfl,SqT.of e,rfl,b,x,rfl,tb,by omega,λo1 H1 s1 ob1=>?_⟩
   refine ⟨_,rfl,_,_,_,_,rfl,rfl,SqT.of (s1 _ _ e),rfl,d,y,rfl,td.to (Kp.of s1),by omega,λo2 H2 s2 ob2=>?_⟩
   have s12:=s1.trans s2
   have e2:=s12 _ _ e
   have ob1':=ob1.to (Kp.of s2)
   have e3:=e2
   have fin:∀(z dz:Addr),H2 z=none->H2 dz=none->dz≠z->Q (.ref z) (upd (upd (upd H2 dz (.own z)) z (.ins (c.fold u) dz [])) z (.ins (c.fold u) dz (pS (.ref o1) (.ref o2)))):=λz dz h1 h2 ne=>zp (Q:=Q) h1 h2 ne ob1' ob2 λe' H' s' o'=>q e' H' (s12.trans s') o'
   cases u
   ·refine ⟨_,rfl,_,_,_,_,rfl,rfl,SqT.of e3,rfl,rfl,_,rfl,ite_yes rfl ?_⟩
    exact ⟨_,rfl,_,rfl,λz dz h1 h2 ne=>⟨z,dz,_,_,rfl,ae,rfl,fin z dz h1 h2 ne⟩⟩
   ·refine ⟨_,rfl,_,_,_,_,rfl,rfl,SqT.of e3,rfl,rfl,_,rfl,ite_no (by decide +kernel) ?_⟩
    refine ⟨_,rfl,_,_,_,_,rfl,rfl,SqT.of e3,rfl,rfl,_,rfl,ite_yes rfl ?_⟩
    exact ⟨_,rfl,_,rfl,λz dz h1 h2 ne=>⟨z,dz,_,_,rfl,ae,rfl,fin z dz h1 h2 ne⟩⟩
   ·refine ⟨_,rfl,_,_,_,_,rfl,rfl,SqT.of e3,rfl,rfl,_,rfl,ite_no (by decide +kernel) ?_⟩
    refine ⟨_,rfl,_,_,_,_,rfl,rfl,SqT.of e3,rfl,rfl,_,rfl,ite_no (by decide +kernel) ?_⟩
    refine ⟨_,rfl,_,_,_,_,rfl,rfl,SqT.of e3,rfl,rfl,_,rfl,ite_yes rfl ?_⟩
    exact ⟨_,rfl,_,rfl,λz dz h1 h2 ne=>⟨z,dz,_,_,rfl,ae,rfl,fin z dz h1 h2 ne⟩⟩
   ·refine ⟨_,rfl,_,_,_,_,rfl,rfl,SqT.of e3,rfl,rfl,_,rfl,ite_no (by decide +kernel) ?_⟩
    refine ⟨_,rfl,_,_,_,_,rfl,rfl,SqT.of e3,rfl,rfl,_,rfl,ite_no (by decide +kernel) ?_⟩
    refine ⟨_,rfl,_,_,_,_,rfl,rfl,SqT.of e3,rfl,rfl,_,rfl,ite_no (by decide +kernel) ?_⟩
    refine ⟨_,rfl,_,_,_,_,rfl,rfl,SqT.of e3,rfl,rfl,_,rfl,ite_yes rfl ?_⟩
    exact ⟨_,rfl,_,rfl,λz dz h1 h2 ne=>⟨z,dz,_,_,rfl,ae,rfl,fin z dz h1 h2 ne⟩⟩
   ·refine ⟨_,rfl,_,_,_,_,rfl,rfl,SqT.of e3,rfl,rfl,_,rfl,ite_no (by decide +kernel) ?_⟩
    refine ⟨_,rfl,_,_,_,_,rfl,rfl,SqT.of e3,rfl,rfl,_,rfl,ite_no (by decide +kernel) ?_⟩
    refine ⟨_,rfl,_,_,_,_,rfl,rfl,SqT.of e3,rfl,rfl,_,rfl,ite_no (by decide +kernel) ?_⟩
    refine ⟨_,rfl,_,_,_,_,rfl,rfl,SqT.of e3,rfl,rfl,_,rfl,ite_no (by decide +kernel) ?_⟩
    exact ⟨_,rfl,_,rfl,λz dz h1 h2 ne=>⟨z,dz,_,_,rfl,ae,rfl,fin z dz h1 h2 ne⟩⟩
end
theorem rows_ls {K:PySem.W.Frag} {H:Hp} {t:Tr} {l:Addr} {us:List V} (e:H l=some (.lst us)) (al:bO (RwV H) us t.rows):dY K H (.ref l) (cg t):=⟨l,us,rfl,e,(iC t).dat al⟩
noncomputable def FrB (K:PySem.W.Frag) (H:Hp) (v:V) (f:Int×Int):Prop:=FrV K H v f/\Bg f.1/\Bg f.2
theorem FrB.to {K:PySem.W.Frag} {H H':Hp} (s:aJ H H') (v:V) (f:Int×Int) (h:FrB K H v f):FrB K H' v f:=⟨h.1.to s,h.2⟩
noncomputable abbrev jV:List Str:=["_law_script","_law_cell","_law_folds","_law_tree","_law_saying_here","_law_rows","_law_way","_law_told","_law_least_here","_law_fractions","_law_due_here","_law_found"]
section
variable {P:Program} {w:World} {K:PySem.W.Frag} {mg:Str->Option Value} {base:Heap} {c:CCs}
theorem tI:aG jV ["_law_script"] (ak gf):=L2.fsc rfl (by decide +kernel)
theorem ok_law {f:Addr} {fd:FuncData} (F:Fun K "law" "law" gf f fd) (dE:mg "isinstance"=none) (wB:mg "bool"=none) (dI:Def P w K mg base 2 "_law_drawn" ["_law_script","_law_k"] (rm K)) (eU:Def P w K mg base 15 "_law_saying" ["_law_script","_law_at","_law_folds"] (xc K 13)) (dG:Def P w K mg base 53 "_law_object" ["_law_tree"] (xi c 50))
  (pX:Def P w K mg base 9 "_law_refused" ["_law_saying_here","_law_tree"] (xg c)) (pW:Def P w K mg base 62 "_law_rows_of" ["_law_tree"] qg) (iH:Def P w K mg base 14 "_law_begun_otherwise" ["_law_lists","_law_cell"] (xw K)) (bW:Def P w K mg base 13 "_law_grown" ["_law_lists","_law_hull"] (nG K 9)) (Ad:Def P w K mg base 14 "cutting" ["saying"] (xq c K))
  (bS : Def P w K mg base 1 "_law_square" [] (sY K)) (fU : Def P w K mg base 12 "_law_spoilt" ["_law_tree", "_law_cell"] (sX K 10)) (vo : Def P w K mg base 18 "_law_least" ["_law_rows"] (xj K)) (wQ : Def P w K mg base 3 "_law_near" ["_law_least_here", "_law_cell"] (AD K)) (Ac : Def P w K mg base 18 "_law_due" ["_law_rows", "_law_tree", "_law_least_here"] (xp K)) (D_holds : Def P w K mg base 8 "holds" ["saying", "tree", "least"] (spHo c K)) : lB P w K mg base CX0 80 f fd ["_law_script"] (spLaw K) := by
 refine F.ok tI (λvs H Q E h=>?_) (λcdv A outer s H vs Q E hr h=>?_)
 ·obtain ⟨a,ns,rfl,_⟩:=h
  rfl
 obtain ⟨a,ns,rfl,S,q⟩:=h
 have nd:=tI.nd
 have sz:∀ n:Nat,n<=100->n<=sizeLine:=λn h=>Nat.le_trans h (by decide)
 have t16:∃ t,vm (cM CX0 P w K mg base jV "law" (ak gf) f cdv A outer s H E).nox ((aY gf).drop 16) t/\∀(o1 o2 o3 o6 o8 o10 o11:Option V) (ox lfr:Addr) (v1 x:V) (fs:List V) (Fs:List (Int×Int)) (ta:Tr) (T:Hu.Tc) (H1:Hp),Ob c H1 ox ta->ta.size<=60->ta.nf<=8->dY K H1 v1 (cg ta)->Dat K H1 (tcD T) x->T.Sm 63->T.deep<=10->T.bQ<=512->H1 lfr=some (.lst fs)->bO (FrB K H1) fs Fs->
   t {nx:=λ_ H'=>Q .non H',rt:=Q} [some (.ref a),o1,o2,o3,some (.ref ox),some v1,o6,some x,o8,some (.ref lfr),o10,o11] H1:=by
  refine ⟨_,⟨(ah (fN PassesOwn.never rfl (ck (pv 9)) (aW (i:=8) nd rfl (Or.inl rfl)) (ah (aF (i:=10) nd rfl (Or.inl rfl) (aD Ac (hr.mono (by omega)) rfl (aa (pv 5) (aa (pv 7) (aa (pv 8) ag)))))
  (ah (aF (i := 11) nd rfl (Or.inl rfl) (aD D_holds (hr.mono (by omega)) rfl (aa (pv 4) (aa (pv 7) (aa (pv 8) ag)))))
  (ao (aM (PW.pt (qw (pt_not (vN (aR uR rfl dE (by decide +kernel) (aa (pv 11) (aa (pe_bltn (v := V.ty "bool") rfl wB (by decide +kernel) rfl) ag))))) (qw (aC BC (pv 11) (pv 10) (aI _)) (oN (aC BC (aD D_holds (hr.mono (by omega)) rfl (aa (pv 4) (aa (pv 7) (aa (pv 8) ag)))) (pv 10) (aI _)))))) (ao (av jF)) aH)))))
  (ao (av jF)))⟩,?_⟩
  intro o1 o2 o3 o6 o8 o10 o11 ox lfr v1 x fs Fs ta T H1 oa sz1 n8 r1 dx sm dp cu el al
  have sm':T.Sm 64:=sm.mono (by decide)
  refine ⟨_,rfl,lfr,rfl,⟨_,SqL.of el⟩,?_⟩
  refine gi (xs:=fs) (λi σ H'=>aJ H1 H'/\∃ o8 o10 o11,σ=[some (.ref a),o1,o2,o3,some (.ref ox),some v1,o6,some x,o8,some (.ref lfr),o10,o11]) ⟨aJ.refl _,_,_,_,rfl⟩ (λi σ H' _ z=>SqL.of (z.1 _ _ el)) (λi v σ H' hv z=>?_) (fun σ H' z=>?_)
  ·obtain ⟨s4,o8,o10,o11,rfl⟩:=z
   obtain ⟨fr,hf,fv,b1,b2⟩:=(al.imp (FrB.to s4)).get i v hv
   refine ⟨_,rfl,_,rfl,_,rfl,v1,x,v,ta,T,fr,rfl,dY.to s4 _ _ r1,sz1,dx.ts s4.ts,sm',by omega,by omega,fv,b1,b2,λH5 s5=>?_⟩
   have s45:=s4.trans s5
   refine ⟨_,rfl,_,rfl,_,rfl,ox,x,v,ta,T,fr,rfl,oa.to (Kp.of s45),sz1,n8,dx.ts s45.ts,sm',by omega,by omega,fv.to s5,b1,b2,λH6 s6=>?_⟩
   have s46:=s45.trans s6
   refine ⟨_,rfl,_,_,_,_,true,rfl,(λ_ h=>h),jz.bl _,Ct,_,rfl,bM ?_⟩
   refine ⟨_,rfl,_,rfl,rfl,_,rfl,iteNS rfl ?_⟩
   refine ⟨_,rfl,_,rfl,_,rfl,ox,x,v,ta,T,fr,rfl,oa.to (Kp.of s46),sz1,n8,dx.ts s46.ts,sm',by omega,by omega,fv.to (s5.trans s6),b1,b2,λH7 s7=>?_⟩
   refine ⟨_,rfl,rfl,_,rfl,iteNS rfl ?_⟩
   exact ⟨s46.trans s7,_,_,_,rfl⟩
  ·obtain ⟨s4,o8,o10,o11,rfl⟩:=z
   exact q _
 obtain ⟨t16,ht16,k16⟩:=t16
 have t13:∃ t,vm (cM CX0 P w K mg base jV "law" (ak gf) f cdv A outer s H E).nox ((aY gf).drop 13) t/\∀(o1 o3 o6 o8 o9 o10 o11:Option V) (fo:Int) (ox:Addr) (v1 x:V) (ta:Tr) (T:Hu.Tc) (H1:Hp),aJ H H1->Ob c H1 ox ta->ta.size<=60->ta.nf<=8->dY K H1 v1 (cg ta)->Dat K H1 (tcD T) x->T.Sm 63->T.deep<=10->T.bQ<=512->
   t {nx:=λ_ H'=>Q .non H',rt:=Q} [some (.ref a),o1,some (.int fo),o3,some (.ref ox),some v1,o6,some x,o8,o9,o10,o11] H1:=by
  refine ⟨_,⟨ah (aF (i:=8) nd rfl (Or.inl rfl) (aD vo (hr.mono (by omega)) rfl (aa (pv 5) ag))) (ah (aF (i:=9) nd rfl (Or.inl rfl) (bo (aa (aD wQ (hr.mono (by omega)) rfl (aa (pv 8) (aa (aD dI (hr.mono (by omega)) rfl (aa (pv 0) (aa af ag))) ag))) ag))) (fc (aM (aC gy (pv 2) af (aI _)) (ao (aF (i:=9) nd rfl (Or.inl rfl) (aA BD (pv 9) (bo (aa (aL (aa af (aa af ag))) (aa (pv 8) ag)))))) aH) ht16))⟩,?_⟩
  intro o1 o3 o6 o8 o9 o10 o11 fo ox v1 x ta T H1 s1 oa sz1 n8 r1 dx sm dp cu
  refine ⟨_,rfl,v1,ta,rfl,r1,sz1,n8,λv fr H2 s2 fv f0 b1 b2=>?_⟩
  have s12:=s1.trans s2
  refine ⟨_,rfl,_,rfl,a,ns,3,rfl,S.to s12,by decide,by decide,λcc H3 c0 s3=>?_⟩
  refine ⟨v,fr,cc,rfl,fv.to s3,f0,b1,b2,λv2 fr2 H4 s4 fv2 g1 g2=>?_⟩
  refine ⟨sz 1 (by decide),λlp hlp=>?_⟩
  have u5:=aq hlp (.lst [v2])
  have e5:upd H4 lp (.lst [v2]) lp=some (.lst [v2]):=ae
  have s25:=((s2.trans s3).trans s4).trans u5
  have fb2:FrB K (upd H4 lp (.lst [v2])) v2 fr2:=⟨fv2.to u5,g1,g2⟩
  have fb1:FrB K (upd H4 lp (.lst [v2])) v fr:=⟨fv.to ((s3.trans s4).trans u5),bL b1 (by decide),bL b2 (by decide)⟩
  generalize upd H4 lp (.lst [v2])=H5 at u5 e5 s25 fb2 fb1 ⊢
  refine ⟨_,rfl,_,_,rfl,rfl,_,rfl,bY (λ_=>?_) (λ_=>?_)⟩
  ·refine ⟨_,rfl,sz 2 (by decide),λp hp=>⟨_,rfl,sz 2 (by decide),λl2 hl2=>?_⟩⟩
   have u6:=aq hp (.tup [.int 0,.int 1])
   have u7:=aq hl2 (.lst [.ref p,v])
   have s57:=u6.trans u7
   refine ⟨lp,l2,[v2],[.ref p,v],rfl,rfl,s57 _ _ e5,ae,sz 3 (by decide),λl3 h3=>?_⟩
   have u8:=aq h3 (.lst ([v2]++[.ref p,v]))
   have s28:=(s25.trans s57).trans u8
   have s58:=s57.trans u8
   refine k16 _ _ _ _ _ _ _ ox l3 v1 x _ [fr2,(0,1),fr] ta T _ (oa.to (Kp.of s28)) sz1 n8 (dY.to s28 _ _ r1) (dx.ts s28.ts) sm dp cu ae ?_
   exact .cons (FrB.to s58 _ _ fb2) (.cons ⟨⟨p,rfl,(SqT.of ae).ts (u7.trans u8).ts⟩,bL (n:=1) (by decide) (by decide),bL (n:=1) (by decide) (by decide)⟩ (.cons (FrB.to s58 _ _ fb1) .nil))
  ·exact k16 _ _ _ _ _ _ _ ox lp v1 x _ [fr2] ta T H5 (oa.to (Kp.of s25)) sz1 n8 (dY.to s25 _ _ r1) (dx.ts s25.ts) sm dp cu e5 (.cons fb2 .nil)
 obtain ⟨t13,ht13,k13⟩:=t13
 have t11:∃ t,vm (cM CX0 P w K mg base jV "law" (ak gf) f cdv A outer s H E).nox ((aY gf).drop 11) t/\∀(cc fo:Int) (o3 o6 o8 o9 o10 o11:Option V) (ox:Addr) (v1 x:V) (ta:Tr) (T:Hu.Tc) (H1:Hp),aJ H H1->Ob c H1 ox ta->ta.size<=60->ta.nf<=8->dY K H1 v1 (cg ta)->Dat K H1 (tcD T) x->T.Sm 61->T.deep<=9->T.bQ<=511->
   t {nx:=λ_ H'=>Q .non H',rt:=Q} [some (.ref a),some (.int cc),some (.int fo),o3,some (.ref ox),some v1,o6,some x,o8,o9,o10,o11] H1:=by
  have t12:∃ t,vm (cM CX0 P w K mg base jV "law" (ak gf) f cdv A outer s H E).nox ((aY gf).drop 12) t/\∀(cc fo:Int) (o3 o6 o8 o9 o10 o11:Option V) (ox:Addr) (v1 x:V) (ta:Tr) (T:Hu.Tc) (H1:Hp),aJ H H1->Ob c H1 ox ta->ta.size<=60->ta.nf<=8->dY K H1 v1 (cg ta)->Dat K H1 (tcD T) x->T.Sm 63->T.deep<=10->T.bQ<=512->
    t {nx:=λ_ H'=>Q .non H',rt:=Q} [some (.ref a),some (.int cc),some (.int fo),o3,some (.ref ox),some v1,o6,some x,o8,o9,o10,o11] H1:=by
   refine ⟨_,⟨fc (aM (aC aZ (aA aX (aA bu (pv 1) af) af) af (aI _)) (ao (aF (i:=7) nd rfl (Or.inl rfl) (aL (aa aK ag)))) aH) ht13⟩,?_⟩
   intro cc fo o3 o6 o8 o9 o10 o11 ox v1 x ta T H1 s1 oa sz1 n8 r1 dx sm dp cu
   refine ⟨_,rfl,_,_,rfl,rfl,⟨by decide,by decide⟩,_,_,rfl,rfl,(show (0:Int) < 8 by decide),rfl,_,rfl,bY (λ_=>?_) (λ_=>?_)⟩
   ·refine ⟨sz 1 (by decide),λp hp=>?_⟩
    have u:=aq hp (.tup [.str "leaf"])
    exact k13 _ _ _ _ _ _ _ fo ox v1 _ ta .leaf _ (s1.trans u) (oa.to (Kp.of u)) sz1 n8 (dY.to u _ _ r1) (eY (SqT.of ae)) trivial (Nat.zero_le _) (Nat.zero_le _)
   ·exact k13 _ _ _ _ _ _ _ fo ox v1 x ta T H1 s1 oa sz1 n8 r1 dx sm dp cu
  obtain ⟨t12,ht12,k12⟩:=t12
  refine ⟨_,⟨fc (aM (aC tV (aA aX (aA bu (pv 1) af) af) af (aI _)) (ao (aF (i:=7) nd rfl (Or.inl rfl) (aD fU (hr.mono (by omega)) rfl (aa (pv 7) (aa (aD dI (hr.mono (by omega)) rfl (aa (pv 0) (aa af ag))) ag))))) aH) ht12⟩,?_⟩
  intro cc fo o3 o6 o8 o9 o10 o11 ox v1 x ta T H1 s1 oa sz1 n8 r1 dx sm dp cu
  refine ⟨_,rfl,_,_,rfl,rfl,⟨by decide,by decide⟩,_,_,rfl,rfl,(show (0:Int) < 3 by decide),_,_,rfl,rfl,_,rfl,bY (λ_=>?_) (λ_=>?_)⟩
  ·refine ⟨_,rfl,_,rfl,a,ns,2,rfl,S.to s1,by decide,by decide,λv H2 v0 s2=>?_⟩
   refine ⟨x,T,v,rfl,dx.ts s2.ts,sm,by omega,λy T' H3 s3 dy sm' dp' cu'=>?_⟩
   have s23:=s2.trans s3
   exact k12 cc fo _ _ _ _ _ _ ox v1 y ta T' H3 (s1.trans s23) (oa.to (Kp.of s23)) sz1 n8 (dY.to s23 _ _ r1) dy sm' (by omega) (by omega)
  ·exact k12 cc fo _ _ _ _ _ _ ox v1 x ta T H1 s1 oa sz1 n8 r1 dx (sm.mono (by decide)) (by omega) (by omega)
 obtain ⟨t11,ht11,k11⟩:=t11
 have t6:∃ t,vm (cM CX0 P w K mg base jV "law" (ak gf) f cdv A outer s H E).nox ((aY gf).drop 6) t/\∀(cc fo:Int) (o4 o5 o6 o7 o8 o9 o10 o11:Option V) (b:Addr) (ta:Tr) (H1:Hp),aJ H H1->Tu H1 b ta->ta.size<=50->ta.nf<=8->
   t {nx:=λ_ H'=>Q .non H',rt:=Q} [some (.ref a),some (.int cc),some (.int fo),some (.ref b),o4,o5,o6,o7,o8,o9,o10,o11] H1:=by
  refine ⟨_,⟨ah (aF (i:=4) nd rfl (Or.inl rfl) (aD dG (hr.mono (by omega)) rfl (aa (pv 3) ag))) (ah (aF (i:=5) nd rfl (Or.inl rfl) (aD pW (hr.mono (by omega)) rfl (aa (pv 3) ag))) (ah (aF (i:=6) nd rfl (Or.inl rfl) (aA aX (aA bu (pv 1) af) af)) (ah (aF (i:=7) nd rfl (Or.inl rfl) (aL (aa aK ag))) (fc (aM (PW.pt (Bm (aC gy (pv 6) af (aI _)) (xK (aC aZ (aA aX (aA bu (pv 1) af) af) af (aI _))))) (ao (aF (i:=7) nd rfl (Or.inl rfl) (aD Ad (hr.mono (by omega)) rfl (aa (pv 4) ag)))) (ao (aM (aC gy (pv 6) af (aI _)) (ao (aF (i:=7) nd rfl (Or.inl rfl) (aD bW (hr.mono (by omega)) rfl (aa (bo (aa (pv 5) ag)) (aa (gx bS (hr.mono (by omega)) rfl) ag))))) (ao (aM (aC gy (pv 6) af (aI _)) (ao (aF (i:=7) nd rfl (Or.inl rfl) (aD iH (hr.mono (by omega)) rfl (aa (bo (aa (pv 5) ag)) (aa (aD dI (hr.mono (by omega)) rfl (aa (pv 0) (aa af ag))) ag))))) aH))))) ht11))))⟩,?_⟩
  intro cc fo o4 o5 o6 o7 o8 o9 o10 o11 b ta H1 s1 tu sa n8
  refine ⟨_,rfl,b,ta,rfl,tu,by omega,λox H2 s2 oa=>?_⟩
  refine ⟨_,rfl,b,ta,rfl,tu.to (Kp.of s2),by omega,λl1 us1 H3 s3 e1 al1=>?_⟩
  refine ⟨_,rfl,_,_,rfl,rfl,⟨by decide,by decide⟩,_,_,rfl,rfl,(show (0:Int) < 5 by decide),?_⟩
  refine ⟨sz 1 (by decide),λp hp=>?_⟩
  have u4:=aq hp (.tup [.str "leaf"])
  have r1:dY K (upd H3 p (.tup [.str "leaf"])) (.ref l1) (cg ta):=dY.to u4 _ _ (rows_ls e1 al1)
  have dl:Dat K (upd H3 p (.tup [.str "leaf"])) (tcD .leaf) (.ref p):=eY (SqT.of ae)
  have oa4:=oa.to (Kp.of (s3.trans u4))
  have s14:=((s1.trans s2).trans s3).trans u4
  generalize upd H3 p (.tup [.str "leaf"])=H4 at u4 r1 dl oa4 s14 ⊢
  have fd:=(iC ta).fd
  have ln:=(iC ta).len
  have lok:LsOk [cg ta]:=λrows hr=>by rw [List.mem_singleton.mp hr];exact ⟨(iC ta).ok,(iC ta).pos,by omega⟩
  have e8:2 ^ 8=256:=rfl
  have fin:∀(o6:Option V) (x:V) (T:Hu.Tc) (H5:Hp),aJ H4 H5->Dat K H5 (tcD T) x->T.Sm 61->T.deep<=9->T.bQ<=511->t11 {nx:=λ_ H'=>Q .non H',rt:=Q} [some (.ref a),some (.int cc),some (.int fo),some (.ref b),some (.ref ox),some (.ref l1),o6,some x,o8,o9,o10,o11] H5:=λo6 x T H5 s5 dx sm dp cu =>
   k11 cc fo _ o6 o8 o9 o10 o11 ox _ x ta T H5 (s14.trans s5) (oa4.to (Kp.of s5)) (by omega) n8 (dY.to s5 _ _ r1) dx sm dp cu
  refine ⟨_,rfl,_,_,rfl,rfl,_,rfl,bY (λ_=>⟨_,rfl,_,_,rfl,rfl,⟨by decide,by decide⟩,_,_,rfl,rfl,(show (0:Int) < 3 by decide),rfl,_,rfl,bY (λ_=>?_) (λ_=>?_)⟩) (λ_=>?_)⟩
  ·refine ⟨_,rfl,ox,ta,rfl,oa4,by omega,n8,λy T H5 s5 dy sm dp cu=>?_⟩
   exact fin _ y T H5 s5 dy sm (by omega) (by omega)
  all_goals
   refine ⟨_,rfl,_,_,rfl,rfl,_,rfl,bY (λ_=>?_) (λ_=>?_)⟩
   ·refine ⟨_,rfl,sz 1 (by decide),λll hll=>?_⟩
    have u5:=aq hll (.lst [.ref l1])
    have ell:upd H4 ll (.lst [.ref l1]) ll=some (.lst [.ref l1]):=ae
    generalize upd H4 ll (.lst [.ref l1])=H5 at u5 ell ⊢
    refine ⟨rfl,λl us H6 s6 el da=>?_⟩
    have s46:=u5.trans s6
    refine ⟨ll,l,[.ref l1],us,[cg ta],Hu.sqH,8,rfl,s6 _ _ ell,.cons (dY.to s46 _ _ r1) .nil,lok,el,da,qZ (by simp;omega),by decide,λy T H7 s7 dy sm dp cu _=>?_⟩
    exact fin _ y T H7 (s46.trans s7) dy sm (by omega) (by omega)
   refine ⟨_,rfl,_,_,rfl,rfl,_,rfl,bY (λ_=>?_) (λ_=>?_)⟩
   ·refine ⟨_,rfl,sz 1 (by decide),λll hll=>?_⟩
    have u5:=aq hll (.lst [.ref l1])
    have ell:upd H4 ll (.lst [.ref l1]) ll=some (.lst [.ref l1]):=ae
    generalize upd H4 ll (.lst [.ref l1])=H5 at u5 ell ⊢
    refine ⟨_,rfl,a,ns,1,rfl,S.to (s14.trans u5),by decide,by decide,λv H6 v0 s6=>?_⟩
    have s46:=u5.trans s6
    refine ⟨ll,[.ref l1],[cg ta],v,rfl,s6 _ _ ell,.cons (dY.to s46 _ _ r1) .nil,lok,by simp;omega,λy T H7 s7 dy sm dp cu=>?_⟩
    exact fin _ y T H7 (s46.trans s7) dy sm dp cu
   ·exact fin _ _ .leaf H4 (aJ.refl _) dl trivial (Nat.zero_le _) (Nat.zero_le _)
 obtain ⟨t6,ht6,k6⟩:=t6
 have t3:∃ t,vm (cM CX0 P w K mg base jV "law" (ak gf) f cdv A outer s H E).nox ((aY gf).drop 3) t/\∀(cc fo:Int) (o3 o4 o5 o6 o7 o8 o9 o10 o11:Option V) (H1:Hp),aJ H H1->0<=fo->fo<=8->
   t {nx:=λ_ H'=>Q .non H',rt:=Q} [some (.ref a),some (.int cc),some (.int fo),o3,o4,o5,o6,o7,o8,o9,o10,o11] H1:=by
  refine ⟨_,⟨ah (aM (aC aZ (aA aX (aA bu (pv 1) af) af) af (aI _)) (ao (av (aD pX (hr.mono (by omega)) rfl (aa (aD dG (hr.mono (by omega)) rfl (aa (aw az (aD eU (hr.mono (by omega)) rfl (aa (pv 0) (aa af (aa (aA bR af (aA aX (pv 1) af)) ag)))) af (λ_ _=>rfl)) ag)) (aa (aL (aa aK ag)) ag))))) aH) (ah (aF (i:=3) nd rfl (Or.inl rfl) (aw az (aD eU (hr.mono (by omega)) rfl (aa (pv 0) (aa af (aa (pv 2) ag)))) af (λ_ _=>rfl))) (fc (aM (PW.pt (Bm (aC gy (pv 2) af (aI _)) (xK (aC aZ (aA aX (aA bu (pv 1) af) af) af (aI _))))) (ao (aF (i:=3) nd rfl (Or.inl rfl) (aL (aa aK (aa (aL (aa aK ag)) (aa (pv 3) ag)))))) aH) ht6))⟩,?_⟩
  intro cc fo o3 o4 o5 o6 o7 o8 o9 o10 o11 H1 s1 f0 f8
  have m0:=Int.emod_nonneg cc (show (2:Int)≠0 by decide)
  have m1:=Int.emod_lt_of_pos cc (show (0:Int) < 2 by decide)
  refine ⟨_,rfl,_,_,rfl,rfl,⟨by decide,by decide⟩,_,_,rfl,rfl,(show (0:Int) < 8 by decide),rfl,_,rfl,bY (λ_=>?_) (λ_=>?_)⟩
  ·refine ⟨_,rfl,_,rfl,_,_,rfl,rfl,(show (0:Int) < 2 by decide),_,_,rfl,rfl,a,ns,4,9+cc % 2,rfl,S.to s1,by decide,by omega,by omega,by omega,λp b x H2 s2 ep tu nf si=>⟨_,_,_,_,rfl,rfl,SqT.of ep,rfl,?_⟩⟩
   refine ⟨b,x,rfl,tu,by omega,λx1 H3 s3 ox1=>?_⟩
   refine ⟨sz 1 (by decide),λpl hpl=>?_⟩
   have u:=aq hpl (.tup [.str "leaf"])
   exact ⟨x1,_,x,rfl,ox1.to (Kp.of u),by omega,by omega,λH5=>q H5⟩
  refine ⟨_,rfl,_,rfl,a,ns,4,fo,rfl,S.to s1,by decide,f0,by omega,by omega,λp b x H2 s2 ep tu nf si=>⟨_,_,_,_,rfl,rfl,SqT.of ep,rfl,?_⟩⟩
  have s12:=s1.trans s2
  refine ⟨_,rfl,_,_,rfl,rfl,_,rfl,bY (λlt=>⟨_,rfl,_,_,rfl,rfl,⟨by decide,by decide⟩,_,_,rfl,rfl,(show (0:Int) < 8 by decide),rfl,_,rfl,bY (λ_=>?_) (λ_=>?_)⟩) (λ_=>?_)⟩
  ·have lt:fo < 8:=of_decide_eq_true lt
   refine ⟨sz 1 (by decide),λp1 h1=>⟨_,rfl,sz 3 (by decide),λp2 h2=>?_⟩⟩
   have u1:=aq h1 (.tup [.str "never"])
   have u2:=aq h2 (.tup [.str "less",.ref p1,.ref b])
   have fs:(Tr.fold .less .never x).size=Tr.never.size+x.size+1:=rfl
   have fs0:Tr.never.size=1:=rfl
   have fn:=rO .less .never x
   have fn0:Tr.never.nf=0:=rfl
   exact k6 cc fo _ _ _ _ _ _ _ _ p2 (.fold .less .never x) _ ((s12.trans u1).trans u2) (.fold ae ((Tu.never ae).to (Kp.of u2)) (tu.to (Kp.of (u1.trans u2)))) (by omega) (by omega)
  all_goals exact k6 cc fo _ _ _ _ _ _ _ _ b x H2 s12 tu (by omega) (by omega)
 obtain ⟨t3,ht3,k3⟩:=t3
 refine ⟨_,ah (aF (i:=1) nd rfl (Or.inl rfl) (aD dI (hr.mono (by omega)) rfl (aa (pv 0) (aa af ag)))) (ah (aF (i:=2) nd rfl (Or.inl rfl) (aA aX (pv 1) af)) (fc (aM (aC aZ (aA aX (aA bu (pv 1) af) af) af (aI _)) (ao (aF (i:=2) nd rfl (Or.inl rfl) af)) aH) ht3)),?_⟩
 refine ⟨_,rfl,a,ns,0,rfl,S,by decide,by decide,λcc H1 c0 s1=>?_⟩
 have m0:=Int.emod_nonneg cc (show (6:Int)≠0 by decide)
 have m1:=Int.emod_lt_of_pos cc (show (0:Int) < 6 by decide)
 refine ⟨_,rfl,_,_,rfl,rfl,(show (0:Int) < 6 by decide),?_⟩
 refine ⟨_,rfl,_,_,rfl,rfl,⟨by decide,by decide⟩,_,_,rfl,rfl,(show (0:Int) < 8 by decide),rfl,_,rfl,bY (λ_=>?_) (λ_=>?_)⟩
 ·exact k3 cc 8 _ _ _ _ _ _ _ _ _ H1 s1 (by decide) (by decide)
 ·exact k3 cc _ _ _ _ _ _ _ _ _ _ H1 s1 m0 (by omega)
end
end Mine
namespace L2
open PySem PySem.Spec PyProof.Rows
structure fh (K:PySem.W.Frag) (x qual:Str) (st:Stmt) (f:Addr):Prop where
 ex:∃ fd:FuncData,Fun K x qual st f fd
 fn:PySem.W.isFn K (.ref f)=true
theorem bG {K:PySem.W.Frag} {x qual:Str} {st:Stmt} {f:Addr} {oc kV doc pm cdv ct:Value} {od an:Option Addr} {osl:Array (Option Value)} (l:K.lookup f=some ⟨oc,od,.func (PySem.W.fnOf x qual (eP st) (aY st) (ak st) .none kV doc pm an cdv ct),osl⟩)
  (c:PySem.W.codeIn K cdv qual=true) (k:PySem.W.keepIn K (.ref f)=true) (fn:PySem.W.isFn K (.ref f)=true):fh K x qual st f:=⟨⟨_,CK l c k⟩,fn⟩
theorem fh.meth {K:PySem.W.Frag} {x qual:Str} {st:Stmt} {f C:Addr} (e:fh K x qual st f) (cl:Cls K C) (g:PySem.W.findIn K (.ref C) x=some (some (.ref f))):bz K C x qual st:=by
 obtain ⟨fd,F⟩:=e.ex
 exact ⟨cl,f,fd,⟨g,e.fn,F.kp⟩,F⟩
theorem fh.made {K:PySem.W.Frag} {mg:Str->Option Value} {x qual:Str} {st:Stmt} {f C:Addr} (e:fh K "__init__" qual st f) (cl:Cls K C) (g:PySem.W.findIn K (.ref C) "__init__"=some (some (.ref f))) (m:mg x=some (.ref C)) (y:PySem.W.makesIn K C=true) (z:PySem.W.keepIn K (.ref C)=true):MkF K mg x C qual st:=by
 obtain ⟨fd,F⟩:=e.ex
 exact ⟨cl,m,f,fd,⟨y,g,e.fn,z⟩,F⟩
end L2
open PySem PySem.W PyProof.Rows
structure Mine.AllF (K:Frag) (mg:Str->Option Value) (c:Mine.CCs):Prop where
 fx:Mine.Fx K c
 madeS_ne:L2.bz K c.ne "made_of" "Saying.made_of" Mine.bX
 madeS_al:L2.bz K c.al "made_of" "Saying.made_of" Mine.bX
 madeS_le:L2.bz K c.le "made_of" "Saying.made_of" Mine.bX
 piecesS_ne:L2.bz K c.ne "pieces" "Saying.pieces" Mine.cB
 piecesS_al:L2.bz K c.al "pieces" "Saying.pieces" Mine.cB
 piecesS_le:L2.bz K c.le "pieces" "Saying.pieces" Mine.cB
 laid:∀ t,L2.bz K (c.of t) "laid_out" "Saying.laid_out" Mine.eE
 told:∀ t,L2.bz K (c.of t) "told" "Saying.told" Mine.jD
 parts:∀ t,L2.bz K (c.of t) "parts" "Saying.parts" Mine.iZ
 foldsS:∀ t,L2.bz K (c.of t) "folds" "Saying.folds" Mine.cK
 Kne_ne:L2.bz K c.ne "making_word" "Never.making_word" Mine.cI
 Kal_al:L2.bz K c.al "making_word" "Always.making_word" Mine.cF
 Kle_le:L2.bz K c.le "making_word" "Letter.making_word" Mine.bB
 Kno_no:L2.bz K c.no "making_word" "Not.making_word" Mine.cV
 Mno_no:L2.bz K c.no "made_of" "Not.made_of" Mine.fj
 Pno_no:L2.bz K c.no "pieces" "Not.pieces" Mine.fQ
 Mfo:∀ u,L2.bz K (c.fold u) "made_of" "Fold.made_of" Mine.eF
 Pfo:∀ u,L2.bz K (c.fold u) "pieces" "Fold.pieces" Mine.fq
 F0mo_mo:L2.bz K c.mo "making_word" "More.making_word" Mine.cN
 F0ls_ls:L2.bz K c.ls "making_word" "Less.making_word" Mine.cO
 F0gr_gr:L2.bz K c.gr "making_word" "Greater.making_word" Mine.cj
 F0lr_lr:L2.bz K c.lr "making_word" "Lesser.making_word" Mine.cE
 F0ld_ld:L2.bz K c.ld "making_word" "Leads.making_word" Mine.cJ
 ile:L2.MkF K mg "Letter" c.le "Letter.__init__" Mine.fm
 ino:L2.MkF K mg "Not" c.no "Not.__init__" Mine.ip
 ifo:∀ u,L2.MkF K mg (Mine.W5.cls u) (c.fold u) "Fold.__init__" Mine.gw
 o_ne:L2.Mk0 K c.ne
 r_ne:mg "Never"=some (.ref c.ne)
 o_al:L2.Mk0 K c.al
 r_al:mg "Always"=some (.ref c.al)
theorem Mine.all_mk {K:Frag} {h:Heap} {mg:Str->Option Value} {ne al le no mo ls gr lr ld f_madeS f_piecesS f_laid f_told f_parts f_foldsS f_Kne f_Kal f_Kle f_Kno f_Mno f_Pno f_Mfo f_Pfo f_F0mo f_F0ls f_F0gr f_F0lr f_F0ld f_ile f_ino f_ifo:Addr} (X:K.In h) (G:h.Ns mainGlobals mg)
  (n_ne:nsIn K mainGlobals "Never"=some (some (.ref ne)))
  (n_al:nsIn K mainGlobals "Always"=some (some (.ref al)))
  (n_le:nsIn K mainGlobals "Letter"=some (some (.ref le)))
  (n_no:nsIn K mainGlobals "Not"=some (some (.ref no)))
  (n_mo:nsIn K mainGlobals "More"=some (some (.ref mo)))
  (n_ls:nsIn K mainGlobals "Less"=some (some (.ref ls)))
  (n_gr:nsIn K mainGlobals "Greater"=some (some (.ref gr)))
  (n_lr:nsIn K mainGlobals "Lesser"=some (some (.ref lr)))
  (n_ld:nsIn K mainGlobals "Leads"=some (some (.ref ld)))
  (c_ne:L2.Cls K ne)
  (c_al:L2.Cls K al)
  (c_le:L2.Cls K le)
  (c_no:L2.Cls K no)
  (c_mo:L2.Cls K mo)
  (c_ls:L2.Cls K ls)
  (c_gr:L2.Cls K gr)
  (c_lr:L2.Cls K lr)
  (c_ld:L2.Cls K ld)
  (h_ne:findIn K (.ref ne) "__class__"=some (some (.builtin "object.__class__")))
  (h_al:findIn K (.ref al) "__class__"=some (some (.builtin "object.__class__")))
  (h_le:findIn K (.ref le) "__class__"=some (some (.builtin "object.__class__")))
  (h_no:findIn K (.ref no) "__class__"=some (some (.builtin "object.__class__")))
  (h_mo:findIn K (.ref mo) "__class__"=some (some (.builtin "object.__class__")))
  (h_ls:findIn K (.ref ls) "__class__"=some (some (.builtin "object.__class__")))
  (h_gr:findIn K (.ref gr) "__class__"=some (some (.builtin "object.__class__")))
  (h_lr:findIn K (.ref lr) "__class__"=some (some (.builtin "object.__class__")))
  (h_ld:findIn K (.ref ld) "__class__"=some (some (.builtin "object.__class__")))
  (m_ne:mroIn K ne (.type "object")=some true)
  (m_al:mroIn K al (.type "object")=some true)
  (m_le:mroIn K le (.type "object")=some true)
  (m_no:mroIn K no (.type "object")=some true)
  (m_mo:mroIn K mo (.type "object")=some true)
  (m_ls:mroIn K ls (.type "object")=some true)
  (m_gr:mroIn K gr (.type "object")=some true)
  (m_lr:mroIn K lr (.type "object")=some true)
  (m_ld:mroIn K ld (.type "object")=some true)
  (s_ne:kitOne K (.ref ne) (.type "str")=some false)
  (s_al:kitOne K (.ref al) (.type "str")=some false)
  (s_le:kitOne K (.ref le) (.type "str")=some false)
  (s_no:kitOne K (.ref no) (.type "str")=some false)
  (s_mo:kitOne K (.ref mo) (.type "str")=some false)
  (s_ls:kitOne K (.ref ls) (.type "str")=some false)
  (s_gr:kitOne K (.ref gr) (.type "str")=some false)
  (s_lr:kitOne K (.ref lr) (.type "str")=some false)
  (s_ld:kitOne K (.ref ld) (.type "str")=some false)
  (hn:specialIn K (.builtin "object.__class__") "__get__"=some (some (.builtin "getset_descriptor.__get__")))
  (tk:takesIn K (.builtin "object.__class__")=some true)
  (a_name:findIn K (.ref le) "name"=some none)
  (a_part:findIn K (.ref no) "part"=some none)
  (a_one_mo:findIn K (.ref mo) "one"=some none)
  (a_one_ls:findIn K (.ref ls) "one"=some none)
  (a_one_gr:findIn K (.ref gr) "one"=some none)
  (a_one_lr:findIn K (.ref lr) "one"=some none)
  (a_one_ld:findIn K (.ref ld) "one"=some none)
  (a_other_mo:findIn K (.ref mo) "other"=some none)
  (a_other_ls:findIn K (.ref ls) "other"=some none)
  (a_other_gr:findIn K (.ref gr) "other"=some none)
  (a_other_lr:findIn K (.ref lr) "other"=some none)
  (a_other_ld:findIn K (.ref ld) "other"=some none)
  (g_madeS_ne:findIn K (.ref ne) "made_of"=some (some (.ref f_madeS)))
  (g_madeS_al:findIn K (.ref al) "made_of"=some (some (.ref f_madeS)))
  (g_madeS_le:findIn K (.ref le) "made_of"=some (some (.ref f_madeS)))
  (e_madeS:L2.fh K "made_of" "Saying.made_of" Mine.bX f_madeS)
  (g_piecesS_ne:findIn K (.ref ne) "pieces"=some (some (.ref f_piecesS)))
  (g_piecesS_al:findIn K (.ref al) "pieces"=some (some (.ref f_piecesS)))
  (g_piecesS_le:findIn K (.ref le) "pieces"=some (some (.ref f_piecesS)))
  (e_piecesS:L2.fh K "pieces" "Saying.pieces" Mine.cB f_piecesS)
  (g_laid_ne:findIn K (.ref ne) "laid_out"=some (some (.ref f_laid)))
  (g_laid_al:findIn K (.ref al) "laid_out"=some (some (.ref f_laid)))
  (g_laid_le:findIn K (.ref le) "laid_out"=some (some (.ref f_laid)))
  (g_laid_no:findIn K (.ref no) "laid_out"=some (some (.ref f_laid)))
  (g_laid_mo:findIn K (.ref mo) "laid_out"=some (some (.ref f_laid)))
  (g_laid_ls:findIn K (.ref ls) "laid_out"=some (some (.ref f_laid)))
  (g_laid_gr:findIn K (.ref gr) "laid_out"=some (some (.ref f_laid)))
  (g_laid_lr:findIn K (.ref lr) "laid_out"=some (some (.ref f_laid)))
  (g_laid_ld:findIn K (.ref ld) "laid_out"=some (some (.ref f_laid)))
  (e_laid:L2.fh K "laid_out" "Saying.laid_out" Mine.eE f_laid)
  (g_told_ne:findIn K (.ref ne) "told"=some (some (.ref f_told)))
  (g_told_al:findIn K (.ref al) "told"=some (some (.ref f_told)))
  (g_told_le:findIn K (.ref le) "told"=some (some (.ref f_told)))
  (g_told_no:findIn K (.ref no) "told"=some (some (.ref f_told)))
  (g_told_mo:findIn K (.ref mo) "told"=some (some (.ref f_told)))
  (g_told_ls:findIn K (.ref ls) "told"=some (some (.ref f_told)))
  (g_told_gr:findIn K (.ref gr) "told"=some (some (.ref f_told)))
  (g_told_lr:findIn K (.ref lr) "told"=some (some (.ref f_told)))
  (g_told_ld:findIn K (.ref ld) "told"=some (some (.ref f_told)))
  (e_told:L2.fh K "told" "Saying.told" Mine.jD f_told)
  (g_parts_ne:findIn K (.ref ne) "parts"=some (some (.ref f_parts)))
  (g_parts_al:findIn K (.ref al) "parts"=some (some (.ref f_parts)))
  (g_parts_le:findIn K (.ref le) "parts"=some (some (.ref f_parts)))
  (g_parts_no:findIn K (.ref no) "parts"=some (some (.ref f_parts)))
  (g_parts_mo:findIn K (.ref mo) "parts"=some (some (.ref f_parts)))
  (g_parts_ls:findIn K (.ref ls) "parts"=some (some (.ref f_parts)))
  (g_parts_gr:findIn K (.ref gr) "parts"=some (some (.ref f_parts)))
  (g_parts_lr:findIn K (.ref lr) "parts"=some (some (.ref f_parts)))
  (g_parts_ld:findIn K (.ref ld) "parts"=some (some (.ref f_parts)))
  (e_parts:L2.fh K "parts" "Saying.parts" Mine.iZ f_parts)
  (g_foldsS_ne:findIn K (.ref ne) "folds"=some (some (.ref f_foldsS)))
  (g_foldsS_al:findIn K (.ref al) "folds"=some (some (.ref f_foldsS)))
  (g_foldsS_le:findIn K (.ref le) "folds"=some (some (.ref f_foldsS)))
  (g_foldsS_no:findIn K (.ref no) "folds"=some (some (.ref f_foldsS)))
  (g_foldsS_mo:findIn K (.ref mo) "folds"=some (some (.ref f_foldsS)))
  (g_foldsS_ls:findIn K (.ref ls) "folds"=some (some (.ref f_foldsS)))
  (g_foldsS_gr:findIn K (.ref gr) "folds"=some (some (.ref f_foldsS)))
  (g_foldsS_lr:findIn K (.ref lr) "folds"=some (some (.ref f_foldsS)))
  (g_foldsS_ld:findIn K (.ref ld) "folds"=some (some (.ref f_foldsS)))
  (e_foldsS:L2.fh K "folds" "Saying.folds" Mine.cK f_foldsS)
  (g_Kne_ne:findIn K (.ref ne) "making_word"=some (some (.ref f_Kne)))
  (e_Kne:L2.fh K "making_word" "Never.making_word" Mine.cI f_Kne)
  (g_Kal_al:findIn K (.ref al) "making_word"=some (some (.ref f_Kal)))
  (e_Kal:L2.fh K "making_word" "Always.making_word" Mine.cF f_Kal)
  (g_Kle_le:findIn K (.ref le) "making_word"=some (some (.ref f_Kle)))
  (e_Kle:L2.fh K "making_word" "Letter.making_word" Mine.bB f_Kle)
  (g_Kno_no:findIn K (.ref no) "making_word"=some (some (.ref f_Kno)))
  (e_Kno:L2.fh K "making_word" "Not.making_word" Mine.cV f_Kno)
  (g_Mno_no:findIn K (.ref no) "made_of"=some (some (.ref f_Mno)))
  (e_Mno:L2.fh K "made_of" "Not.made_of" Mine.fj f_Mno)
  (g_Pno_no:findIn K (.ref no) "pieces"=some (some (.ref f_Pno)))
  (e_Pno:L2.fh K "pieces" "Not.pieces" Mine.fQ f_Pno)
  (g_Mfo_mo:findIn K (.ref mo) "made_of"=some (some (.ref f_Mfo)))
  (g_Mfo_ls:findIn K (.ref ls) "made_of"=some (some (.ref f_Mfo)))
  (g_Mfo_gr:findIn K (.ref gr) "made_of"=some (some (.ref f_Mfo)))
  (g_Mfo_lr:findIn K (.ref lr) "made_of"=some (some (.ref f_Mfo)))
  (g_Mfo_ld:findIn K (.ref ld) "made_of"=some (some (.ref f_Mfo)))
  (e_Mfo:L2.fh K "made_of" "Fold.made_of" Mine.eF f_Mfo)
  (g_Pfo_mo:findIn K (.ref mo) "pieces"=some (some (.ref f_Pfo)))
  (g_Pfo_ls:findIn K (.ref ls) "pieces"=some (some (.ref f_Pfo)))
  (g_Pfo_gr:findIn K (.ref gr) "pieces"=some (some (.ref f_Pfo)))
  (g_Pfo_lr:findIn K (.ref lr) "pieces"=some (some (.ref f_Pfo)))
  (g_Pfo_ld:findIn K (.ref ld) "pieces"=some (some (.ref f_Pfo)))
  (e_Pfo:L2.fh K "pieces" "Fold.pieces" Mine.fq f_Pfo)
  (g_F0mo_mo:findIn K (.ref mo) "making_word"=some (some (.ref f_F0mo)))
  (e_F0mo:L2.fh K "making_word" "More.making_word" Mine.cN f_F0mo)
  (g_F0ls_ls:findIn K (.ref ls) "making_word"=some (some (.ref f_F0ls)))
  (e_F0ls:L2.fh K "making_word" "Less.making_word" Mine.cO f_F0ls)
  (g_F0gr_gr:findIn K (.ref gr) "making_word"=some (some (.ref f_F0gr)))
  (e_F0gr:L2.fh K "making_word" "Greater.making_word" Mine.cj f_F0gr)
  (g_F0lr_lr:findIn K (.ref lr) "making_word"=some (some (.ref f_F0lr)))
  (e_F0lr:L2.fh K "making_word" "Lesser.making_word" Mine.cE f_F0lr)
  (g_F0ld_ld:findIn K (.ref ld) "making_word"=some (some (.ref f_F0ld)))
  (e_F0ld:L2.fh K "making_word" "Leads.making_word" Mine.cJ f_F0ld)
  (g_ile_le:findIn K (.ref le) "__init__"=some (some (.ref f_ile)))
  (e_ile:L2.fh K "__init__" "Letter.__init__" Mine.fm f_ile)
  (g_ino_no:findIn K (.ref no) "__init__"=some (some (.ref f_ino)))
  (e_ino:L2.fh K "__init__" "Not.__init__" Mine.ip f_ino)
  (g_ifo_mo:findIn K (.ref mo) "__init__"=some (some (.ref f_ifo)))
  (g_ifo_ls:findIn K (.ref ls) "__init__"=some (some (.ref f_ifo)))
  (g_ifo_gr:findIn K (.ref gr) "__init__"=some (some (.ref f_ifo)))
  (g_ifo_lr:findIn K (.ref lr) "__init__"=some (some (.ref f_ifo)))
  (g_ifo_ld:findIn K (.ref ld) "__init__"=some (some (.ref f_ifo)))
  (e_ifo:L2.fh K "__init__" "Fold.__init__" Mine.gw f_ifo)
  (i_ne:findIn K (.ref ne) "__init__"=some (some (.builtin "object.__init__")))
  (i_al:findIn K (.ref al) "__init__"=some (some (.builtin "object.__init__")))
  (y_ne:makesIn K ne=true)
  (y_al:makesIn K al=true)
  (y_le:makesIn K le=true)
  (y_no:makesIn K no=true)
  (y_mo:makesIn K mo=true)
  (y_ls:makesIn K ls=true)
  (y_gr:makesIn K gr=true)
  (y_lr:makesIn K lr=true)
  (y_ld:makesIn K ld=true)
  (z_ne:keepIn K (.ref ne)=true)
  (z_al:keepIn K (.ref al)=true)
  (z_le:keepIn K (.ref le)=true)
  (z_no:keepIn K (.ref no)=true)
  (z_mo:keepIn K (.ref mo)=true)
  (z_ls:keepIn K (.ref ls)=true)
  (z_gr:keepIn K (.ref gr)=true)
  (z_lr:keepIn K (.ref lr)=true)
  (z_ld:keepIn K (.ref ld)=true) :
  ∃ c,Mine.AllF K mg c:=by
 refine ⟨⟨ne,al,le,no,mo,ls,gr,lr,ld⟩,?_⟩
 refine ⟨?_,
  ?_,
  ?_,
  ?_,
  ?_,
  ?_,
  ?_,
  ?_,
  ?_,
  ?_,
  ?_,
  ?_,
  ?_,
  ?_,
  ?_,
  ?_,
  ?_,
  ?_,
  ?_,
  ?_,
  ?_,
  ?_,
  ?_,
  ?_,
  ?_,
  ?_,
  ?_,
  ?_,
  ?_,
  ?_,
  ?_⟩
 ·exact ⟨by intro t;cases t <;> first | exact c_ne | exact c_al | exact c_le | exact c_no | (rename_i u _ _;cases u <;> assumption),by intro t;cases t <;> first | exact h_ne | exact h_al | exact h_le | exact h_no | (rename_i u _ _;cases u <;> assumption),by intro t;cases t <;> first | exact m_ne | exact m_al | exact m_le | exact m_no | (rename_i u _ _;cases u <;> assumption),by intro t;cases t <;> first | exact s_ne | exact s_al | exact s_le | exact s_no | (rename_i u _ _;cases u <;> assumption),hn,tk,a_name,a_part,by intro u;cases u <;> assumption,by intro u;cases u <;> assumption⟩
 ·exact e_madeS.meth c_ne g_madeS_ne
 ·exact e_madeS.meth c_al g_madeS_al
 ·exact e_madeS.meth c_le g_madeS_le
 ·exact e_piecesS.meth c_ne g_piecesS_ne
 ·exact e_piecesS.meth c_al g_piecesS_al
 ·exact e_piecesS.meth c_le g_piecesS_le
 ·intro t;cases t <;> first | exact e_laid.meth c_ne g_laid_ne | exact e_laid.meth c_al g_laid_al | exact e_laid.meth c_le g_laid_le | exact e_laid.meth c_no g_laid_no | (rename_i u _ _;cases u <;> first | exact e_laid.meth c_mo g_laid_mo | exact e_laid.meth c_ls g_laid_ls | exact e_laid.meth c_gr g_laid_gr | exact e_laid.meth c_lr g_laid_lr | exact e_laid.meth c_ld g_laid_ld)
 ·intro t;cases t <;> first | exact e_told.meth c_ne g_told_ne | exact e_told.meth c_al g_told_al | exact e_told.meth c_le g_told_le | exact e_told.meth c_no g_told_no | (rename_i u _ _;cases u <;> first | exact e_told.meth c_mo g_told_mo | exact e_told.meth c_ls g_told_ls | exact e_told.meth c_gr g_told_gr | exact e_told.meth c_lr g_told_lr | exact e_told.meth c_ld g_told_ld)
 ·intro t;cases t <;> first | exact e_parts.meth c_ne g_parts_ne | exact e_parts.meth c_al g_parts_al | exact e_parts.meth c_le g_parts_le | exact e_parts.meth c_no g_parts_no | (rename_i u _ _;cases u <;> first | exact e_parts.meth c_mo g_parts_mo | exact e_parts.meth c_ls g_parts_ls | exact e_parts.meth c_gr g_parts_gr | exact e_parts.meth c_lr g_parts_lr | exact e_parts.meth c_ld g_parts_ld)
 ·intro t;cases t <;> first | exact e_foldsS.meth c_ne g_foldsS_ne | exact e_foldsS.meth c_al g_foldsS_al | exact e_foldsS.meth c_le g_foldsS_le | exact e_foldsS.meth c_no g_foldsS_no | (rename_i u _ _;cases u <;> first | exact e_foldsS.meth c_mo g_foldsS_mo | exact e_foldsS.meth c_ls g_foldsS_ls | exact e_foldsS.meth c_gr g_foldsS_gr | exact e_foldsS.meth c_lr g_foldsS_lr | exact e_foldsS.meth c_ld g_foldsS_ld)
 ·exact e_Kne.meth c_ne g_Kne_ne
 ·exact e_Kal.meth c_al g_Kal_al
 ·exact e_Kle.meth c_le g_Kle_le
 ·exact e_Kno.meth c_no g_Kno_no
 ·exact e_Mno.meth c_no g_Mno_no
 ·exact e_Pno.meth c_no g_Pno_no
 ·intro u;cases u <;> first | exact e_Mfo.meth c_mo g_Mfo_mo | exact e_Mfo.meth c_ls g_Mfo_ls | exact e_Mfo.meth c_gr g_Mfo_gr | exact e_Mfo.meth c_lr g_Mfo_lr | exact e_Mfo.meth c_ld g_Mfo_ld
 ·intro u;cases u <;> first | exact e_Pfo.meth c_mo g_Pfo_mo | exact e_Pfo.meth c_ls g_Pfo_ls | exact e_Pfo.meth c_gr g_Pfo_gr | exact e_Pfo.meth c_lr g_Pfo_lr | exact e_Pfo.meth c_ld g_Pfo_ld
 ·exact e_F0mo.meth c_mo g_F0mo_mo
 ·exact e_F0ls.meth c_ls g_F0ls_ls
 ·exact e_F0gr.meth c_gr g_F0gr_gr
 ·exact e_F0lr.meth c_lr g_F0lr_lr
 ·exact e_F0ld.meth c_ld g_F0ld_ld
 ·exact e_ile.made c_le g_ile_le (mg_of X G n_le) y_le z_le
 ·exact e_ino.made c_no g_ino_no (mg_of X G n_no) y_no z_no
 ·intro u;cases u <;> first | exact e_ifo.made c_mo g_ifo_mo (mg_of X G n_mo) y_mo z_mo | exact e_ifo.made c_ls g_ifo_ls (mg_of X G n_ls) y_ls z_ls | exact e_ifo.made c_gr g_ifo_gr (mg_of X G n_gr) y_gr z_gr | exact e_ifo.made c_lr g_ifo_lr (mg_of X G n_lr) y_lr z_lr | exact e_ifo.made c_ld g_ifo_ld (mg_of X G n_ld) y_ld z_ld
 ·exact ⟨y_ne,i_ne,z_ne⟩
 ·exact mg_of X G n_ne
 ·exact ⟨y_al,i_al,z_al⟩
 ·exact mg_of X G n_al
section
variable {P:Program} {w:World} {K:Frag} {mg:Str->Option Value} {base:Heap} {c:Mine.CCs}
open Mine L2
theorem Mine.mks (A:AllF K mg c):pI P w K mg base "Letter" c.le 1 ["self","name"] (jg c.le kX)/\pI P w K mg base "Not" c.no 1 ["self","part"] (jg c.no mV)/\∀ u:W5,pI P w K mg base u.cls (c.fold u) 1 ["self","one","other"] (rj (c.fold u)) :=
 ⟨vU A.ile A.fx.nName,ok_iNot A.ino A.fx.nPart,λu=>BS (A.ifo u) (A.fx.nOne u) (A.fx.nOther u)⟩
theorem Mine.ms (A:AllF K mg c):Ms P w K mg base c:=by
 obtain ⟨kl,kn,kf⟩:=mks (P:=P) (w:=w) (base:=base) A
 have word:∀ t,bw P w K mg base (c.of t) "making_word" 1 ["self"] (eB c t):=by
  intro t
  cases t with
  | never=>exact yP A.Kne_ne
  | always=>exact vS A.Kal_al
  | lp=>exact ok_wLp A.Kle_le A.fx
  | lq=>exact ok_wLq A.Kle_le A.fx
  | no t=>exact ok_wNot A.Kno_no
  | fold u a b =>
   cases u
   ·exact BF A.F0mo_mo
   ·exact BG A.F0ls_ls
   ·exact tW A.F0gr_gr
   ·exact vR A.F0lr_lr
   ·exact yQ A.F0ld_ld
 refine ⟨λt=>?_,λt=>?_,λt=>?_⟩
 ·cases t with
  | never=>exact xU A.madeS_ne rfl
  | always=>exact xU A.madeS_al rfl
  | lp=>exact xU A.madeS_le rfl
  | lq=>exact xU A.madeS_le rfl
  | no t=>exact ok_mNot A.Mno_no A.fx
  | fold u a b=>exact BP (A.Mfo u) A.fx
 ·exact word t
 ·cases t with
  | never=>exact nL A.piecesS_ne rfl (word .never)
  | always=>exact nL A.piecesS_al rfl (word .always)
  | lp=>exact nL (t:=.lp) A.piecesS_le rfl (word .lp)
  | lq=>exact nL (t:=.lq) A.piecesS_le rfl (word .lq)
  | no t=>exact ok_pNot A.Pno_no A.fx
  | fold u a b=>exact BM (A.Pfo u) A.fx (word (.fold u a b))
end
open PySem PySem.W PyProof.Rows
structure Mine.X47 (K:Frag) (mg:Str->Option Value) (CT CN CF:Addr):Prop where
 mT:mg "TooMany"=some (.ref CT)
 mN:mg "NoCut"=some (.ref CN)
 mF:mg "Fold"=some (.ref CF)
 xT:excIn K CT L2.bmV "ValueError.__new__"=true
 xN:excIn K CN L2.bmV "ValueError.__new__"=true
 ct:L2.gn K CT
 cn:L2.gn K CN
 st:mroIn K CT (.ref CT)=some true
 sn:mroIn K CN (.ref CN)=some true
 ne:∃ a,mg "Never"=some (.ref a)/\kitOne K (.ref a) (.ref CF)=some false
 al:∃ a,mg "Always"=some (.ref a)/\kitOne K (.ref a) (.ref CF)=some false
 le:∃ a,mg "Letter"=some (.ref a)/\kitOne K (.ref a) (.ref CF)=some false
 no:∃ a,mg "Not"=some (.ref a)/\kitOne K (.ref a) (.ref CF)=some false
 mo:∃ a,mg "More"=some (.ref a)/\kitOne K (.ref a) (.ref CF)=some true
 ls:∃ a,mg "Less"=some (.ref a)/\kitOne K (.ref a) (.ref CF)=some true
 gr:∃ a,mg "Greater"=some (.ref a)/\kitOne K (.ref a) (.ref CF)=some true
 lr:∃ a,mg "Lesser"=some (.ref a)/\kitOne K (.ref a) (.ref CF)=some true
 ld:∃ a,mg "Leads"=some (.ref a)/\kitOne K (.ref a) (.ref CF)=some true
theorem Mine.X47.kf {K:Frag} {mg:Str->Option Value} {CT CN CF:Addr} {c:Mine.CCs} (X:Mine.X47 K mg CT CN CF) (A:Mine.AllF K mg c):∀ t,kitOne K (.ref (c.of t)) (.ref CF)=some (Mine.isF t):=by
 have g:∀{x:Str} {a:Addr} {b:Bool},mg x=some (.ref a)->(∃ a,mg x=some (.ref a)/\kitOne K (.ref a) (.ref CF)=some b)->kitOne K (.ref a) (.ref CF)=some b:=λe z=>by
  obtain ⟨a',e',k⟩:=z
  cases e.symm.trans e'
  exact k
 intro t
 cases t with
 | never=>exact g A.r_ne X.ne
 | always=>exact g A.r_al X.al
 | lp=>exact g A.ile.mg_ X.le
 | lq=>exact g A.ile.mg_ X.le
 | no=>exact g A.ino.mg_ X.no
 | fold u=>cases u with
  | more=>exact g (A.ifo .more).mg_ X.mo
  | less=>exact g (A.ifo .less).mg_ X.ls
  | greater=>exact g (A.ifo .greater).mg_ X.gr
  | lesser=>exact g (A.ifo .lesser).mg_ X.lr
  | leads=>exact g (A.ifo .leads).mg_ X.ld
theorem Mine.cls47 {K:Frag} {h:Heap} {mg:Str->Option Value} {CT CN CF ne al le no mo ls gr lr ld:Addr} {c1 c2:ClassData} (X:K.In h) (G:h.Ns mainGlobals mg)
  (mCT:nsIn K mainGlobals "TooMany"=some (some (.ref CT)))
  (mCN:nsIn K mainGlobals "NoCut"=some (some (.ref CN)))
  (mCF:nsIn K mainGlobals "Fold"=some (some (.ref CF)))
  (xt:excIn K CT L2.bmV "ValueError.__new__"=true)
  (xn:excIn K CN L2.bmV "ValueError.__new__"=true)
  (t6:clsIn K CT=some c1)
  (t7:typeIn K (.ref CT)=some (.type "type"))
  (t8:mroIn K CT (.type "BaseException")=some true)
  (st:mroIn K CT (.ref CT)=some true)
  (n6:clsIn K CN=some c2)
  (n7:typeIn K (.ref CN)=some (.type "type"))
  (n8:mroIn K CN (.type "BaseException")=some true)
  (sn:mroIn K CN (.ref CN)=some true)
  (mne:nsIn K mainGlobals "Never"=some (some (.ref ne)))
  (kne:kitOne K (.ref ne) (.ref CF)=some false)
  (mal:nsIn K mainGlobals "Always"=some (some (.ref al)))
  (kal:kitOne K (.ref al) (.ref CF)=some false)
  (mle:nsIn K mainGlobals "Letter"=some (some (.ref le)))
  (kle:kitOne K (.ref le) (.ref CF)=some false)
  (mno:nsIn K mainGlobals "Not"=some (some (.ref no)))
  (kno:kitOne K (.ref no) (.ref CF)=some false)
  (mmo:nsIn K mainGlobals "More"=some (some (.ref mo)))
  (kmo:kitOne K (.ref mo) (.ref CF)=some true)
  (mls:nsIn K mainGlobals "Less"=some (some (.ref ls)))
  (kls:kitOne K (.ref ls) (.ref CF)=some true)
  (mgr:nsIn K mainGlobals "Greater"=some (some (.ref gr)))
  (kgr:kitOne K (.ref gr) (.ref CF)=some true)
  (mlr:nsIn K mainGlobals "Lesser"=some (some (.ref lr)))
  (klr:kitOne K (.ref lr) (.ref CF)=some true)
  (mld:nsIn K mainGlobals "Leads"=some (some (.ref ld)))
  (kld:kitOne K (.ref ld) (.ref CF)=some true) :
  ∃ CT CN CF,Mine.X47 K mg CT CN CF :=
 ⟨CT,CN,CF,mg_of X G mCT,mg_of X G mCN,mg_of X G mCF,xt,xn,⟨⟨_,t6⟩,t7,t8⟩,⟨⟨_,n6⟩,n7,n8⟩,st,sn,⟨_,mg_of X G mne,kne⟩,⟨_,mg_of X G mal,kal⟩,⟨_,mg_of X G mle,kle⟩,⟨_,mg_of X G mno,kno⟩,⟨_,mg_of X G mmo,kmo⟩,⟨_,mg_of X G mls,kls⟩,⟨_,mg_of X G mgr,kgr⟩,⟨_,mg_of X G mlr,klr⟩,⟨_,mg_of X G mld,kld⟩⟩
namespace PySem.W.Fast
def tw10015414461954600363:=0
def tw10038839937232616393:=0
def tw10072530112320513841:=0
def tw10134079562157574026:=0
def tw10137698446541125704:=0
def tw10138043768647929538:=0
def tw10142067879615863576:=0
def tw1015259076361074782:=0
def tw10172419957198111621:=0
def tw10172482402803663362:=0
def tw10187749051423329192:=0
def tw10221271175260027242:=0
def tw102307233763855811:=0
def tw10241845884437231262:=0
def tw10243865405708089052:=0
def tw10279513700131151615:=0
def tw1032282167591644490:=0
def tw10322972769814662602:=0
def tw10343745727286553382:=0
def tw10367754735461107153:=0
def tw10387717454007990249:=0
def tw10397647081456614497:=0
def tw10408028440904110172:=0
def tw10466109323780832242:=0
def tw10488005187262388247:=0
def tw10523968473982590835:=0
def tw10533899995985760348:=0
def tw10536581875748195469:=0
def tw10542849152416215370:=0
def tw10544458874374047492:=0
def tw10554816485051379325:=0
def tw10555782555374086729:=0
def tw10573239311276029051:=0
def tw1058813192174356554:=0
def tw10601468259458287270:=0
def tw10614956013243823617:=0
def tw1064225399155093177:=0
def tw10651402431786358108:=0
def tw10687896830134864923:=0
def tw10726354500043339807:=0
def tw10807300224101638043:=0
def tw10809360125616890765:=0
def tw10833170025843954400:=0
def tw10843708264064842968:=0
def tw1085889638929863698:=0
def tw10867172300490203605:=0
def tw10870645656849161886:=0
def tw10880858385241926638:=0
def tw10902143549817684137:=0
def tw10998924652917149785:=0
def tw11011598254927394794:=0
def tw11044714949833238652:=0
def tw11066839899681409463:=0
def tw11080207134663309069:=0
def tw1109992178763759660:=0
def tw11137334323242934342:=0
def tw11150515127272410063:=0
def tw11151851300292214251:=0
def tw11183501430783446351:=0
def tw11196978084423808527:=0
def tw11225829489067674303:=0
def tw11235982249136044354:=0
def tw11297401696356091364:=0
def tw11342613626317305744:=0
def tw11347163810050052603:=0
def tw1135737192452032682:=0
def tw11366096415336543628:=0
def tw11413529012472847344:=0
def tw11450951512915783877:=0
def tw11501728501956314484:=0
def tw11523598589666587316:=0
def tw11579104184034257271:=0
def tw11596217388462303030:=0
def tw11598257006715100973:=0
def tw11635350449991146372:=0
def tw11673445601923944884:=0
def tw11723443080879316531:=0
def tw11740184902206654223:=0
def tw11747551669608765379:=0
def tw11777066480528995983:=0
def tw11789550599007546981:=0
def tw11813757607461433961:=0
def tw11821492625640696789:=0
def tw11831474075999412739:=0
def tw11845161139791275956:=0
def tw11850543921619851548:=0
def tw11862367487991259355:=0
def tw11865564569196409411:=0
def tw1187182456737897109:=0
def tw11895681509782434419:=0
def tw11913513344878990342:=0
def tw11917589800523228343:=0
def tw12096016278770336624:=0
def tw12112282382979395122:=0
def tw12124377339961744817:=0
def tw1219693713694571542:=0
def tw12215595010737980793:=0
def tw1223232259831049716:=0
def tw12242890151808822781:=0
def tw12283796666445169540:=0
def tw12291084656710210126:=0
def tw12299140447440853591:=0
def tw12313116209411905429:=0
def tw12324276397718965064:=0
def tw1232580080968991117:=0
def tw12338713247501846146:=0
def tw12368131735292547944:=0
def tw12369777181999393508:=0
def tw12385437293626335173:=0
def tw12403709583834747026:=0
def tw1241209001101252193:=0
def tw12414273618409404033:=0
def tw12418281066095882461:=0
def tw12418462061476324498:=0
def tw12432693618241207917:=0
def tw12440990074657352499:=0
def tw12448875323830146926:=0
def tw12455690595938464605:=0
def tw1249590374274471400:=0
def tw12496370464098188492:=0
def tw12496919351536672656:=0
def tw12555992874557953827:=0
def tw12556890973643823538:=0
def tw12564496484336453421:=0
def tw12591258530738783950:=0
def tw12613281188100783733:=0
def tw12616390726733976164:=0
def tw12618988707159706748:=0
def tw12625636055642494871:=0
def tw12634934951344934597:=0
def tw12669184955225303056:=0
def tw12675567660053764205:=0
def tw1268301438081249031:=0
def tw12688953297790979439:=0
def tw12777262931611101831:=0
def tw12818220047041607492:=0
def tw12863363471234453620:=0
def tw12907745998028592372:=0
def tw12996244533472548436:=0
def tw13004367676376856089:=0
def tw13030074656131749303:=0
def tw13046574402718389419:=0
def tw13049725343040165911:=0
def tw13054027243600827360:=0
def tw13214258894288563854:=0
def tw13272504167322014950:=0
def tw13274712178416586851:=0
def tw13294344492554191096:=0
def tw1332442426711281498:=0
def tw13340285330436388885:=0
def tw13362407887083510321:=0
def tw13436797160439066513:=0
def tw13535664960088021474:=0
def tw13652938626772291510:=0
def tw13675918764270762866:=0
def tw13703978436792011811:=0
def tw13749888769580870564:=0
def tw13771548706721177569:=0
def tw1380950842038101607:=0
def tw13865195765302667679:=0
def tw1386598950827188976:=0
def tw13872316405577249960:=0
def tw13881988072032704474:=0
def tw13916779428464746327:=0
def tw13931951876180998634:=0
def tw13931982442656325124:=0
def tw13955426097116829351:=0
def tw13967677823581319873:=0
def tw13974295656573398347:=0
def tw14003907410614821974:=0
def tw14004856818705364808:=0
def tw14015196289536014560:=0
def tw14023018544490910276:=0
def tw14036987917826272192:=0
def tw14088982272244734524:=0
def tw14168995297616898350:=0
def tw14206286487258906080:=0
def tw14207308740028585804:=0
def tw14223013857447668310:=0
def tw14226923525673147196:=0
def tw14259788213988117701:=0
def tw14269516960794393878:=0
def tw14289589082212637709:=0
def tw14298007026909040887:=0
def tw14312400583446512240:=0
def tw14312893928572670374:=0
def tw1432536375612877366:=0
def tw14346067897284231809:=0
def tw14352605110777360995:=0
def tw14358327163386677117:=0
def tw14382019713679595870:=0
def tw14402135781886323164:=0
def tw1445273952183894446:=0
def tw14473268836673297847:=0
def tw14474361302531948262:=0
def tw14487145190630946150:=0
def tw14493287615582780282:=0
def tw14508212401283168229:=0
def tw14509231435030717907:=0
def tw14525591948739442094:=0
def tw14527140384817416350:=0
def tw14564715091289753485:=0
def tw14605276236471014077:=0
def tw14629045741467487382:=0
def tw14694323596755405192:=0
def tw14706028308320277391:=0
def tw14712175450927146078:=0
def tw14764027814862107011:=0
def tw14765289264753919460:=0
def tw14777457987194877102:=0
def tw1478272144585609506:=0
def tw14802287644169396068:=0
def tw14813645603471777491:=0
def tw14816316660967050324:=0
def tw1481927727017567476:=0
def tw14880283415230065574:=0
def tw1489087871124145425:=0
def tw1490121243885912704:=0
def tw14961397803445564991:=0
def tw15033282481187549656:=0
def tw15045780295761764343:=0
def tw1504824272246451203:=0
def tw15065988988051753196:=0
def tw15125585767658270917:=0
def tw1515066771891699559:=0
def tw15195885408848934052:=0
def tw15199401734050720210:=0
def tw15215982242700865791:=0
def tw15230207326603179298:=0
def tw15332497404847295887:=0
def tw15344939077794400346:=0
def tw15351217631297561950:=0
def tw15353081925961696442:=0
def tw15390649374071535581:=0
def tw15401980348868975837:=0
def tw15405391631802063452:=0
def tw15448891715321990063:=0
def tw15455890371735678184:=0
def tw15499388840712541741:=0
def tw15501781973711746978:=0
def tw15502960006800677492:=0
def tw15514951549844008424:=0
def tw15542618745490997385:=0
def tw15550244580766775529:=0
def tw15552303652226757272:=0
def tw15594832795892019977:=0
def tw15613978724715531290:=0
def tw15634481068036328737:=0
def tw15684470944391295885:=0
def tw15700478643854604745:=0
def tw15703091511220650015:=0
def tw15751349913508665491:=0
def tw15791226260631225733:=0
def tw15812465094523446808:=0
def tw15872926575548314570:=0
def tw15879019656808143930:=0
def tw15898908582212203569:=0
def tw1592260452968330221:=0
def tw15963913295831540576:=0
def tw15975364734130223577:=0
def tw1599083693813646831:=0
def tw15997276773152073501:=0
def tw16040146159541919598:=0
def tw16043909507086889336:=0
def tw16044426516358341971:=0
def tw16048074045386821945:=0
def tw16061383779936819845:=0
def tw16065247196088366136:=0
def tw16079686879640583766:=0
def tw16101569015737868618:=0
def tw1611193690440468621:=0
def tw16114274527662027058:=0
def tw16138319267244114180:=0
def tw16151288351408264471:=0
def tw16160039059659951637:=0
def tw16173304328363882864:=0
def tw16174705872866024326:=0
def tw16177261172156020640:=0
def tw16182861540121651872:=0
def tw16243374222371465818:=0
def tw16244601028164787592:=0
def tw1624879407958695824:=0
def tw1628640737091463707:=0
def tw16329724507151313405:=0
def tw16355770866241325371:=0
def tw16376046228802248616:=0
def tw16396691206326068481:=0
def tw164016053200559089:=0
def tw16406606636749816250:=0
def tw1642478705630466919:=0
def tw16430589333545850390:=0
def tw16469118687286566813:=0
def tw16477225772184082908:=0
def tw16485268444284494752:=0
def tw16487756164527406622:=0
def tw16488105455842022713:=0
def tw16508410644647695726:=0
def tw16519093118351973901:=0
def tw16541585964044472799:=0
def tw16599621304183930580:=0
def tw16631022470372524667:=0
def tw16654945849344370539:=0
def tw16659537739403594553:=0
def tw16663309216507584984:=0
def tw16682881766948893531:=0
def tw16741239747619170047:=0
def tw168255754516376942:=0
def tw16864851451592300504:=0
def tw16877161911789813865:=0
def tw1687984770353611514:=0
def tw16893223653920497801:=0
def tw16894414770914359675:=0
def tw16900928854442287296:=0
def tw16972453138675195432:=0
def tw16976746208522017279:=0
def tw16994569639763601124:=0
def tw17021392416557812327:=0
def tw17023785863091075273:=0
def tw17026529812208986342:=0
def tw17032419402824724315:=0
def tw17038735393684608498:=0
def tw17069631904633700450:=0
def tw17126704923344156875:=0
def tw17130832350757542943:=0
def tw17202064062207292601:=0
def tw1724615445346739046:=0
def tw17253480674010117078:=0
def tw17259716475488079542:=0
def tw17328625975844537469:=0
def tw17380729263460866081:=0
def tw17465590432543517557:=0
def tw17488624271601421114:=0
def tw17495330225318687467:=0
def tw17495485952108367697:=0
def tw17509805017640391928:=0
def tw17527958113891360026:=0
def tw17584488862512858950:=0
def tw17598357491666948910:=0
def tw17599418952353174435:=0
def tw17602733132407041240:=0
def tw17623361114873953114:=0
def tw17630217016334825001:=0
def tw17651720214025997036:=0
def tw17675495816081692350:=0
def tw17686893863168513856:=0
def tw17694318182117334529:=0
def tw17741792087033676144:=0
def tw17744867853627178430:=0
def tw17786912885084550084:=0
def tw17791317705314567778:=0
def tw17819295587065075509:=0
def tw17937649386623633270:=0
def tw1794904269444816892:=0
def tw17955762923811964228:=0
def tw17959885393676764638:=0
def tw17968521832910546894:=0
def tw17974010644196328459:=0
def tw17974531583528543816:=0
def tw17980277105334924025:=0
def tw17991529661289132907:=0
def tw18017120204619605465:=0
def tw18072864371749578567:=0
def tw18086364521640988899:=0
def tw18128001714615389162:=0
def tw18165622482172428866:=0
def tw18203480726348175899:=0
def tw1822176925693107554:=0
def tw18228352152950557953:=0
def tw18277947446589353532:=0
def tw18288727964882982916:=0
def tw18292378132849324182:=0
def tw18302819606138639940:=0
def tw18329647642759113010:=0
def tw18351018950787815442:=0
def tw1836278728161922497:=0
def tw18419837195872617130:=0
def tw18433820740773386740:=0
def tw1851171379210428696:=0
def tw1914167806073363130:=0
def tw1926653845141505552:=0
def tw1932629311997810192:=0
def tw1935556353895664816:=0
def tw1937799560209959108:=0
def tw1951446391144252369:=0
def tw1984361632294570487:=0
def tw2034457428539092509:=0
def tw2034585063290673919:=0
def tw2042470777457769022:=0
def tw2107605134412656584:=0
def tw2136212352904776329:=0
def tw2180124993429340984:=0
def tw2187483117838619654:=0
def tw2209813935196227407:=0
def tw2297369709229377611:=0
def tw2342208774024453659:=0
def tw2367701263361229029:=0
def tw2378550819044902177:=0
def tw2378730605336808498:=0
def tw2380357971234344435:=0
def tw2422338004345691929:=0
def tw2432063732305615964:=0
def tw2434066846167275612:=0
def tw2487852564337789904:=0
def tw2499134530611300683:=0
def tw2510704161871499322:=0
def tw2535386067585077691:=0
def tw2564532075891689594:=0
def tw2578734453000143736:=0
def tw259121643764496863:=0
def tw2600817150439284957:=0
def tw2635660167735989243:=0
def tw2689772129288209849:=0
def tw2700163714482216850:=0
def tw2704392787461611134:=0
def tw270968914399960125:=0
def tw2711056628874965787:=0
def tw2767063393134152411:=0
def tw2773303789891059685:=0
def tw2774365034275523855:=0
def tw2811446827358814673:=0
def tw2854534613063636617:=0
def tw2862738938797967486:=0
def tw2944064145688095120:=0
def tw2980979726150589470:=0
def tw2996061358147361482:=0
def tw3036744427684435820:=0
def tw3048031056724343048:=0
def tw306039659814035855:=0
def tw3072543932558391502:=0
def tw3083835143060726237:=0
def tw310428914095349147:=0
def tw3150490290947066107:=0
def tw3161166016030080200:=0
def tw3182637474912530453:=0
def tw3195524006141103294:=0
def tw3200517114257652826:=0
def tw3261298926111250889:=0
def tw3307815786857344497:=0
def tw3326763141394441026:=0
def tw3351310309237048121:=0
def tw3379581916252841512:=0
def tw3390220387769612759:=0
def tw3407151073617524105:=0
def tw3545751778486943417:=0
def tw3580276317633877793:=0
def tw3580728744448774021:=0
def tw3583950377453497270:=0
def tw3636505116231308065:=0
def tw3672640516182245761:=0
def tw369301748197697060:=0
def tw3699765436587819229:=0
def tw3724444668781107922:=0
def tw3745699602082206543:=0
def tw3799595063434175216:=0
def tw383334738705287647:=0
def tw3856504589247306803:=0
def tw3862737888640759081:=0
def tw3892004350797227729:=0
def tw3899388006833177745:=0
def tw3903159778876008840:=0
def tw3912358293814787645:=0
def tw3913748420752884288:=0
def tw3931193108635110409:=0
def tw3951809978999774781:=0
def tw4001784971249419382:=0
def tw4002600986562347504:=0
def tw4003890138832624510:=0
def tw403521538244721035:=0
def tw4049600593580996720:=0
def tw4065444260570319838:=0
def tw4121432843919945175:=0
def tw4141078317306627821:=0
def tw4143233104725714374:=0
def tw4168966944154590239:=0
def tw4273381487572735218:=0
def tw4319319705026071073:=0
def tw4365978285517968221:=0
def tw4427434762079979144:=0
def tw4477117780402874501:=0
def tw4555689089841729085:=0
def tw4560350967364155324:=0
def tw4567530665741672509:=0
def tw4568538011345315294:=0
def tw4576217825742937419:=0
def tw4604831186176621138:=0
def tw4613218672225259715:=0
def tw4616585894048765719:=0
def tw4647142052581676719:=0
def tw4660852704000319848:=0
def tw4773193768065725085:=0
def tw4773327014712087315:=0
def tw4814540378065750999:=0
def tw4882892938500381052:=0
def tw4957494064790385258:=0
def tw4961155189751314573:=0
def tw4982136223730294972:=0
def tw5018291954095022001:=0
def tw5030925471873925739:=0
def tw5048088210633626441:=0
def tw5059413789548141489:=0
def tw5070430896178679376:=0
def tw5070675363410589393:=0
def tw5096952726331592623:=0
def tw5136646923222252412:=0
def tw5233660930869949778:=0
def tw5237522915217252512:=0
def tw5287102543174062544:=0
def tw5307886424924720309:=0
def tw5340331016096653000:=0
def tw5341027281966226952:=0
def tw5378492264075137574:=0
def tw5378679722041877820:=0
def tw5380029061345474263:=0
def tw5408007540477987962:=0
def tw5424687219040212053:=0
def tw5461412966696731059:=0
def tw5483301212173112317:=0
def tw5522321928216290262:=0
def tw5522741930918313503:=0
def tw5533603316714294399:=0
def tw5563420652387790418:=0
def tw5565691272004928951:=0
def tw5609572878312057645:=0
def tw5613571136850271802:=0
def tw5616587187920560766:=0
def tw5653687192960857520:=0
def tw5684261890294438374:=0
def tw5731346398916076461:=0
def tw5731472425739342536:=0
def tw5753876582354116395:=0
def tw5774172718672944000:=0
def tw5781498704627570063:=0
def tw5794608129219061437:=0
def tw5831182422215830982:=0
def tw5892970503425562443:=0
def tw5902564707259487593:=0
def tw59081646526401128:=0
def tw5913733879400260039:=0
def tw5918806031144499825:=0
def tw5946080285861346327:=0
def tw5947095029565187436:=0
def tw5950385338083792011:=0
def tw5957339106136453398:=0
def tw5968418864235324468:=0
def tw5969080652848481761:=0
def tw5969753229717326518:=0
def tw598660883764209058:=0
def tw5998550512874670178:=0
def tw5999461746192059345:=0
def tw6000119816970406504:=0
def tw6023816368645701006:=0
def tw6044375729316589464:=0
def tw605355646837766062:=0
def tw6071560734582127693:=0
def tw607186378566160767:=0
def tw6083110300001643990:=0
def tw6087705579448278065:=0
def tw6100168934833833894:=0
def tw6102884572979078293:=0
def tw6142995916520775843:=0
def tw6143395295713268289:=0
def tw6238551368131556984:=0
def tw6307262378229180607:=0
def tw6334494784564265650:=0
def tw6338610409208829382:=0
def tw6340407140817427873:=0
def tw6376044207043217410:=0
def tw6388507592454421214:=0
def tw6404236185978127473:=0
def tw6405163017395946463:=0
def tw6416271699440394536:=0
def tw6424971798424919299:=0
def tw6434557468131957085:=0
def tw6450326261928480197:=0
def tw6458435585509431914:=0
def tw6469512835742553237:=0
def tw6495168159875064473:=0
def tw6518063395629988483:=0
def tw6518751363705018668:=0
def tw652482170138437611:=0
def tw6603856613014344472:=0
def tw6614068065254079982:=0
def tw6636060862185331414:=0
def tw6641715881182270662:=0
def tw6648387028283194141:=0
def tw6651474773790989045:=0
def tw6677856205883213500:=0
def tw6679281844712484246:=0
def tw6700542048063380945:=0
def tw6706077089136255974:=0
def tw6707406562966710766:=0
def tw6711189279493263895:=0
def tw6716502353308447848:=0
def tw6834793783807163566:=0
def tw6847679980882098490:=0
def tw6857041600347654083:=0
def tw6865701415174426414:=0
def tw6870094757534031517:=0
def tw6904873789122500207:=0
def tw691017901437479395:=0
def tw6918365937490638253:=0
def tw6925058010556581995:=0
def tw6940451274649824913:=0
def tw6941202248277602898:=0
def tw6956679575493422571:=0
def tw6966943505435923867:=0
def tw6989618185299709002:=0
def tw6996775910281173382:=0
def tw6998544165043594716:=0
def tw7023448276191172766:=0
def tw7046957336416655366:=0
def tw7073471823708991991:=0
def tw7073743583472899264:=0
def tw7083377781211488198:=0
def tw7087539813617529133:=0
def tw7094937585811110989:=0
def tw7158517380325843591:=0
def tw7198148037850972951:=0
def tw7216822528530249873:=0
def tw7226762714270004864:=0
def tw7274281857347451901:=0
def tw7305819282559823260:=0
def tw735036454541333248:=0
def tw7471821486373687810:=0
def tw7524198514660376826:=0
def tw759260662142469781:=0
def tw7618628033460614743:=0
def tw7626156075448646236:=0
def tw7633219831207530018:=0
def tw7688914827280669680:=0
def tw7730392978247164122:=0
def tw7735731263705910948:=0
def tw7746434984517185128:=0
def tw7750027936328947986:=0
def tw7751623224506318467:=0
def tw7779086954626369498:=0
def tw7834658591460805502:=0
def tw7844498641179858993:=0
def tw7851715852364171568:=0
def tw7857081346202964901:=0
def tw7873161072831862300:=0
def tw7926237051204588259:=0
def tw7942968926894477185:=0
def tw7973850062004356809:=0
def tw7977992016101714332:=0
def tw8022836576593766008:=0
def tw8026141477067402348:=0
def tw8054793189668675687:=0
def tw8087553641951631498:=0
def tw8115864493112038276:=0
def tw8117134094863393979:=0
def tw81197475554132567:=0
def tw8132248056986252081:=0
def tw8185994590154752328:=0
def tw8204546206142892422:=0
def tw8211094132738384499:=0
def tw8218390224877037289:=0
def tw8224244850814576540:=0
def tw8241347118581303883:=0
def tw8262844467706283009:=0
def tw8347582530186970947:=0
def tw8402263466691553909:=0
def tw8413235567024519807:=0
def tw8449983454498426884:=0
def tw8461602630448768359:=0
def tw8463581736559890767:=0
def tw8476264789800684959:=0
def tw8483355531776693207:=0
def tw8504128429881768527:=0
def tw8508941317313069920:=0
def tw8521584915887787884:=0
def tw8525553614804403197:=0
def tw856477556720465566:=0
def tw8581813621676345304:=0
def tw8592213059973217806:=0
def tw8614618665304464946:=0
def tw8641057323832125591:=0
def tw8669924166011526216:=0
def tw8685501861552320153:=0
def tw8691409212090547432:=0
def tw8699321230203771881:=0
def tw8704667071699749223:=0
def tw8716145589718628672:=0
def tw8716759360583673529:=0
def tw8719146914511865021:=0
def tw8748045823656538216:=0
def tw8755165474674827554:=0
def tw8783346517283617132:=0
def tw8785593144720764131:=0
def tw8787189297835307627:=0
def tw879077129368477913:=0
def tw8828010833702146209:=0
def tw8832792397295556863:=0
def tw8866297819583138037:=0
def tw8867689141371357690:=0
def tw8873462663758852166:=0
def tw8875104603553145088:=0
def tw889869278051226689:=0
def tw8901721030693831392:=0
def tw8925245377096509384:=0
def tw8937809990725052140:=0
def tw8938814474250906749:=0
def tw8942118903022281655:=0
def tw8964410307556656907:=0
def tw896549179201445746:=0
def tw8982652640753446190:=0
def tw8987380815363204668:=0
def tw901669507601662034:=0
def tw9064417077413459589:=0
def tw9075996579903109111:=0
def tw9091753434236846623:=0
def tw9113839271874646267:=0
def tw9133792887803258650:=0
def tw9151293788990826806:=0
def tw9185377577160646235:=0
def tw9208797602961216367:=0
def tw9213191824808931783:=0
def tw9216269971844699334:=0
def tw9219132115564899715:=0
def tw9228168721280792232:=0
def tw9235489011710510678:=0
def tw9263268542327155656:=0
def tw9266822857658601834:=0
def tw9280188587472731787:=0
def tw9311720337906425619:=0
def tw9319365964077986934:=0
def tw9335056550640425309:=0
def tw9363595087591435158:=0
def tw9396904875372037684:=0
def tw9418618780341356477:=0
def tw9433498959986526007:=0
def tw9451241091872132557:=0
def tw9501388698522674581:=0
def tw9549617066612035523:=0
def tw9557348834468233739:=0
def tw9558881337840547036:=0
def tw9575760562071190293:=0
def tw9630727435226203107:=0
def tw9672658007430341745:=0
def tw9701832985014581792:=0
def tw9711342680398692216:=0
def tw9711807452812494196:=0
def tw9731924688594872402:=0
def tw9744793154030584365:=0
def tw9782611515130531891:=0
def tw9796781565652549306:=0
def tw9805340860684259474:=0
def tw9813190972120737289:=0
def tw9838569345546383577:=0
def tw9839576299798167848:=0
def tw9884111134946066632:=0
def tw9911181526397109697:=0
def tw9922596834662471993:=0
def tw9926684718465418895:=0
def tw9956911311561872609:=0
def tw9984792236778246511:=0
def tw9987639387513607596:=0
end PySem.W.Fast
open PySem PySem.W PyProof.Rows
set_option maxRecDepth 100000 in
set_option maxHeartbeats 0 in
theorem PySem.Challenge.cw_leansay_k47_whole_looker_holds : PySem.Challenge.rw_leansay_k47_whole_looker.Holds := by
 w_on;o_law;k_head;(case hw=>w_witness2)
 k_fill
 refine L2.yu (l:=PySem.Challenge.rw_leansay_k47_whole_looker) (n:=63) (k:=80) (x:="_law_script") (CX:=L2.CX0) (sp:=Mine.spLaw) rfl (by decide) rfl ⟨rfl,by decide,by decide⟩ (λw h Y=>PySem.W.kIn_of Y) ?F ?S ?C
 case F =>
  intro w mg fa h KX G hmg
  have ny:L2.aE (L2.KOf KX) mg "common_factor" Mine.fM:=by
   dsimp only [L2.KOf]
   refine' L2.aQ KX G ?a ?l ?c ?k;(case a=>k_is);(case l=>k_is);(case c=>k_is);(case k=>k_is)
  have uZ:L2.aE (L2.KOf KX) mg "square" Mine.kG:=by
   dsimp only [L2.KOf]
   refine' L2.aQ KX G ?a ?l ?c ?k;(case a=>k_is);(case l=>k_is);(case c=>k_is);(case k=>k_is)
  have zT:L2.aE (L2.KOf KX) mg "told_by" Mine.lL:=by
   dsimp only [L2.KOf]
   refine' L2.aQ KX G ?a ?l ?c ?k;(case a=>k_is);(case l=>k_is);(case c=>k_is);(case k=>k_is)
  have lj:L2.aE (L2.KOf KX) mg "told_in_corners" Mine.cD:=by
   dsimp only [L2.KOf]
   refine' L2.aQ KX G ?a ?l ?c ?k;(case a=>k_is);(case l=>k_is);(case c=>k_is);(case k=>k_is)
  have mq:L2.aE (L2.KOf KX) mg "corner_between" Mine.bJ:=by
   dsimp only [L2.KOf]
   refine' L2.aQ KX G ?a ?l ?c ?k;(case a=>k_is);(case l=>k_is);(case c=>k_is);(case k=>k_is)
  have T_cut:L2.aE (L2.KOf KX) mg "cut" Mine.iW:=by
   dsimp only [L2.KOf]
   refine' L2.aQ KX G ?a ?l ?c ?k;(case a=>k_is);(case l=>k_is);(case c=>k_is);(case k=>k_is)
  have zU:L2.aE (L2.KOf KX) mg "rows_of" Mine.eZ:=by
   dsimp only [L2.KOf]
   refine' L2.aQ KX G ?a ?l ?c ?k;(case a=>k_is);(case l=>k_is);(case c=>k_is);(case k=>k_is)
  have T_both:L2.aE (L2.KOf KX) mg "both" Mine.oK:=by
   dsimp only [L2.KOf]
   refine' L2.aQ KX G ?a ?l ?c ?k;(case a=>k_is);(case l=>k_is);(case c=>k_is);(case k=>k_is)
  have zR:L2.aE (L2.KOf KX) mg "without" Mine.hI:=by
   dsimp only [L2.KOf]
   refine' L2.aQ KX G ?a ?l ?c ?k;(case a=>k_is);(case l=>k_is);(case c=>k_is);(case k=>k_is)
  have va:L2.aE (L2.KOf KX) mg "leaf_rule" Mine.iR:=by
   dsimp only [L2.KOf]
   refine' L2.aQ KX G ?a ?l ?c ?k;(case a=>k_is);(case l=>k_is);(case c=>k_is);(case k=>k_is)
  have pU:L2.aE (L2.KOf KX) mg "fold_choice" Mine.gP:=by
   dsimp only [L2.KOf]
   refine' L2.aQ KX G ?a ?l ?c ?k;(case a=>k_is);(case l=>k_is);(case c=>k_is);(case k=>k_is)
  have vk:L2.aE (L2.KOf KX) mg "choice_of" Mine.iY:=by
   dsimp only [L2.KOf]
   refine' L2.aQ KX G ?a ?l ?c ?k;(case a=>k_is);(case l=>k_is);(case c=>k_is);(case k=>k_is)
  have vj:L2.aE (L2.KOf KX) mg "chosen_on" Mine.iX:=by
   dsimp only [L2.KOf]
   refine' L2.aQ KX G ?a ?l ?c ?k;(case a=>k_is);(case l=>k_is);(case c=>k_is);(case k=>k_is)
  have nr:L2.aE (L2.KOf KX) mg "rules_of_rows" Mine.fK:=by
   dsimp only [L2.KOf]
   refine' L2.aQ KX G ?a ?l ?c ?k;(case a=>k_is);(case l=>k_is);(case c=>k_is);(case k=>k_is)
  have wJ:L2.aE (L2.KOf KX) mg "hulls_of" Mine.jO:=by
   dsimp only [L2.KOf]
   refine' L2.aQ KX G ?a ?l ?c ?k;(case a=>k_is);(case l=>k_is);(case c=>k_is);(case k=>k_is)
  have gR:L2.aE (L2.KOf KX) mg "must_be_few" Mine.fi:=by
   dsimp only [L2.KOf]
   refine' L2.aQ KX G ?a ?l ?c ?k;(case a=>k_is);(case l=>k_is);(case c=>k_is);(case k=>k_is)
  have zS:L2.aE (L2.KOf KX) mg "tree_on" Mine.lK:=by
   dsimp only [L2.KOf]
   refine' L2.aQ KX G ?a ?l ?c ?k;(case a=>k_is);(case l=>k_is);(case c=>k_is);(case k=>k_is)
  have Ab:L2.aE (L2.KOf KX) mg "cutting" Mine.lP:=by
   dsimp only [L2.KOf]
   refine' L2.aQ KX G ?a ?l ?c ?k;(case a=>k_is);(case l=>k_is);(case c=>k_is);(case k=>k_is)
  have lx:L2.aE (L2.KOf KX) mg "rules_in_leaves" Mine.bf:=by
   dsimp only [L2.KOf]
   refine' L2.aQ KX G ?a ?l ?c ?k;(case a=>k_is);(case l=>k_is);(case c=>k_is);(case k=>k_is)
  have nv:L2.aE (L2.KOf KX) mg "is_no_less_at" Mine.fL:=by
   dsimp only [L2.KOf]
   refine' L2.aQ KX G ?a ?l ?c ?k;(case a=>k_is);(case l=>k_is);(case c=>k_is);(case k=>k_is)
  have nu:L2.aE (L2.KOf KX) mg "is_no_less_on" Mine.cS:=by
   dsimp only [L2.KOf]
   refine' L2.aQ KX G ?a ?l ?c ?k;(case a=>k_is);(case l=>k_is);(case c=>k_is);(case k=>k_is)
  have T_holds : L2.aE (L2.KOf KX) mg "holds" Mine.s_holds := by
   dsimp only [L2.KOf]
   refine' L2.aQ KX G ?a ?l ?c ?k;(case a=>k_is);(case l=>k_is);(case c=>k_is);(case k=>k_is)
  have vh:L2.aE (L2.KOf KX) mg "_law_cell_at" Mine.iV:=by
   dsimp only [L2.KOf]
   refine' L2.aQ KX G ?a ?l ?c ?k;(case a=>k_is);(case l=>k_is);(case c=>k_is);(case k=>k_is)
  have zZ:L2.aE (L2.KOf KX) mg "_law_drawn" Mine.hU:=by
   dsimp only [L2.KOf]
   refine' L2.aQ KX G ?a ?l ?c ?k;(case a=>k_is);(case l=>k_is);(case c=>k_is);(case k=>k_is)
  have zV:L2.aE (L2.KOf KX) mg "_law_tells" Mine.lM:=by
   dsimp only [L2.KOf]
   refine' L2.aQ KX G ?a ?l ?c ?k;(case a=>k_is);(case l=>k_is);(case c=>k_is);(case k=>k_is)
  have vg:L2.aE (L2.KOf KX) mg "_law_part" Mine.oH:=by
   dsimp only [L2.KOf]
   refine' L2.aQ KX G ?a ?l ?c ?k;(case a=>k_is);(case l=>k_is);(case c=>k_is);(case k=>k_is)
  have vi:L2.aE (L2.KOf KX) mg "_law_between" Mine.di:=by
   dsimp only [L2.KOf]
   refine' L2.aQ KX G ?a ?l ?c ?k;(case a=>k_is);(case l=>k_is);(case c=>k_is);(case k=>k_is)
  have T_l_cut:L2.aE (L2.KOf KX) mg "_law_cut" Mine.dw:=by
   dsimp only [L2.KOf]
   refine' L2.aQ KX G ?a ?l ?c ?k;(case a=>k_is);(case l=>k_is);(case c=>k_is);(case k=>k_is)
  have vd:L2.aE (L2.KOf KX) mg "_law_rule_by" Mine.iS:=by
   dsimp only [L2.KOf]
   refine' L2.aQ KX G ?a ?l ?c ?k;(case a=>k_is);(case l=>k_is);(case c=>k_is);(case k=>k_is)
  have wD:L2.aE (L2.KOf KX) mg "_law_square" Mine.ik:=by
   dsimp only [L2.KOf]
   refine' L2.aQ KX G ?a ?l ?c ?k;(case a=>k_is);(case l=>k_is);(case c=>k_is);(case k=>k_is)
  have Aa:L2.aE (L2.KOf KX) mg "_law_added" Mine.hV:=by
   dsimp only [L2.KOf]
   refine' L2.aQ KX G ?a ?l ?c ?k;(case a=>k_is);(case l=>k_is);(case c=>k_is);(case k=>k_is)
  have Dp:L2.aE (L2.KOf KX) mg "_law_fold" Mine.oJ:=by
   dsimp only [L2.KOf]
   refine' L2.aQ KX G ?a ?l ?c ?k;(case a=>k_is);(case l=>k_is);(case c=>k_is);(case k=>k_is)
  have zW:L2.aE (L2.KOf KX) mg "_law_rules" Mine.hJ:=by
   dsimp only [L2.KOf]
   refine' L2.aQ KX G ?a ?l ?c ?k;(case a=>k_is);(case l=>k_is);(case c=>k_is);(case k=>k_is)
  have wG:L2.aE (L2.KOf KX) mg "_law_saying" Mine.gh:=by
   dsimp only [L2.KOf]
   refine' L2.aQ KX G ?a ?l ?c ?k;(case a=>k_is);(case l=>k_is);(case c=>k_is);(case k=>k_is)
  have wH:L2.aE (L2.KOf KX) mg "_law_object" Mine.jM:=by
   dsimp only [L2.KOf]
   refine' L2.aQ KX G ?a ?l ?c ?k;(case a=>k_is);(case l=>k_is);(case c=>k_is);(case k=>k_is)
  have T_l_put:L2.aE (L2.KOf KX) mg "_law_put" Mine.rq:=by
   dsimp only [L2.KOf]
   refine' L2.aQ KX G ?a ?l ?c ?k;(case a=>k_is);(case l=>k_is);(case c=>k_is);(case k=>k_is)
  have ve:L2.aE (L2.KOf KX) mg "_law_rows_of" Mine.iT:=by
   dsimp only [L2.KOf]
   refine' L2.aQ KX G ?a ?l ?c ?k;(case a=>k_is);(case l=>k_is);(case c=>k_is);(case k=>k_is)
  have wI:L2.aE (L2.KOf KX) mg "_law_leaves" Mine.jN:=by
   dsimp only [L2.KOf]
   refine' L2.aQ KX G ?a ?l ?c ?k;(case a=>k_is);(case l=>k_is);(case c=>k_is);(case k=>k_is)
  have zY:L2.aE (L2.KOf KX) mg "_law_grown" Mine.lO:=by
   dsimp only [L2.KOf]
   refine' L2.aQ KX G ?a ?l ?c ?k;(case a=>k_is);(case l=>k_is);(case c=>k_is);(case k=>k_is)
  have pH:L2.aE (L2.KOf KX) mg "_law_other_rule" Mine.cf:=by
   dsimp only [L2.KOf]
   refine' L2.aQ KX G ?a ?l ?c ?k;(case a=>k_is);(case l=>k_is);(case c=>k_is);(case k=>k_is)
  have wF:L2.aE (L2.KOf KX) mg "_law_spoilt" Mine.jL:=by
   dsimp only [L2.KOf]
   refine' L2.aQ KX G ?a ?l ?c ?k;(case a=>k_is);(case l=>k_is);(case c=>k_is);(case k=>k_is)
  have jA:L2.aE (L2.KOf KX) mg "_law_begun_otherwise" Mine.dO:=by
   dsimp only [L2.KOf]
   refine' L2.aQ KX G ?a ?l ?c ?k;(case a=>k_is);(case l=>k_is);(case c=>k_is);(case k=>k_is)
  have sH:L2.aE (L2.KOf KX) mg "_law_fraction" Mine.il:=by
   dsimp only [L2.KOf]
   refine' L2.aQ KX G ?a ?l ?c ?k;(case a=>k_is);(case l=>k_is);(case c=>k_is);(case k=>k_is)
  have zX:L2.aE (L2.KOf KX) mg "_law_least" Mine.lN:=by
   dsimp only [L2.KOf]
   refine' L2.aQ KX G ?a ?l ?c ?k;(case a=>k_is);(case l=>k_is);(case c=>k_is);(case k=>k_is)
  have Dn:L2.aE (L2.KOf KX) mg "_law_near" Mine.oI:=by
   dsimp only [L2.KOf]
   refine' L2.aQ KX G ?a ?l ?c ?k;(case a=>k_is);(case l=>k_is);(case c=>k_is);(case k=>k_is)
  have T_l_due:L2.aE (L2.KOf KX) mg "_law_due" Mine.rz:=by
   dsimp only [L2.KOf]
   refine' L2.aQ KX G ?a ?l ?c ?k;(case a=>k_is);(case l=>k_is);(case c=>k_is);(case k=>k_is)
  have vf:L2.aE (L2.KOf KX) mg "_law_refused" Mine.iU:=by
   dsimp only [L2.KOf]
   refine' L2.aQ KX G ?a ?l ?c ?k;(case a=>k_is);(case l=>k_is);(case c=>k_is);(case k=>k_is)
  have T_law:L2.aE (L2.KOf KX) mg "law" Mine.gf:=by
   dsimp only [L2.KOf]
   refine' L2.aQ KX G ?a ?l ?c ?k;(case a=>k_is);(case l=>k_is);(case c=>k_is);(case k=>k_is)
  have dN:mg "len"=none:=by
   refine' PySem.W.mg_none_of KX G ?z;(case z=>k_is)
  have gk:mg "abs"=none:=by
   refine' PySem.W.mg_none_of KX G ?z;(case z=>k_is)
  have dE:mg "isinstance"=none:=by
   refine' PySem.W.mg_none_of KX G ?z;(case z=>k_is)
  have wB:mg "bool"=none:=by
   refine' PySem.W.mg_none_of KX G ?z;(case z=>k_is)
  have mY:mg "int"=none:=by
   refine' PySem.W.mg_none_of KX G ?z;(case z=>k_is)
  have bI:mg "tuple"=none:=by
   refine' PySem.W.mg_none_of KX G ?z;(case z=>k_is)
  have jw:mg "range"=none:=by
   refine' PySem.W.mg_none_of KX G ?z;(case z=>k_is)
  have Z_list:mg "list"=none:=by
   refine' PySem.W.mg_none_of KX G ?z;(case z=>k_is)
  have ib:mg "min"=none:=by
   refine' PySem.W.mg_none_of KX G ?z;(case z=>k_is)
  have gG:mg "max"=none:=by
   refine' PySem.W.mg_none_of KX G ?z;(case z=>k_is)
  have qV:mg "all"=none:=by
   refine' PySem.W.mg_none_of KX G ?z;(case z=>k_is)
  have Dm:mg "any"=none:=by
   refine' PySem.W.mg_none_of KX G ?z;(case z=>k_is)
  have bD:mg "enumerate"=none:=by
   refine' PySem.W.mg_none_of KX G ?z;(case z=>k_is)
  have iD:mg "zip"=none:=by
   refine' PySem.W.mg_none_of KX G ?z;(case z=>k_is)
  have kb:kitOne (L2.KOf KX) (.type "int") (.type "bool")=some false:=by
   dsimp only [L2.KOf]
   first | k_is | kit_is
  have AA:∃ c,Mine.AllF (L2.KOf KX) mg c:=by
   dsimp only [L2.KOf]
   refine' Mine.all_mk KX G ?n_ne ?n_al ?n_le ?n_no ?n_mo ?n_ls ?n_gr ?n_lr ?n_ld ?c_ne ?c_al ?c_le ?c_no ?c_mo ?c_ls ?c_gr ?c_lr ?c_ld ?h_ne ?h_al ?h_le ?h_no ?h_mo ?h_ls ?h_gr ?h_lr ?h_ld ?m_ne ?m_al ?m_le ?m_no ?m_mo ?m_ls ?m_gr ?m_lr ?m_ld ?s_ne ?s_al ?s_le ?s_no ?s_mo ?s_ls ?s_gr ?s_lr ?s_ld ?hn ?tk ?a_name ?a_part ?a_one_mo ?a_one_ls ?a_one_gr ?a_one_lr ?a_one_ld ?a_other_mo ?a_other_ls ?a_other_gr ?a_other_lr ?a_other_ld ?g_madeS_ne ?g_madeS_al ?g_madeS_le ?e_madeS ?g_piecesS_ne ?g_piecesS_al ?g_piecesS_le ?e_piecesS ?g_laid_ne ?g_laid_al ?g_laid_le ?g_laid_no ?g_laid_mo ?g_laid_ls ?g_laid_gr ?g_laid_lr ?g_laid_ld ?e_laid ?g_told_ne ?g_told_al ?g_told_le ?g_told_no ?g_told_mo ?g_told_ls ?g_told_gr ?g_told_lr ?g_told_ld ?e_told ?g_parts_ne ?g_parts_al ?g_parts_le ?g_parts_no ?g_parts_mo ?g_parts_ls ?g_parts_gr ?g_parts_lr ?g_parts_ld ?e_parts ?g_foldsS_ne ?g_foldsS_al ?g_foldsS_le ?g_foldsS_no ?g_foldsS_mo ?g_foldsS_ls ?g_foldsS_gr ?g_foldsS_lr ?g_foldsS_ld ?e_foldsS ?g_Kne_ne ?e_Kne ?g_Kal_al ?e_Kal ?g_Kle_le ?e_Kle ?g_Kno_no ?e_Kno ?g_Mno_no ?e_Mno ?g_Pno_no ?e_Pno ?g_Mfo_mo ?g_Mfo_ls ?g_Mfo_gr ?g_Mfo_lr ?g_Mfo_ld ?e_Mfo ?g_Pfo_mo ?g_Pfo_ls ?g_Pfo_gr ?g_Pfo_lr ?g_Pfo_ld ?e_Pfo ?g_F0mo_mo ?e_F0mo ?g_F0ls_ls ?e_F0ls ?g_F0gr_gr ?e_F0gr ?g_F0lr_lr ?e_F0lr ?g_F0ld_ld ?e_F0ld ?g_ile_le ?e_ile ?g_ino_no ?e_ino ?g_ifo_mo ?g_ifo_ls ?g_ifo_gr ?g_ifo_lr ?g_ifo_ld ?e_ifo ?i_ne ?i_al ?y_ne ?y_al ?y_le ?y_no ?y_mo ?y_ls ?y_gr ?y_lr ?y_ld ?z_ne ?z_al ?z_le ?z_no ?z_mo ?z_ls ?z_gr ?z_lr ?z_ld
   (case n_ne=>k_is)
   (case n_al=>k_is)
   (case n_le=>k_is)
   (case n_no=>k_is)
   (case n_mo=>k_is)
   (case n_ls=>k_is)
   (case n_gr=>k_is)
   (case n_lr=>k_is)
   (case n_ld=>k_is)
   (case c_ne=>refine' ⟨?q1,?q2,?q3,?q4⟩;(case q1=>k_is);(case q2=>k_is);(case q3=>k_is);(case q4=>k_is))
   (case c_al=>refine' ⟨?q1,?q2,?q3,?q4⟩;(case q1=>k_is);(case q2=>k_is);(case q3=>k_is);(case q4=>k_is))
   (case c_le=>refine' ⟨?q1,?q2,?q3,?q4⟩;(case q1=>k_is);(case q2=>k_is);(case q3=>k_is);(case q4=>k_is))
   (case c_no=>refine' ⟨?q1,?q2,?q3,?q4⟩;(case q1=>k_is);(case q2=>k_is);(case q3=>k_is);(case q4=>k_is))
   (case c_mo=>refine' ⟨?q1,?q2,?q3,?q4⟩;(case q1=>k_is);(case q2=>k_is);(case q3=>k_is);(case q4=>k_is))
   (case c_ls=>refine' ⟨?q1,?q2,?q3,?q4⟩;(case q1=>k_is);(case q2=>k_is);(case q3=>k_is);(case q4=>k_is))
   (case c_gr=>refine' ⟨?q1,?q2,?q3,?q4⟩;(case q1=>k_is);(case q2=>k_is);(case q3=>k_is);(case q4=>k_is))
   (case c_lr=>refine' ⟨?q1,?q2,?q3,?q4⟩;(case q1=>k_is);(case q2=>k_is);(case q3=>k_is);(case q4=>k_is))
   (case c_ld=>refine' ⟨?q1,?q2,?q3,?q4⟩;(case q1=>k_is);(case q2=>k_is);(case q3=>k_is);(case q4=>k_is))
   (case h_ne=>k_is)
   (case h_al=>k_is)
   (case h_le=>k_is)
   (case h_no=>k_is)
   (case h_mo=>k_is)
   (case h_ls=>k_is)
   (case h_gr=>k_is)
   (case h_lr=>k_is)
   (case h_ld=>k_is)
   (case m_ne=>k_is)
   (case m_al=>k_is)
   (case m_le=>k_is)
   (case m_no=>k_is)
   (case m_mo=>k_is)
   (case m_ls=>k_is)
   (case m_gr=>k_is)
   (case m_lr=>k_is)
   (case m_ld=>k_is)
   (case s_ne=>first | k_is | kit_is)
   (case s_al=>first | k_is | kit_is)
   (case s_le=>first | k_is | kit_is)
   (case s_no=>first | k_is | kit_is)
   (case s_mo=>first | k_is | kit_is)
   (case s_ls=>first | k_is | kit_is)
   (case s_gr=>first | k_is | kit_is)
   (case s_lr=>first | k_is | kit_is)
   (case s_ld=>first | k_is | kit_is)
   (case hn=>k_is)
   (case tk=>k_is)
   (case a_name=>k_is)
   (case a_part=>k_is)
   (case a_one_mo=>k_is)
   (case a_one_ls=>k_is)
   (case a_one_gr=>k_is)
   (case a_one_lr=>k_is)
   (case a_one_ld=>k_is)
   (case a_other_mo=>k_is)
   (case a_other_ls=>k_is)
   (case a_other_gr=>k_is)
   (case a_other_lr=>k_is)
   (case a_other_ld=>k_is)
   (case g_madeS_ne=>k_is)
   (case g_madeS_al=>k_is)
   (case g_madeS_le=>k_is)
   (case e_madeS=>refine' L2.bG ?l ?c ?k ?fn;(case l=>k_is);(case c=>k_is);(case k=>k_is);(case fn=>k_is))
   (case g_piecesS_ne=>k_is)
   (case g_piecesS_al=>k_is)
   (case g_piecesS_le=>k_is)
   (case e_piecesS=>refine' L2.bG ?l ?c ?k ?fn;(case l=>k_is);(case c=>k_is);(case k=>k_is);(case fn=>k_is))
   (case g_laid_ne=>k_is)
   (case g_laid_al=>k_is)
   (case g_laid_le=>k_is)
   (case g_laid_no=>k_is)
   (case g_laid_mo=>k_is)
   (case g_laid_ls=>k_is)
   (case g_laid_gr=>k_is)
   (case g_laid_lr=>k_is)
   (case g_laid_ld=>k_is)
   (case e_laid=>refine' L2.bG ?l ?c ?k ?fn;(case l=>k_is);(case c=>k_is);(case k=>k_is);(case fn=>k_is))
   (case g_told_ne=>k_is)
   (case g_told_al=>k_is)
   (case g_told_le=>k_is)
   (case g_told_no=>k_is)
   (case g_told_mo=>k_is)
   (case g_told_ls=>k_is)
   (case g_told_gr=>k_is)
   (case g_told_lr=>k_is)
   (case g_told_ld=>k_is)
   (case e_told=>refine' L2.bG ?l ?c ?k ?fn;(case l=>k_is);(case c=>k_is);(case k=>k_is);(case fn=>k_is))
   (case g_parts_ne=>k_is)
   (case g_parts_al=>k_is)
   (case g_parts_le=>k_is)
   (case g_parts_no=>k_is)
   (case g_parts_mo=>k_is)
   (case g_parts_ls=>k_is)
   (case g_parts_gr=>k_is)
   (case g_parts_lr=>k_is)
   (case g_parts_ld=>k_is)
   (case e_parts=>refine' L2.bG ?l ?c ?k ?fn;(case l=>k_is);(case c=>k_is);(case k=>k_is);(case fn=>k_is))
   (case g_foldsS_ne=>k_is)
   (case g_foldsS_al=>k_is)
   (case g_foldsS_le=>k_is)
   (case g_foldsS_no=>k_is)
   (case g_foldsS_mo=>k_is)
   (case g_foldsS_ls=>k_is)
   (case g_foldsS_gr=>k_is)
   (case g_foldsS_lr=>k_is)
   (case g_foldsS_ld=>k_is)
   (case e_foldsS=>refine' L2.bG ?l ?c ?k ?fn;(case l=>k_is);(case c=>k_is);(case k=>k_is);(case fn=>k_is))
   (case g_Kne_ne=>k_is)
   (case e_Kne=>refine' L2.bG ?l ?c ?k ?fn;(case l=>k_is);(case c=>k_is);(case k=>k_is);(case fn=>k_is))
   (case g_Kal_al=>k_is)
   (case e_Kal=>refine' L2.bG ?l ?c ?k ?fn;(case l=>k_is);(case c=>k_is);(case k=>k_is);(case fn=>k_is))
   (case g_Kle_le=>k_is)
   (case e_Kle=>refine' L2.bG ?l ?c ?k ?fn;(case l=>k_is);(case c=>k_is);(case k=>k_is);(case fn=>k_is))
   (case g_Kno_no=>k_is)
   (case e_Kno=>refine' L2.bG ?l ?c ?k ?fn;(case l=>k_is);(case c=>k_is);(case k=>k_is);(case fn=>k_is))
   (case g_Mno_no=>k_is)
   (case e_Mno=>refine' L2.bG ?l ?c ?k ?fn;(case l=>k_is);(case c=>k_is);(case k=>k_is);(case fn=>k_is))
   (case g_Pno_no=>k_is)
   (case e_Pno=>refine' L2.bG ?l ?c ?k ?fn;(case l=>k_is);(case c=>k_is);(case k=>k_is);(case fn=>k_is))
   (case g_Mfo_mo=>k_is)
   (case g_Mfo_ls=>k_is)
   (case g_Mfo_gr=>k_is)
   (case g_Mfo_lr=>k_is)
   (case g_Mfo_ld=>k_is)
   (case e_Mfo=>refine' L2.bG ?l ?c ?k ?fn;(case l=>k_is);(case c=>k_is);(case k=>k_is);(case fn=>k_is))
   (case g_Pfo_mo=>k_is)
   (case g_Pfo_ls=>k_is)
   (case g_Pfo_gr=>k_is)
   (case g_Pfo_lr=>k_is)
   (case g_Pfo_ld=>k_is)
   (case e_Pfo=>refine' L2.bG ?l ?c ?k ?fn;(case l=>k_is);(case c=>k_is);(case k=>k_is);(case fn=>k_is))
   (case g_F0mo_mo=>k_is)
   (case e_F0mo=>refine' L2.bG ?l ?c ?k ?fn;(case l=>k_is);(case c=>k_is);(case k=>k_is);(case fn=>k_is))
   (case g_F0ls_ls=>k_is)
   (case e_F0ls=>refine' L2.bG ?l ?c ?k ?fn;(case l=>k_is);(case c=>k_is);(case k=>k_is);(case fn=>k_is))
   (case g_F0gr_gr=>k_is)
   (case e_F0gr=>refine' L2.bG ?l ?c ?k ?fn;(case l=>k_is);(case c=>k_is);(case k=>k_is);(case fn=>k_is))
   (case g_F0lr_lr=>k_is)
   (case e_F0lr=>refine' L2.bG ?l ?c ?k ?fn;(case l=>k_is);(case c=>k_is);(case k=>k_is);(case fn=>k_is))
   (case g_F0ld_ld=>k_is)
   (case e_F0ld=>refine' L2.bG ?l ?c ?k ?fn;(case l=>k_is);(case c=>k_is);(case k=>k_is);(case fn=>k_is))
   (case g_ile_le=>k_is)
   (case e_ile=>refine' L2.bG ?l ?c ?k ?fn;(case l=>k_is);(case c=>k_is);(case k=>k_is);(case fn=>k_is))
   (case g_ino_no=>k_is)
   (case e_ino=>refine' L2.bG ?l ?c ?k ?fn;(case l=>k_is);(case c=>k_is);(case k=>k_is);(case fn=>k_is))
   (case g_ifo_mo=>k_is)
   (case g_ifo_ls=>k_is)
   (case g_ifo_gr=>k_is)
   (case g_ifo_lr=>k_is)
   (case g_ifo_ld=>k_is)
   (case e_ifo=>refine' L2.bG ?l ?c ?k ?fn;(case l=>k_is);(case c=>k_is);(case k=>k_is);(case fn=>k_is))
   (case i_ne=>k_is)
   (case i_al=>k_is)
   (case y_ne=>k_is)
   (case y_al=>k_is)
   (case y_le=>k_is)
   (case y_no=>k_is)
   (case y_mo=>k_is)
   (case y_ls=>k_is)
   (case y_gr=>k_is)
   (case y_lr=>k_is)
   (case y_ld=>k_is)
   (case z_ne=>k_is)
   (case z_al=>k_is)
   (case z_le=>k_is)
   (case z_no=>k_is)
   (case z_mo=>k_is)
   (case z_ls=>k_is)
   (case z_gr=>k_is)
   (case z_lr=>k_is)
   (case z_ld=>k_is)
  obtain ⟨c,AF⟩:=AA
  have CC:∃ CT CN CF,Mine.X47 (L2.KOf KX) mg CT CN CF:=by
   dsimp only [L2.KOf]
   refine' Mine.cls47 KX G ?mCT ?mCN ?mCF ?xt ?xn ?t6 ?t7 ?t8 ?st ?n6 ?n7 ?n8 ?sn ?mne ?kne ?mal ?kal ?mle ?kle ?mno ?kno ?mmo ?kmo ?mls ?kls ?mgr ?kgr ?mlr ?klr ?mld ?kld
   (case mCT=>k_is)
   (case mCN=>k_is)
   (case mCF=>k_is)
   (case xt=>k_exc)
   (case xn=>k_exc)
   (case t6=>k_is)
   (case t7=>k_is)
   (case t8=>k_is)
   (case st=>k_is)
   (case n6=>k_is)
   (case n7=>k_is)
   (case n8=>k_is)
   (case sn=>k_is)
   (case mne=>k_is)
   (case kne=>first | k_is | kit_is)
   (case mal=>k_is)
   (case kal=>first | k_is | kit_is)
   (case mle=>k_is)
   (case kle=>first | k_is | kit_is)
   (case mno=>k_is)
   (case kno=>first | k_is | kit_is)
   (case mmo=>k_is)
   (case kmo=>first | k_is | kit_is)
   (case mls=>k_is)
   (case kls=>first | k_is | kit_is)
   (case mgr=>k_is)
   (case kgr=>first | k_is | kit_is)
   (case mlr=>k_is)
   (case klr=>first | k_is | kit_is)
   (case mld=>k_is)
   (case kld=>first | k_is | kit_is)
  obtain ⟨CT,CN,CF,XF⟩:=CC
  have fS:L2.fg (L2.KOf KX) mg "NEVER" [0,0,0]:=by
   dsimp only [L2.KOf]
   refine' L2.je (ns:=[0,0,0]) KX G ?e ?l ?z ?v;(case e=>k_is);(case l=>k_is);(case z=>decide);(case v=>exact (.cons ⟨_,rfl⟩ (.cons ⟨_,rfl⟩ (.cons ⟨_,rfl⟩ .nil))))
  have eQ:L2.fg (L2.KOf KX) mg "ALWAYS" [0,0,1]:=by
   dsimp only [L2.KOf]
   refine' L2.je (ns:=[0,0,1]) KX G ?e ?l ?z ?v;(case e=>k_is);(case l=>k_is);(case z=>decide);(case v=>exact (.cons ⟨_,rfl⟩ (.cons ⟨_,rfl⟩ (.cons ⟨_,rfl⟩ .nil))))
  have jZ:L2.fg (L2.KOf KX) mg "LETTER_P" [1,0,0]:=by
   dsimp only [L2.KOf]
   refine' L2.je (ns:=[1,0,0]) KX G ?e ?l ?z ?v;(case e=>k_is);(case l=>k_is);(case z=>decide);(case v=>exact (.cons ⟨_,rfl⟩ (.cons ⟨_,rfl⟩ (.cons ⟨_,rfl⟩ .nil))))
  have jY:L2.fg (L2.KOf KX) mg "LETTER_Q" [0,1,0]:=by
   dsimp only [L2.KOf]
   refine' L2.je (ns:=[0,1,0]) KX G ?e ?l ?z ?v;(case e=>k_is);(case l=>k_is);(case z=>decide);(case v=>exact (.cons ⟨_,rfl⟩ (.cons ⟨_,rfl⟩ (.cons ⟨_,rfl⟩ .nil))))
  have P_LEAF:Mine.wC (L2.KOf KX) mg "LEAF" "leaf":=by
   dsimp only [L2.KOf]
   refine' Mine.yA KX G ?e ?l ?z ?v;(case e=>k_is);(case l=>k_is);(case z=>decide);(case v=>exact (.cons ⟨_,rfl⟩ .nil))
  have I_MOST:∃ t,mg "MOST_FOLDS"=some (.int 8 t):=by
   refine' L2.yB KX G ?ie ?iq;(case ie=>k_is);(case iq=>exact ⟨_,rfl⟩)
  obtain ⟨tm,wL⟩:=I_MOST
  obtain ⟨f,fd,F,m⟩:=T_law.ex
  have e:=hmg.symm.trans m
  cases e
  obtain ⟨oc,od,kV,doc,pm,an,cdv,ct,osl,hfd,lk,hcd⟩:=id F.ex
  subst hfd
  refine ⟨PySem.W.fnOf "law" "law" (L2.eP Mine.sLaw) (L2.aY Mine.sLaw) (L2.ak Mine.sLaw) .none kV doc pm an cdv ct,λs u=>.of_eq rfl,λbase kb' nb=>?_⟩
  have M:=Mine.ms (P:=PySem.Challenge.rw_leansay_k47_whole_looker.prog) (w:=w) (base:=base) AF
  obtain ⟨kl,kn,kf⟩:=Mine.mks (P:=PySem.Challenge.rw_leansay_k47_whole_looker.prog) (w:=w) (base:=base) AF
  have GL:∀ t,L2.bw PySem.Challenge.rw_leansay_k47_whole_looker.prog w (L2.KOf KX) mg base (c.of t) "laid_out" 2 ["self"] (Mine.rh c t):=λt=>Mine.ok_laid (AF.laid t) M
  have GF:∀ t,L2.bw PySem.Challenge.rw_leansay_k47_whole_looker.prog w (L2.KOf KX) mg base (c.of t) "folds" 3 ["self"] (Mine.iN c t):=λt=>Mine.yW (AF.foldsS t) dN dE XF.mF AF.fx (XF.kf AF) GL
  have dRowsOf:=Mine.yU zU dN bI M GL
  have dFactor:=Mine.yX (P:=PySem.Challenge.rw_leansay_k47_whole_looker.prog) (w:=w) (base:=base) ny gk
  have dTold:=Mine.ok_told (P:=PySem.Challenge.rw_leansay_k47_whole_looker.prog) (w:=w) (base:=base) zT
  have dTells:=Mine.BH (P:=PySem.Challenge.rw_leansay_k47_whole_looker.prog) (w:=w) (base:=base) zV
  have dTic:=Mine.ok_tic lj dTold
  have dCut:=Mine.ok_cut T_cut XF.mN XF.xN ib gG bD dN dTic (Mine.ok_cb mq iD gk bI dFactor)
  have dLcut:=Mine.ok_lcut T_l_cut ib gG bD dN dTells (Mine.vV vi jw gk bI (Mine.xS (P:=PySem.Challenge.rw_leansay_k47_whole_looker.prog) (w:=w) (base:=base) vg))
  have dWithout:=Mine.vQ (P:=PySem.Challenge.rw_leansay_k47_whole_looker.prog) (w:=w) (base:=base) zR iD bI
  have dChoice:=Mine.yZ vk dN fS eQ dWithout (Mine.ok_leaf va fS eQ jZ jY) (Mine.ok_fold pU fS eQ (Mine.ok_both (P:=PySem.Challenge.rw_leansay_k47_whole_looker.prog) (w:=w) (base:=base) T_both iD bI) dWithout)
  have dRules:=Mine.BJ nr bD dChoice (Mine.yY vj gG ib dTic)
  have dHulls:=Mine.BU wJ (Mine.ok_sq (P:=PySem.Challenge.rw_leansay_k47_whole_looker.prog) (w:=w) (base:=base) uZ) dCut
  have dRil:=Mine.ok_ril lx Dm iD XF.mN XF.cn XF.sn dHulls dRules
  have dCutting:=Mine.BZ Ab GF (Mine.BW (P:=PySem.Challenge.rw_leansay_k47_whole_looker.prog) (w:=w) (base:=base) gR wL) (Mine.ok_sq (P:=PySem.Challenge.rw_leansay_k47_whole_looker.prog) (w:=w) (base:=base) uZ) dRowsOf (Mine.yR zS P_LEAF dRules dCut 9)
  have dHo := Mine.ok_holds T_holds qV GF (Mine.BW (P := PySem.Challenge.rw_leansay_k47_whole_looker.prog) (w := w) (base := base) gR wL) dRowsOf dRil (Mine.ok_on47 nu qV (Mine.ok_at nv dTold))
  have dRef := Mine.BK vf XF.mT XF.ct XF.st (Mine.ok_hoX T_holds GF (Mine.ok_fewX (P := PySem.Challenge.rw_leansay_k47_whole_looker.prog) (w := w) (base := base) gR wL XF.mT XF.xT))
  have dDrawn:=Mine.BY zZ mY (Mine.Ca (P:=PySem.Challenge.rw_leansay_k47_whole_looker.prog) (w:=w) (base:=base) vh dN)
  have dAdd:=Mine.Cc (P:=PySem.Challenge.rw_leansay_k47_whole_looker.prog) (w:=w) (base:=base) Aa jw bI
  have dLrules:=Mine.yV zW bD mY ib gG dAdd (Mine.BQ Dp dAdd) dTells
  have dSq:=Mine.ok_lsq (P:=PySem.Challenge.rw_leansay_k47_whole_looker.prog) (w:=w) (base:=base) wD
  have dGrown:=Mine.BV zY dLcut dLrules 9
  have dLeaves:=Mine.tX wI dLcut 13
  have dBegun:=Mine.Cb jA (Mine.yT (P:=PySem.Challenge.rw_leansay_k47_whole_looker.prog) (w:=w) (base:=base) vd) dSq dLcut dGrown
  have dSpoilt:=Mine.yS wF (Mine.BN (P:=PySem.Challenge.rw_leansay_k47_whole_looker.prog) (w:=w) (base:=base) pH bI) 10
  have dDue:=Mine.BX T_l_due dSq dLeaves dLrules dTells
  have dPart:=Mine.xS (P:=PySem.Challenge.rw_leansay_k47_whole_looker.prog) (w:=w) (base:=base) vg
  have dFrac:=Mine.ok_frac sH gk dPart
  have dLeast:=Mine.BR zX dSq dGrown dLeaves dLrules dTells dFrac
  exact Mine.ok_law F dE wB dDrawn (Mine.BI wG dDrawn 13) (Mine.BO wH dN AF.o_ne AF.r_ne AF.o_al AF.r_al kl kn kf 50) dRef (Mine.vT ve (Mine.BL (P:=PySem.Challenge.rw_leansay_k47_whole_looker.prog) (w:=w) (base:=base) T_l_put 60)) dBegun dGrown dCutting dSq dSpoilt dLeast (Mine.ok_near Dn dFrac) dDue dHo
 case S=>exact λK H a ns hl hb hO hS=>⟨a,ns,rfl,Mine.scr_of hO hS hl hb,λ_=>rfl⟩
 case C=>exact λ_ _ _ _ z=>z
