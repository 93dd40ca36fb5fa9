import PyProof.Rows.All
import Wide.All
import OpenK.AllK
import Wide.FinOn
import Lean
import PyProof.EqAt
import PyProof.EqKinds
import PyProof.TupleCall
import KE.KRevIter
import PyProof.ListNew
import PyProof.NeKinds
import PyProof.StrBlockL
import KE.LcSums
import PyProof.Rows.EqDataRows
import PyProof.Draws
import PyProof.EnumMake
import PyProof.ZipIter
import PyProof.WalksMore
import PyProof.P3In
import PyProof.IsRules
import KE.KLcPair
import PyProof.Rows.Range3
import PyProof.Rows.MinMaxN
import KE.KTab
import PyProof.Rows.SumAny
import PyProof.ExcClass2
import PyProof.ExcInit
import PyProof.StationsW
import PyProof.InstStoreFacts
import PySem.Challenge.RW_leansay_k50_whole_least_worths
set_option Elab.async false
set_option linter.all false
set_option maxRecDepth 100000
namespace L2
open PySem PySem.Spec PyProof.Rows
noncomputable abbrev Key:=Sum Int Str
noncomputable def rK:Key->Value->Bool
 | .inl k,v=>Value.isInt k v
 | .inr x,v=>Value.isStrOf x v
noncomputable def keyH (w:World):Key->Int
 | .inl k=>hashInt k
 | .inr x=>hashStr w x
theorem cA:∀{k:Key} {v:Value},rK k v=true->(∃ i t,k=Sum.inl i/\v=Value.int i t)\/(∃ x t,k=Sum.inr x/\v=Value.str x t)
 | .inl i,v,h=>by
  obtain ⟨t,e⟩:=Value.isInt_shape (k:=i) (v:=v) h
  exact .inl ⟨i,t,rfl,e⟩
 | .inr x,v,h=>by
  obtain ⟨t,e⟩:=Value.isStrOf_shape (x:=x) (v:=v) h
  exact .inr ⟨x,t,rfl,e⟩
theorem Bh (i:Int) (t:Tok):rK (.inl i) (.int i t)=true:=by simp [rK,Value.isInt]
theorem Bf (x:Str) (t:Tok):rK (.inr x) (.str x t)=true:=by simp [rK,Value.isStrOf]
theorem key_ll (a b:Int):decide ((Sum.inl a:Key)=Sum.inl b)=(a == b):=by
 by_cases e:a=b
 ·subst e;simp
 ·have h:¬ (Sum.inl a:Key)=Sum.inl b:=λq=>e (Sum.inl.inj q)
  rw [decide_eq_false h]
  exact (beq_eq_false_iff_ne.mpr e).symm
theorem key_rr (a b:Str):decide ((Sum.inr a:Key)=Sum.inr b)=decide (a=b):=by
 by_cases e:a=b
 ·subst e;simp
 ·have h:¬ (Sum.inr a:Key)=Sum.inr b:=λq=>e (Sum.inr.inj q)
  rw [decide_eq_false h,decide_eq_false e]
theorem key_lr (a:Int) (b:Str):decide ((Sum.inl a:Key)=Sum.inr b)=false:=decide_eq_false (λq=>nomatch q)
theorem key_rl (a:Str) (b:Int):decide ((Sum.inr a:Key)=Sum.inl b)=false:=decide_eq_false (λq=>nomatch q)
noncomputable def cH (prog:Program) (w:World):PySem.KeyKind prog w Key where
 is:=rK
 hash:=keyH w
 inj:=λv a b ha hb=>by
  rcases cA ha with ⟨i,t,rfl,rfl⟩ | ⟨x,t,rfl,rfl⟩
  ·rcases cA hb with ⟨j,u,rfl,e⟩ | ⟨y,u,rfl,e⟩
   ·injection e with e1 _;rw [e1]
   ·exact nomatch e
  ·rcases cA hb with ⟨j,u,rfl,e⟩ | ⟨y,u,rfl,e⟩
   ·exact nomatch e
   ·injection e with e1 _;rw [e1]
 byValue:=λk v h=>by
  rcases cA h with ⟨i,t,rfl,rfl⟩ | ⟨x,t,rfl,rfl⟩ <;> rfl
 pyHash:=λhv h=>by
  rcases cA hv with ⟨i,t,rfl,rfl⟩ | ⟨x,t,rfl,rfl⟩
  ·exact wpAny_pyHash_int h
  ·exact wpAny_pyHash_str h
 eqBool:=λhu hv h=>by
  rcases cA hu with ⟨i,t,rfl,rfl⟩ | ⟨x,t,rfl,rfl⟩
  ·rcases cA hv with ⟨j,u,rfl,rfl⟩ | ⟨y,u,rfl,rfl⟩
   ·rw [key_ll] at h;exact wpAny_eqBool_int h
   ·rw [key_lr] at h;exact SeqAt.EqAt.int_str i t y u _ _ _ _ h
  ·rcases cA hv with ⟨j,u,rfl,rfl⟩ | ⟨y,u,rfl,rfl⟩
   ·rw [key_rl] at h;exact SeqAt.EqAt.str_int x t j u _ _ _ _ h
   ·rw [key_rr] at h;exact wpAny_eqBool_str h
 «strs»:=λk x t v h=>by
  rcases cA h with ⟨i,u,rfl,e⟩ | ⟨y,u,rfl,e⟩
  ·exact nomatch e
  ·injection e with e1 _
   subst e1
   cases v <;> rfl
theorem vS (prog:Program) (w:World) (i:Int) (t:Tok):(cH prog w).is (.inl i) (.int i t)=true:=Bh i t
theorem vR (prog:Program) (w:World) (x:Str) (t:Tok):(cH prog w).is (.inr x) (.str x t)=true:=Bf x t
inductive V where
 | non | bl (b:Bool) | int (i:Int) | str (x:Str) | byt (b:Array UInt8) | flt (b:UInt64) | ref (a:Addr) | ty (n:String)
 deriving DecidableEq
noncomputable def RelV:V->Value->Prop
 | .non,u=>u=Value.none
 | .bl b,u=>u=Value.bool b
 | .int i,u=>∃ t,u=Value.int i t
 | .str x,u=>∃ t,u=Value.str x t
 | .byt b,u=>∃ t,u=Value.bytes b t
 | .flt b,u=>∃ t,u=Value.float b t
 | .ref a,u=>u=Value.ref a
 | .ty n,u=>u=Value.type n
noncomputable abbrev Vals:List V->List Value->Prop:=Paired RelV
theorem Vals.length {xs:List V} {us:List Value} (r:Vals xs us):xs.length=us.length:=Paired.length r
theorem Vals.get:∀{xs:List V} {us:List Value} {i:Nat} {x:V},Vals xs us->xs[i]?=some x->∃ u,us[i]?=some u/\RelV x u
 | _,_,_,_,.nil,e=>by simp at e
 | _,_,0,_,.cons r _,e=>by simp at e;subst e;exact ⟨_,rfl,r⟩
 | _,_,i+1,x,.cons _ t,e=>by
  obtain ⟨u,h1,h2⟩:=Vals.get (i:=i) (x:=x) t (by simpa using e)
  exact ⟨u,by simpa using h1,h2⟩
theorem Vals.set {x:V} {u:Value} (r:RelV x u):∀{xs:List V} {us:List Value} (i:Nat),Vals xs us->Vals (xs.set i x) (us.set i u)
 | _,_,_,.nil=>.nil
 | _,_,0,.cons _ t=>.cons r t
 | _,_,i+1,.cons q t=>.cons q (Vals.set r i t)
theorem Vals.append:∀{xs ys:List V} {us ws:List Value},Vals xs us->Vals ys ws->Vals (xs++ys) (us++ws)
 | _,_,_,_,.nil,s=>s
 | _,_,_,_,.cons r t,s=>.cons r (Vals.append t s)
theorem Vals.take:∀{xs:List V} {us:List Value} (n:Nat),Vals xs us->Vals (xs.take n) (us.take n)
 | _,_,0,_=>.nil
 | _,_,_+1,.nil=>.nil
 | _,_,n+1,.cons r t=>.cons r (Vals.take n t)
theorem Vals.drop:∀{xs:List V} {us:List Value} (n:Nat),Vals xs us->Vals (xs.drop n) (us.drop n)
 | _,_,0,r=>r
 | _,_,_+1,.nil=>.nil
 | _,_,n+1,.cons _ t=>Vals.drop n t
noncomputable def kq:Option V->Option Value->Prop
 | some v,some u=>RelV v u
 | none,none=>True
 | _,_=>False
noncomputable def KV {κ:Type}:List (κ×V)->List (κ×Value)->Prop:=Paired λ(p:κ×V) (q:κ×Value)=>p.1=q.1/\RelV p.2 q.2
noncomputable def kV:Key->V
 | .inl i=>.int i
 | .inr x=>.str x
inductive HO where
 | lst (xs:List V)
 | tup (xs:List V)
 | dK (kvs:List (Key×V)) | dT (kvs:List (List Key×V))
 | set (S:Int->Bool) (n:Nat)
 | ins (C dx:Addr) (fs:List (Str×V))
 | own (x:Addr)
 | xd (fs:List (Str×V))
 | met (f x:Addr)
 | rng (lo hi:Int)
 | frz (o:Obj) (u:HO)
 | tbl (ps:Array Value)
 | ext (φ:Heap->Prop)
noncomputable abbrev Hp:=Addr->Option HO
noncomputable def upd (H:Hp) (a:Addr) (o:HO):Hp:=λb=>if b=a then some o else H b
theorem ae {H:Hp} {a:Addr} {o:HO}:upd H a o a=some o:=by unfold upd;rw [if_pos rfl]
theorem au {H:Hp} {a b:Addr} {o:HO} (h:b≠a):upd H a o b=H b:=by unfold upd;rw [if_neg h]
theorem og {H:Hp} {a:Addr} {o u:HO}:upd (upd H a o) a u=upd H a u:=by
 funext b;unfold upd;split <;> rfl
theorem pP {H:Hp} {a b:Addr} {o u:HO} (h:H a=some o) (h':H b=some u) (d:o≠u):a≠b:=by
 intro e;subst e;rw [h] at h';exact d (Option.some.inj h')
theorem aw {H:Hp} {a b:Addr} {o:HO} (h:H a=some o) (h':H b=none):a≠b:=by
 intro e;subst e;rw [h] at h';cases h'
section
variable (P:Program) (w:World)
noncomputable def cf (H:Hp) (h:Heap) (a:Addr):HO->Prop
 | .lst xs=>xs.length<=sizeLine/\∃(its:List Value) (n:Nat),Vals xs its/\h.get? a=some {cls:=.type "list",data:=.seq its.toArray n}
 | .tup xs=>xs.length<=sizeLine/\∃ its:List Value,Vals xs its/\IsTup h a its.toArray
 | .dK kvs=>kvs.length<=sizeLine/\(a == sysModules)=false/\∃ vs,KV kvs vs/\h.DictOf (cH P w) a vs
 | .dT kvs=>kvs.length<=sizeLine/\(a == sysModules)=false/\∃ xs:List (List Key×Addr×Value),
   Paired (λ(p:List Key×V) (q:List Key×Addr×Value)=>p.1=q.1/\H q.2.1=some (.tup (p.1.map kV))/\RelV p.2 q.2.2) kvs xs/\
   ∃ o es ep,h.get? a=some o/\o.ExactDict/\o.data=.dict es ep/\es.toList=xs.map (entryOfKey (tupleKind (cH P w)))/\(xs.map (·.1)).Nodup
 | .set S n=>h.SetOf (intKind P w) a S n
 | .ins C dx fs=>H dx=some (.own a)/\fs.length<=1000/\dx≠a/\h.get? a=some (PySem.W.instObj C dx)/\
   ∃ mA,h.Ns1 dx mA/\(∀ f,kq (fs.lookup f) (mA f))/\PySem.Within mA (fs.map (·.1))
 | .own _=>∃ o,h.get? a=some o
 | .xd fs=>∃ mA,h.Ns1 a mA/\∀ f,kq (fs.lookup f) (mA f)
 | .rng lo hi=>∃ t u v,h.get? a=some {cls:=.type "range",data:=.fields #[.int lo t,.int hi u,.int 1 v] }
 | .frz o u=>h.get? a=some o/\cf H h a u
 | .tbl ps=>h.get? a=some {cls:=.none,data:=.fields ps}
 | .met f x=>h.get? a=some (PySem.W.methodObj (.ref f) (.ref x))
 | .ext φ=>φ h/\(∃ o,h.get? a=some o)/\∀ h1 h2:Heap,φ h1->(∀ o,h1.get? a=some o->h2.get? a=some o)->φ h2
noncomputable def HOk (H:Hp) (h:Heap):Prop:=∀ a o,H a=some o->cf P w H h a o
end
section
variable {P:Program} {w:World} {H H':Hp} {h h':Heap} {a:Addr} {o:HO}
theorem cf.lt (x:cf P w H h a o):a < h.objs.size:=by
 cases o with
 | lst xs=>obtain ⟨_,_,_,_,e⟩:=x;exact Heap.lt_size e
 | tup xs=>obtain ⟨_,_,_,p⟩:=x;exact p.lt
 | dK kvs=>obtain ⟨_,_,_,_,o,_,_,e,_⟩:=x;exact Heap.lt_size e
 | dT kvs=>obtain ⟨_,_,_,_,o,_,_,e,_⟩:=x;exact Heap.lt_size e
 | set S n=>obtain ⟨o,_,_,_,e,_⟩:=x;exact Heap.lt_size e
 | ins C dx fs=>obtain ⟨_,_,_,e,_⟩:=x;exact Heap.lt_size e
 | own y=>obtain ⟨_,e⟩:=x;exact Heap.lt_size e
 | xd fs=>obtain ⟨_,⟨_,_,_,e,_⟩,_⟩:=x;exact Heap.lt_size e
 | rng lo hi=>obtain ⟨_,_,_,e⟩:=x;exact Heap.lt_size e
 | frz ob u=>obtain ⟨e,_⟩:=x;exact Heap.lt_size e
 | tbl ps=>exact Heap.lt_size (show h.get? a=some _ from x)
 | met f y=>exact Heap.lt_size (show h.get? a=some _ from x)
 | ext φ=>obtain ⟨_,⟨_,e⟩,_⟩:=x;exact Heap.lt_size e
theorem Paired.mapP {α β:Type} {F G:α->β->Prop}:∀{l₁:List α} {l₂:List β},Paired F l₁ l₂->(∀ a b,F a b->G a b)->Paired G l₁ l₂
 | _,_,.nil,_=>.nil
 | _,_,.cons r t,f=>.cons (f _ _ r) (Paired.mapP t f)
theorem cf.stay (x:cf P w H h a o) (k:∀ b u,(b=a\/H b=some (.own a))->h.get? b=some u->h'.get? b=some u)
  (ho:∀ b,H b=some (.own a)->H' b=some (.own a)) (ht:∀ b xs,H b=some (.tup xs)->H' b=some (.tup xs)):cf P w H' h' a o:=by
 induction o with
 | lst xs=>obtain ⟨z,its,n,r,e⟩:=x;exact ⟨z,its,n,r,k _ _ (.inl rfl) e⟩
 | tup xs=>obtain ⟨z,its,r,ob,e,c⟩:=x;exact ⟨z,its,r,ob,k _ _ (.inl rfl) e,c⟩
 | dK kvs=>obtain ⟨z,y,vs,r,ob,es,ep,e,c⟩:=x;exact ⟨z,y,vs,r,ob,es,ep,k _ _ (.inl rfl) e,c⟩
 | dT kvs =>
  obtain ⟨z,y,xs,r,ob,es,ep,e,c⟩:=x
  exact ⟨z,y,xs,Paired.mapP r λp q z=>⟨z.1,ht _ _ z.2.1,z.2.2⟩,ob,es,ep,k _ _ (.inl rfl) e,c⟩
 | set S n=>obtain ⟨ob,es,ep,t,e,c⟩:=x;exact ⟨ob,es,ep,t,k _ _ (.inl rfl) e,c⟩
 | ins C dx fs =>
  obtain ⟨d,z,ne,e,mA,⟨od,es,ep,e2,c⟩,r⟩:=x
  exact ⟨ho _ d,z,ne,k _ _ (.inl rfl) e,mA,⟨od,es,ep,k _ _ (.inr d) e2,c⟩,r⟩
 | own y=>obtain ⟨ob,e⟩:=x;exact ⟨ob,k _ _ (.inl rfl) e⟩
 | xd fs=>obtain ⟨mA,⟨od,es,ep,e,c⟩,r⟩:=x;exact ⟨mA,⟨od,es,ep,k _ _ (.inl rfl) e,c⟩,r⟩
 | rng lo hi=>obtain ⟨t,u,v,e⟩:=x;exact ⟨t,u,v,k _ _ (.inl rfl) e⟩
 | frz ob u ih=>obtain ⟨e,q⟩:=x;exact ⟨k _ _ (.inl rfl) e,ih q⟩
 | tbl ps =>
  have e:h.get? a=some {cls:=.none,data:=.fields ps}:=x
  show h'.get? a=some {cls:=.none,data:=.fields ps}
  exact k a _ (.inl rfl) e
 | met f y =>
  have e:h.get? a=some (PySem.W.methodObj (.ref f) (.ref y)):=x
  show h'.get? a=some (PySem.W.methodObj (.ref f) (.ref y))
  exact k a _ (.inl rfl) e
 | ext φ=>obtain ⟨p,⟨o,e⟩,st⟩:=x;exact ⟨st _ _ p λo q=>k _ _ (.inl rfl) q,⟨o,k _ _ (.inl rfl) e⟩,st⟩
theorem HOk.lt (x:HOk P w H h) (e:H a=some o):a < h.objs.size:=(x a o e).lt
theorem HOk.fresh (x:HOk P w H h) (e:h.objs.size<=a):H a=none:=by
 cases q:H a with
 | none=>rfl
 | some u=>exact absurd (Nat.lt_of_lt_of_le (x.lt q) e) (Nat.lt_irrefl _)
theorem HOk.kept (x:HOk P w H h) (k:∀ b u,h.get? b=some u->h'.get? b=some u):HOk P w H h':=λa o e =>
 (x a o e).stay (λb u _ q=>k b u q) (λ_ q=>q) λ_ _ q=>q
theorem HOk.laid (x:HOk P w H h) (k:∀ b u,h.get? b=some u->h'.get? b=some u) (hp:h.objs.size<=a) (new:cf P w (upd H a o) h' a o):HOk P w (upd H a o) h':=λb u e=>by
 have hn:=x.fresh hp
 by_cases hb:b=a
 ·subst hb;rw [ae] at e;cases e;exact new
 ·rw [au hb] at e
  exact (x b u e).stay (λc v _ q=>k c v q) (λc q=>by rw [au (aw q hn)];exact q) λc xs q=>by rw [au (aw q hn)];exact q
end
noncomputable def Rd (H:Hp) (a:Addr) (u:HO):Prop:=H a=some u\/∃ o,H a=some (.frz o u)
theorem Rd.ok {P:Program} {w:World} {H:Hp} {h:Heap} {a:Addr} {u:HO} (r:Rd H a u) (x:HOk P w H h):cf P w H h a u:=by
 rcases r with r | ⟨o,r⟩
 ·exact x a u r
 ·obtain ⟨_,q⟩:=x a _ r
  exact q
noncomputable def Mut:Option HO->Prop
 | some (.lst _)=>True
 | some (.dK _)=>True
 | some (.dT _)=>True
 | some (.set _ _)=>True
 | some (.ins _ _ _)=>True
 | some (.ext _)=>True
 | _=>False
section
variable {P:Program} {w:World} {H:Hp} {h h':Heap} {x e:Addr} {o':HO}
theorem HOk.write (ok:HOk P w H h) (mu:Mut (H x)) (he:e=x\/H e=some (.own x)) (k:∀ b u,b≠e->h.get? b=some u->h'.get? b=some u) (heo:∃ u,h'.get? e=some u)
  (new:cf P w (upd H x o') h' x o'):HOk P w (upd H x o') h':=λb u q=>by
 have nown:∀ c y,H c=some (.own y)->c≠x:=λc y r z=>by subst z;rw [r] at mu;exact mu
 have ntup:∀ c xs,H c=some (.tup xs)->c≠x:=λc xs r z=>by subst z;rw [r] at mu;exact mu
 by_cases hb:b=x
 ·subst hb;rw [ae] at q;cases q;exact new
 ·rw [au hb] at q
  by_cases hbe:b=e
  ·have q':H b=some (.own x):=by
    rcases he with z | z
    ·exact absurd (hbe.trans z) hb
    ·rw [hbe];exact z
   rw [q] at q';cases q'
   obtain ⟨v,hv⟩:=heo
   exact ⟨v,by rw [hbe];exact hv⟩
  ·refine (ok b u q).stay (λc v hc r=>k c v ?_ r) (λc r=>by rw [au (nown c b r)];exact r) λc xs r=>by rw [au (ntup c xs r)];exact r
   rcases hc with rfl | hc
   ·exact hbe
   ·rintro rfl
    rcases he with z | z
    ·exact nown c b hc z
    ·rw [hc] at z;cases z;exact hb rfl
end
structure Un (fs ex:List Addr) (H H':Hp) (h h':Heap):Prop where
 keep:∀ b o,h.get? b=some o->H b=none->b ∉ fs->b ∉ ex->h'.get? b=some o
 slot:∀ b o,h.get? b=some o->H b=none->b∈fs->b ∉ ex->∃ sl,h'.get? b=some {o with slots:=sl}
 free:∀ b o,h.get? b=some o->H b=none->b ∉ ex->H' b=none
 there:∀ b o,h.get? b=some o->b ∉ ex->∃ o',h'.get? b=some o'
 tups:∀ b xs,H b=some (.tup xs)->H' b=some (.tup xs)
 frzs:∀ b o u,H b=some (.frz o u)->H' b=some (.frz o u)
 tbls:∀ b ps,H b=some (.tbl ps)->∃ more,H' b=some (.tbl (ps++more))
section
variable {fs fs' ex ex':List Addr} {H H1 H2:Hp} {h h1 h2 h':Heap} {a x e:Addr} {o:HO}
theorem Un.any (u:Un fs ex H H1 h h1) {b:Addr} {ob:Obj} (q:h.get? b=some ob) (n:H b=none) (hx:b ∉ ex):∃ sl,h1.get? b=some {ob with slots:=sl}:=by
 by_cases hb:b∈fs
 ·exact u.slot b ob q n hb hx
 ·exact ⟨ob.slots,u.keep b ob q n hb hx⟩
theorem Un.kept (k:∀ b u,h.get? b=some u->h'.get? b=some u):Un fs ex H H h h' :=
 ⟨λb ob q _ _ _=>k b ob q,λb ob q _ _ _=>⟨ob.slots,k b ob q⟩,λ_ _ _ n _=>n,λb ob q _=>⟨ob,k b ob q⟩,λ_ _ q=>q,λ_ _ _ q=>q,λ_ ps q=>⟨#[],by rw [q];simp⟩⟩
theorem Un.refl:Un fs ex H H h h:=Un.kept λ_ _ q=>q
theorem Un.laid (k:∀ b u,h.get? b=some u->h'.get? b=some u) (hp:h.objs.size<=a) (hn:H a=none):Un fs ex H (upd H a o) h h' where
 keep:=λb u q _ _ _=>k b u q
 slot:=λb u q _ _ _=>⟨u.slots,k b u q⟩
 free:=λb u q n _=>by rw [au (Nat.ne_of_lt (Nat.lt_of_lt_of_le (Heap.lt_size q) hp))];exact n
 there:=λb u q _=>⟨u,k b u q⟩
 tups:=λb xs q=>by rw [au (aw q hn)];exact q
 frzs:=λb u xs q=>by rw [au (aw q hn)];exact q
 tbls:=λb ps q=>⟨#[],by rw [au (aw q hn),q];simp⟩
theorem Un.write (mu:Mut (H x)) (he:e=x\/H e=some (.own x)) (k:∀ b u,b≠e->h.get? b=some u->h'.get? b=some u) (heo:∃ u,h'.get? e=some u):Un fs ex H (upd H x o) h h':=by
 have hx:∀ b,H b=none->b≠x:=λb n z=>by subst z;rw [n] at mu;exact mu
 have hb:∀ b,H b=none->b≠e:=λb n z=>by
  subst z
  rcases he with r | r
  ·exact hx b n r
  ·rw [n] at r;cases r
 have hm:∀ b u,H b=some u->¬Mut (some u)->b≠x:=λb u q nm z=>by subst z;rw [q] at mu;exact nm mu
 refine ⟨λb u q n _ _=>k b u (hb b n) q,λb u q n _ _=>⟨u.slots,k b u (hb b n) q⟩,λb u q n _=>by rw [au (hx b n)];exact n,λb u q _=>?_,
  λb xs q=>by rw [au (hm b _ q λz=>z)];exact q,λb u xs q=>by rw [au (hm b _ q λz=>z)];exact q,λb ps q=>⟨#[],by rw [au (hm b _ q λz=>z),q];simp⟩⟩
 by_cases hbe:b=e
 ·subst hbe;exact heo
 ·exact ⟨u,k b u hbe q⟩
end
noncomputable def trk (h:Heap) (H:Hp):List Addr:=(List.range h.objs.size).filter λa=>(H a).isSome
noncomputable def tT (h:Heap) (H:Hp):Heap:=PySem.W.hideAll h (trk h H)
theorem Bk (h:Heap) (H:Hp):(tT h H).objs.size=h.objs.size:=PySem.W.hideAll_size _ _
theorem Eg {h:Heap} {H:Hp} {b:Addr} {o:Obj} (e:h.get? b=some o) (n:H b=none):(tT h H).get? b=some o :=
 PySem.W.hideAll_get _ e λhm=>by
  have q:(H b).isSome=true:=(List.mem_filter.mp hm).2
  rw [n] at q;simp at q
theorem of_hidT {h:Heap} {H:Hp} {b:Addr} {o:Obj} (e:(tT h H).get? b=some o):h.get? b=some o/\H b=none:=by
 have e':h.get? b=some o:=PySem.W.of_hideAll (trk h H) e
 refine ⟨e',?_⟩
 cases q:H b with
 | none=>rfl
 | some x =>
  have hm:b∈trk h H:=List.mem_filter.mpr ⟨List.mem_range.mpr (Heap.lt_size e'),by simp [q]⟩
  have z:(tT h H).get? b=none:=PySem.W.hideAll_none (trk h H) hm
  rw [z] at e;cases e
structure Mod (K:PySem.W.Frag) (mg:Str->Option Value) (base:Heap):Prop where
 kin:K.In base
 glob:base.Ns mainGlobals mg
 blt:∃ mb,base.Ns builtinsNs mb/\∀ x:Str,x≠"__name__"->mb x=bootBuiltins x
 nolimit:base.NoLimit
structure Cx where
 prog:Program
 w:World
 K:PySem.W.Frag
 mg:Str->Option Value
 base:Heap
 A:Around
 N:List Str
 s₀:Shared
 H₀:Hp
 env:Env
 outer:List Env
 stack:List Env
 ex:List Addr
 fn:Str->Bool
 calm:Bool
 pn:List (Addr×Obj)
 xe:Value->Shared->Prop
noncomputable def frs (l:List Env):List Addr:=l.filterMap (·.frame)
noncomputable abbrev Cx.fs (X:Cx):List Addr:=frs X.outer
noncomputable def Vis (sc:Scope) (x:Str):Prop:=sc.names.lookup x=some .local\/sc.names.lookup x=some .cell\/sc.names.lookup x=some .free
noncomputable def Loc (sc:Scope) (x:Str):Prop:=sc.names.lookup x=some .local\/sc.names.lookup x=some .cell
noncomputable def Look (env:Env) (h:Heap) (m:Str->Option Value) (x:Str) (u:Value):Prop :=
 (env.kindOf x=some .local/\m x=some u)\/((env.kindOf x=some .cell\/env.kindOf x=some .free)/\∃ c,env.cells.lookup x=some c/\h.IsCell c (some u))
structure Cx.Ok (X:Cx):Prop where
 mod:Mod X.K X.mg X.base
 kind:X.env.scope.kind=.function
 glob:X.env.globals=mainGlobals
 blt:X.env.builtins=builtinsNs
 above:X.s₀.heap.objs.size<=X.env.locals
 inj:∀ x y c,X.env.cells.lookup x=some c->X.env.cells.lookup y=some c->x=y
 has:∀ x,(X.env.kindOf x=some .cell\/X.env.kindOf x=some .free)->∃ c,X.env.cells.lookup x=some c
 cab:∀ x c,X.fn x=true->X.env.cells.lookup x=some c->X.s₀.heap.objs.size<=c
 hd:X.calm=true->X.A.handled=none
 frames:X.A.frames=some X.stack
 stk:X.stack=X.outer\/(X.stack=X.env::X.outer/\X.env.frame=some X.env.locals)
 exf:∀ b∈X.ex,b≠X.env.locals/\∀ x c,X.env.cells.lookup x=some c->c≠b
 bs:∀ b o,X.base.get? b=some o->X.s₀.heap.get? b=some o/\X.H₀ b=none
 bsz:X.base.objs.size<=X.s₀.heap.objs.size
 noex:∀ b o,X.base.get? b=some o->b ∉ X.ex
 exfs:∀ b∈X.ex,b ∉ X.fs
 funs:X.s₀.heap.FunFrames X.base X.outer
 frf:∀ b∈X.fs,X.H₀ b=none
structure Inv (X:Cx) (pins:List (Addr×Obj)) (σ:List (Option V)) (H:Hp) (s:Shared):Prop where
 ok:X.Ok
 os:s.os=X.s₀.os
 bare:AllBare s.gens
 base:Un X.fs X.ex X.H₀ H X.s₀.heap s.heap
 loc:∃ m,s.heap.Ns X.env.locals m/\∀(i:Nat) (x:Str) (v:V),X.N[i]?=some x->σ[i]?=some (some v)->Vis X.env.scope x->∃ u,RelV v u/\Look X.env s.heap m x u
 cell:∀ x c,X.env.cells.lookup x=some c->∃ v,s.heap.IsCell c v
 free:H X.env.locals=none
 freeC:∀ x c,X.env.cells.lookup x=some c->H c=none
 pin:∀ p∈X.pn++pins,s.heap.get? p.1=some p.2/\H p.1=none/\p.1≠X.env.locals/\p.1 ∉ X.fs/\∀ v,p.2.data≠.cell v
 hok:HOk X.prog X.w H s.heap
 len:σ.length=X.N.length
section
variable {X:Cx} {pins:List (Addr×Obj)} {σ:List (Option V)} {H H':Hp} {s:Shared} {h':Heap}
theorem Cx.Ok.nofr (ok:X.Ok) {b:Addr} {o:Obj} (e:X.base.get? b=some o):b ∉ X.fs:=λhb=>by
 have:=(ok.funs.mem hb).1
 rw [e] at this;cases this
theorem Inv.bs (I:Inv X pins σ H s):∀ b o,X.base.get? b=some o->s.heap.get? b=some o/\H b=none:=λb o e =>
 ⟨I.base.keep b o (I.ok.bs b o e).1 (I.ok.bs b o e).2 (I.ok.nofr e) (I.ok.noex b o e),I.base.free b o (I.ok.bs b o e).1 (I.ok.bs b o e).2 (I.ok.noex b o e)⟩
theorem Inv.bk (I:Inv X pins σ H s):∀ b o,X.base.get? b=some o->s.heap.get? b=some o:=λb o e=>(I.bs b o e).1
theorem Inv.mod (I:Inv X pins σ H s):Mod X.K X.mg X.base:=I.ok.mod
theorem Inv.kIn (I:Inv X pins σ H s):X.K.In s.heap:=I.ok.mod.kin.keeps I.bk
theorem Inv.lt (I:Inv X pins σ H s):X.env.locals < s.heap.objs.size:=let ⟨_,hn,_⟩:=I.loc;hn.lt
theorem Inv.sz (I:Inv X pins σ H s):X.s₀.heap.objs.size<=s.heap.objs.size:=Nat.le_trans I.ok.above (Nat.le_of_lt I.lt)
theorem Inv.nofs (I:Inv X pins σ H s) {a:Addr} (h:s.heap.objs.size<=a):a ∉ X.fs:=λhb=>by
 obtain ⟨_,o,ho,_⟩:=I.ok.funs.mem hb
 exact absurd (Nat.lt_of_lt_of_le (Heap.lt_size ho) (Nat.le_trans I.sz h)) (Nat.lt_irrefl _)
theorem Inv.cne (I:Inv X pins σ H s):∀ x c,X.env.cells.lookup x=some c->c≠X.env.locals:=λx c e z=>by
 obtain ⟨v,o,ho,hd⟩:=I.cell x c e
 obtain ⟨m,⟨o',es,ep,ho',hd',_⟩,_⟩:=I.loc
 rw [z,ho'] at ho;cases ho;rw [hd'] at hd;cases hd
theorem Inv.funs (I:Inv X pins σ H s):s.heap.FunFrames X.base X.outer:=by
 have all:∀(l:List Env),(∀ b∈frs l,b∈X.fs)->X.s₀.heap.FunFrames X.base l->s.heap.FunFrames X.base l:=by
  intro l
  induction l with
  | nil=>intro _ _;trivial
  | cons env r ih =>
   intro hs hl
   obtain ⟨hk,⟨L,o,hf,hn,ho,hd⟩,hr⟩:=hl
   have hL:L∈X.fs:=hs L (by unfold frs;rw [List.filterMap_cons,hf];exact List.mem_cons_self)
   obtain ⟨sl,e⟩:=I.base.slot L o ho (I.ok.frf L hL) hL λz=>I.ok.exfs L z hL
   exact ⟨hk,⟨L,_,hf,hn,e,hd⟩,ih (λb hb=>hs b (by unfold frs;rw [List.filterMap_cons,hf];exact List.mem_cons_of_mem _ hb)) hr⟩
 exact all X.outer (λ_ hb=>hb) I.ok.funs
theorem Inv.stack (I:Inv X pins σ H s):s.heap.FunFrames X.base X.stack:=by
 rcases I.ok.stk with e | ⟨e,hf⟩
 ·rw [e];exact I.funs
 ·rw [e]
  obtain ⟨m,hn,_⟩:=I.loc
  refine .cons (by rw [I.ok.kind];decide) hf hn ?_ I.funs
  exact Heap.get?_none_of_le (Nat.le_trans I.ok.bsz I.ok.above)
theorem Inv.stkSub (I:Inv X pins σ H s):∀ b∈frs X.stack,b∈X.env.locals::X.fs:=λb hb=>by
 rcases I.ok.stk with e | ⟨e,hf⟩
 ·rw [e] at hb;exact List.mem_cons_of_mem _ hb
 ·rw [e] at hb
  unfold frs at hb
  rw [List.filterMap_cons,hf] at hb
  exact hb
theorem Inv.stkFree (I:Inv X pins σ H s):∀ b∈frs X.stack,H b=none:=λb hb=>by
 rcases List.mem_cons.mp (I.stkSub b hb) with e | hb
 ·rw [e];exact I.free
 ·obtain ⟨_,o,ho,_⟩:=I.ok.funs.mem hb
  exact I.base.free b o ho (I.ok.frf b hb) λz=>I.ok.exfs b z hb
theorem Inv.step {g':Array GenState} {t':Nat} {d':Drawn} {ch:List Addr} (I:Inv X pins σ H s)
  (hch:∀ b∈ch,(b∈X.ex\/X.s₀.heap.objs.size<=b)/\b≠X.env.locals/\(∀ x c,X.env.cells.lookup x=some c->c≠b)/\∀ p∈X.pn++pins,p.1≠b)
  (keep:∀ b o,b≠X.env.locals->b ∉ X.fs->b ∉ ch->s.heap.get? b=some o->H b=none->h'.get? b=some o)
  (slot:∀ b o,b≠X.env.locals->b∈X.fs->b ∉ ch->s.heap.get? b=some o->H b=none->∃ sl,h'.get? b=some {o with slots:=sl}) (free:∀ b o,b ∉ ch->s.heap.get? b=some o->H b=none->H' b=none)
  (there:∀ b o,b ∉ ch->s.heap.get? b=some o->∃ o',h'.get? b=some o')
  (tups:∀ b xs,H b=some (.tup xs)->H' b=some (.tup xs)) (frzs:∀ b o u,H b=some (.frz o u)->H' b=some (.frz o u)) (tbls:∀ b ps,H b=some (.tbl ps)->∃ more,H' b=some (.tbl (ps++more)))
  (ns:∀ m,s.heap.Ns X.env.locals m->h'.Ns X.env.locals m) (hok:HOk X.prog X.w H' h') (hg:AllBare g') :
  Inv X pins σ H' {s with heap:=h',gens:=g',drawn:=d',toks:=t' }:=by
 have neL:∀ b o,X.s₀.heap.get? b=some o->b≠X.env.locals:=λb o e=>Nat.ne_of_lt (Nat.lt_of_lt_of_le (Heap.lt_size e) I.ok.above)
 have neC:∀ b o,X.s₀.heap.get? b=some o->b ∉ X.ex->b ∉ ch:=λb o e hx hb=>by
  rcases (hch b hb).1 with z | z
  ·exact hx z
  ·exact absurd (Nat.lt_of_lt_of_le (Heap.lt_size e) z) (Nat.lt_irrefl _)
 have cellK:∀ x c,X.env.cells.lookup x=some c->∀ v,s.heap.IsCell c v->h'.IsCell c v:=λx c e v ⟨o,ho,hd⟩=>by
  have nch:c ∉ ch:=λz=>(hch c z).2.2.1 x c e rfl
  by_cases hc:c∈X.fs
  ·obtain ⟨sl,q⟩:=slot c o (I.cne x c e) hc nch ho (I.freeC x c e)
   exact ⟨_,q,hd⟩
  ·exact ⟨o,keep c o (I.cne x c e) hc nch ho (I.freeC x c e),hd⟩
 refine ⟨I.ok,I.os,hg,⟨λb o e n hb hx=>?_,λb o e n hb hx=>?_,λb o e n hx=>?_,λb o e hx=>?_,λb xs e=>tups b xs (I.base.tups b xs e),λb o xs e=>frzs b o xs (I.base.frzs b o xs e),λb ps e=>?_⟩,?_,λx c e=>?_,?_,λx c e=>?_,λp hp=>?_,hok,I.len⟩
 ·exact keep b o (neL b o e) hb (neC b o e hx) (I.base.keep b o e n hb hx) (I.base.free b o e n hx)
 ·obtain ⟨sl,e1⟩:=I.base.slot b o e n hb hx
  obtain ⟨sl',e2⟩:=slot b _ (neL b o e) hb (neC b o e hx) e1 (I.base.free b o e n hx)
  exact ⟨sl',e2⟩
 ·obtain ⟨o',e1⟩:=I.base.there b o e hx
  exact free b o' (neC b o e hx) e1 (I.base.free b o e n hx)
 ·obtain ⟨o',e1⟩:=I.base.there b o e hx
  exact there b o' (neC b o e hx) e1
 ·obtain ⟨m1,e1⟩:=I.base.tbls b ps e
  obtain ⟨m2,e2⟩:=tbls b _ e1
  exact ⟨m1++m2,by rw [e2,Array.append_assoc]⟩
 ·obtain ⟨m,hn,hl⟩:=I.loc
  refine ⟨m,ns m hn,λi x v e1 e2 e3=>?_⟩
  obtain ⟨u,r,l⟩:=hl i x v e1 e2 e3
  refine ⟨u,r,?_⟩
  rcases l with l | ⟨k,c,e,z⟩
  ·exact .inl l
  ·exact .inr ⟨k,c,e,cellK x c e _ z⟩
 ·obtain ⟨v,z⟩:=I.cell x c e
  exact ⟨v,cellK x c e v z⟩
 ·obtain ⟨m,⟨o,_,_,ho,_⟩,_⟩:=I.loc
  exact free _ o (λz=>(hch _ z).2.1 rfl) ho I.free
 ·obtain ⟨v,o,ho,hd⟩:=I.cell x c e
  exact free c o (λz=>(hch c z).2.2.1 x c e rfl) ho (I.freeC x c e)
 ·obtain ⟨e,n,ne,nf,d⟩:=I.pin p hp
  have nch:p.1 ∉ ch:=λz=>(hch p.1 z).2.2.2 p hp rfl
  exact ⟨keep p.1 p.2 ne nf nch e n,free p.1 p.2 nch e n,ne,nf,d⟩
theorem Inv.un {t':Nat} (I:Inv X pins σ H s) (u:Un X.fs [] H H' s.heap h') (hok:HOk X.prog X.w H' h'):Inv X pins σ H' {s with heap:=h',toks:=t' }:=by
 obtain ⟨m,⟨o,es,ep,ho,r⟩,_⟩:=id I.loc
 obtain ⟨sl,hL⟩:=u.any ho I.free (by simp)
 exact I.step (g':=s.gens) (d':=s.drawn) (ch:=[]) (λ_ z=>nomatch z) (λb o _ hb _ e n=>u.keep b o e n hb (by simp)) (λb o _ hb _ e n=>u.slot b o e n hb (by simp)) (λb o _ e n=>u.free b o e n (by simp)) (λb o _ e=>u.there b o e (by simp)) u.tups u.frzs u.tbls (λm' hm=>by
  obtain ⟨o',es',ep',ho',r'⟩:=hm
  rw [ho] at ho';cases ho'
  exact ⟨_,es',ep',hL,r'⟩) hok I.bare
theorem Inv.call {g':Array GenState} {t':Nat} {d':Drawn} {ch:List Addr} (I:Inv X pins σ H s) (u:Un (frs X.stack) ch H H' s.heap h') (hok:HOk X.prog X.w H' h') (hg:AllBare g')
  (hch:∀ b∈ch,(b∈X.ex\/X.s₀.heap.objs.size<=b)/\b≠X.env.locals/\(∀ x c,X.env.cells.lookup x=some c->c≠b)/\∀ p∈X.pn++pins,p.1≠b) :
  Inv X pins σ H' {s with heap:=h',gens:=g',drawn:=d',toks:=t' }:=by
 obtain ⟨m,⟨o,es,ep,ho,r⟩,_⟩:=id I.loc
 obtain ⟨sl,hL⟩:=u.any ho I.free λz=>(hch _ z).2.1 rfl
 exact I.step (ch:=ch) hch (λb o hL hb hc e n=>u.keep b o e n (λz=>(List.mem_cons.mp (I.stkSub b z)).elim hL hb) hc) (λb o _ _ hc e n=>u.any e n hc) (λb o hc e n=>u.free b o e n hc) (λb o hc e=>u.there b o e hc) u.tups u.frzs u.tbls (λm' hm=>by
  obtain ⟨o',es',ep',ho',r'⟩:=hm
  rw [ho] at ho';cases ho'
  exact ⟨_,es',ep',hL,r'⟩) hok hg
theorem Inv.turned {t':Nat} {it:Addr} (I:Inv X pins σ H s) (k:∀ b o,b≠it->s.heap.get? b=some o->h'.get? b=some o) (hn:H it=none) (hL:it≠X.env.locals)
  (h1:it∈X.ex\/X.s₀.heap.objs.size<=it) (h2:∀ x c,X.env.cells.lookup x=some c->c≠it) (h3:∀ p∈X.pn++pins,p.1≠it):Inv X pins σ H {s with heap:=h',toks:=t' }:=by
 have nit:∀ b u,H b=some u->b≠it:=λb u e z=>by rw [z,hn] at e;cases e
 refine I.step (g':=s.gens) (d':=s.drawn) (ch:=[it]) (λb hb=>?_) (λb o _ _ hc e _=>k b o (λz=>hc (by simp [z])) e) (λb o _ _ hc e _=>⟨o.slots,k b o (λz=>hc (by simp [z])) e⟩) (λ_ _ _ _ n=>n)
  (λb o hc e=>⟨o,k b o (λz=>hc (by simp [z])) e⟩) (λ_ _ e=>e) (λ_ _ _ e=>e) (λb ps e=>⟨#[],by rw [e];simp⟩) (λm hm=>?_) (λb u e=>?_) I.bare
 ·have e:b=it:=by simpa using hb
  subst e
  exact ⟨h1,hL,h2,h3⟩
 ·obtain ⟨o,es,ep,ho,r⟩:=hm
  exact ⟨o,es,ep,k _ o (Ne.symm hL) ho,r⟩
 ·refine (I.hok b u e).stay (λc v hc q=>k c v ?_ q) (λ_ q=>q) λ_ _ q=>q
  rcases hc with z | z
  ·rw [z];exact nit b u e
  ·exact nit c _ z
theorem Inv.tok (I:Inv X pins σ H s) (t:Nat):Inv X pins σ H {s with toks:=t}:=I.un (h':=s.heap) (t':=t) Un.refl I.hok
theorem Inv.kept {t':Nat} (I:Inv X pins σ H s) (k:∀ b u,s.heap.get? b=some u->h'.get? b=some u):Inv X pins σ H {s with heap:=h',toks:=t' }:=I.un (Un.kept k) (I.hok.kept k)
theorem Inv.laid {a:Addr} {o:HO} {t':Nat} (I:Inv X pins σ H s) (k:∀ b u,s.heap.get? b=some u->h'.get? b=some u) (hp:s.heap.objs.size<=a) (new:cf X.prog X.w (upd H a o) h' a o) :
  Inv X pins σ (upd H a o) {s with heap:=h',toks:=t' }:=I.un (Un.laid k hp (I.hok.fresh hp)) (I.hok.laid k hp new)
theorem Inv.write {x e:Addr} {o:HO} {t':Nat} (I:Inv X pins σ H s) (mu:Mut (H x)) (he:e=x\/H e=some (.own x)) (k:∀ b u,b≠e->s.heap.get? b=some u->h'.get? b=some u) (heo:∃ u,h'.get? e=some u)
  (new:cf X.prog X.w (upd H x o) h' x o):Inv X pins σ (upd H x o) {s with heap:=h',toks:=t' }:=I.un (Un.write mu he k heo) (I.hok.write mu he k heo new)
theorem Inv.pins_of {pins':List (Addr×Obj)} (I:Inv X pins σ H s) (h:∀ p∈pins',s.heap.get? p.1=some p.2/\H p.1=none/\p.1≠X.env.locals/\p.1 ∉ X.fs/\∀ v,p.2.data≠.cell v):Inv X pins' σ H s :=
 ⟨I.ok,I.os,I.bare,I.base,I.loc,I.cell,I.free,I.freeC,λp hp=>(List.mem_append.mp hp).elim (λz=>I.pin p (List.mem_append_left _ z)) (h p),I.hok,I.len⟩
theorem vF {N:List Str} (hN:N.Nodup) {i j:Nat} {x:Str} (a:N[i]?=some x) (b:N[j]?=some x):i=j:=by
 obtain ⟨h1,e1⟩:=List.getElem?_eq_some_iff.mp a
 obtain ⟨h2,e2⟩:=List.getElem?_eq_some_iff.mp b
 exact (List.getElem_inj hN).mp (e1.trans e2.symm)
theorem Aj {M:Model} {A:Around} {E:Value->Shared->Prop} {i:Nat} {x:Str} {v:V} {u:Value} {Q:Unit->Shared->Prop} (I:Inv X pins σ H s) (hN:X.N.Nodup) (hi:X.N[i]?=some x) (hx:Loc X.env.scope x) (r:RelV v u)
  (h:∀ s',Inv X pins (σ.set i (some v)) H s'->(∃ a,Heap.SameBut a s.heap s'.heap/\(a=X.env.locals\/X.env.cells.lookup x=some a))->Q () s') (hf:X.fn x=true\/X.env.scope.names.lookup x=some .local:=by first | exact .inl rfl | exact .inr rfl | assumption):wpAny M A (storeName X.env x u) Q E s:=by
 obtain ⟨m,hn,hl⟩:=id I.loc
 have hcls:(X.env.scope.kind == .class || (X.env.scope.kind == .module && X.env.locals != X.env.globals))=false:=by rw [I.ok.kind];rfl
 have hiσ:i < σ.length:=by rw [I.len];exact (List.getElem?_eq_some_iff.mp hi).1
 have cne:=I.cne
 have tracked:∀{a:Addr} {h':Heap},(∃ o,s.heap.get? a=some o/\H a=none)->Heap.SameBut a s.heap h'->HOk X.prog X.w H h':=λ{a h'} ha hs b ob e=>by
  obtain ⟨_,_,hfree⟩:=ha
  refine (I.hok b ob e).stay (λc w' hc q=>(hs.2 c ?_).trans q) (λ_ q=>q) λ_ _ q=>q
  rintro rfl
  rcases hc with rfl | hc
  ·rw [hfree] at e;cases e
  ·rw [hfree] at hc;cases hc
 rcases hx with hk | hk
 ·refine wpAny_storeName_local hk hn (λh' hn' hs=>?_) hcls
  obtain ⟨oL,_,_,hoL,_⟩:=id hn
  refine h _ ⟨I.ok,I.os,I.bare,⟨λb o e n hb hx=>?_,λb o e n hb hx=>?_,I.base.free,λb o e hx=>?_,I.base.tups,I.base.frzs,I.base.tbls⟩,⟨_,hn',λj y v' e1 e2 e3=>?_⟩,λy c e=>?_,I.free,I.freeC,λp hp=>?_,tracked ⟨oL,hoL,I.free⟩ hs,by simpa using I.len⟩ ⟨_,hs,.inl rfl⟩
  ·exact (hs.2 b (Nat.ne_of_lt (Nat.lt_of_lt_of_le (Heap.lt_size e) I.ok.above))).trans (I.base.keep b o e n hb hx)
  ·obtain ⟨sl,e1⟩:=I.base.slot b o e n hb hx
   exact ⟨sl,(hs.2 b (Nat.ne_of_lt (Nat.lt_of_lt_of_le (Heap.lt_size e) I.ok.above))).trans e1⟩
  ·obtain ⟨o',e1⟩:=I.base.there b o e hx
   exact ⟨o',(hs.2 b (Nat.ne_of_lt (Nat.lt_of_lt_of_le (Heap.lt_size e) I.ok.above))).trans e1⟩
  ·by_cases hj:j=i
   ·subst hj
    rw [hi] at e1;cases e1
    rw [List.getElem?_set_self hiσ] at e2
    cases e2
    exact ⟨u,r,.inl ⟨hk,by simp⟩⟩
   ·rw [List.getElem?_set_ne (Ne.symm hj)] at e2
    obtain ⟨u',r',q⟩:=hl j y v' e1 e2 e3
    refine ⟨u',r',?_⟩
    rcases q with ⟨k,e⟩ | ⟨k,c,e,z⟩
    ·refine .inl ⟨k,?_⟩
     have:y≠x:=λe=>hj (vF hN e1 (e ▸ hi))
     simp [this,e]
    ·exact .inr ⟨k,c,e,z.sameBut hs (cne y c e)⟩
  ·obtain ⟨w',z⟩:=I.cell y c e
   exact ⟨w',z.sameBut hs (cne y c e)⟩
  ·obtain ⟨e,n,ne,nf,d⟩:=I.pin p hp
   exact ⟨(hs.2 p.1 ne).trans e,n,ne,nf,d⟩
 ·have hfn:X.fn x=true:=by
   rcases hf with z | z
   ·exact z
   ·rw [z] at hk;cases hk
  obtain ⟨c,hc⟩:=I.ok.has x (.inl hk)
  obtain ⟨w',z⟩:=I.cell x c hc
  refine wpAny_storeName_cell I.ok.kind hk hc z (λh' hc' hs=>?_)
  obtain ⟨oc,hoc,hocd⟩:=id z
  refine h {s with heap:=h' } ⟨I.ok,I.os,I.bare,⟨λb o e n hb hx=>?_,λb o e n hb hx=>?_,I.base.free,λb o e hx=>?_,I.base.tups,I.base.frzs,I.base.tbls⟩,⟨m,hn.sameBut hs (Ne.symm (cne x c hc)),λj y v' e1 e2 e3=>?_⟩,λy c' e=>?_,I.free,I.freeC,λp hp=>?_,tracked ⟨oc,hoc,I.freeC x c hc⟩ hs,by simpa using I.len⟩ ⟨c,hs,.inr hc⟩
  ·exact (hs.2 b (Nat.ne_of_lt (Nat.lt_of_lt_of_le (Heap.lt_size e) (I.ok.cab x c hfn hc)))).trans (I.base.keep b o e n hb hx)
  ·obtain ⟨sl,e1⟩:=I.base.slot b o e n hb hx
   exact ⟨sl,(hs.2 b (Nat.ne_of_lt (Nat.lt_of_lt_of_le (Heap.lt_size e) (I.ok.cab x c hfn hc)))).trans e1⟩
  ·obtain ⟨o',e1⟩:=I.base.there b o e hx
   exact ⟨o',(hs.2 b (Nat.ne_of_lt (Nat.lt_of_lt_of_le (Heap.lt_size e) (I.ok.cab x c hfn hc)))).trans e1⟩
  ·by_cases hj:j=i
   ·subst hj
    rw [hi] at e1;cases e1
    rw [List.getElem?_set_self hiσ] at e2
    cases e2
    exact ⟨u,r,.inr ⟨.inl hk,c,hc,hc'⟩⟩
   ·rw [List.getElem?_set_ne (Ne.symm hj)] at e2
    obtain ⟨u',r',q⟩:=hl j y v' e1 e2 e3
    refine ⟨u',r',?_⟩
    rcases q with q | ⟨k,c',e,z'⟩
    ·exact .inl q
    ·refine .inr ⟨k,c',e,z'.sameBut hs ?_⟩
     rintro rfl
     exact hj (vF hN e1 (I.ok.inj _ _ _ e hc ▸ hi))
  ·by_cases hcc:c'=c
   ·subst hcc;exact ⟨_,hc'⟩
   ·obtain ⟨w2,z2⟩:=I.cell y c' e
    exact ⟨w2,z2.sameBut hs hcc⟩
  ·obtain ⟨e,n,ne,nf,d⟩:=I.pin p hp
   refine ⟨(hs.2 p.1 ?_).trans e,n,ne,nf,d⟩
   intro q
   rw [q,hoc] at e
   have q':oc=p.2:=Option.some.inj e
   exact d w' (by rw [<- q'];exact hocd)
theorem uz {M:Model} {A:Around} {E:Value->Shared->Prop} {i:Nat} {x:Str} {v:V} {u:Value} {Q:Unit->Shared->Prop} (I:Inv X pins σ H s) (hN:X.N.Nodup) (hi:X.N[i]?=some x) (hx:Loc X.env.scope x) (r:RelV v u)
  (h:∀ s',Inv X pins (σ.set i (some v)) H s'->Q () s') (hf:X.fn x=true\/X.env.scope.names.lookup x=some .local:=by first | exact .inl rfl | exact .inr rfl | assumption):wpAny M A (storeName X.env x u) Q E s :=
 Aj I hN hi hx r (λs' I' _=>h s' I') hf
theorem Inv.call' {s':Shared} {ch:List Addr} (I:Inv X pins σ H s) (ho:s'.os=s.os) (u:Un (frs X.stack) ch H H' s.heap s'.heap) (hok:HOk X.prog X.w H' s'.heap) (hg:AllBare s'.gens)
  (hch:∀ b∈ch,(b∈X.ex\/X.s₀.heap.objs.size<=b)/\b≠X.env.locals/\(∀ x c,X.env.cells.lookup x=some c->c≠b)/\∀ p∈X.pn++pins,p.1≠b):Inv X pins σ H' s':=by
 obtain ⟨h',g',d',t',o'⟩:=s'
 have e:o'=s.os:=ho
 subst e
 exact I.call (g':=g') (t':=t') (d':=d') u hok hg hch
end
noncomputable abbrev XK:=Value->Option Addr->Hp->Prop
noncomputable abbrev St:=List (Option V)
noncomputable abbrev VK:=V->Hp->Prop
noncomputable abbrev TE:=St->Hp->VK->Prop
noncomputable abbrev TT:=St->Hp->(Bool->Hp->Prop)->Prop
noncomputable abbrev TA:=St->Hp->(List V->Hp->Prop)->Prop
structure Ends where
 nx:St->Hp->Prop
 rt:VK
 bk:St->Hp->Prop:=λ_ _=>False
 ct:St->Hp->Prop:=λ_ _=>False
noncomputable abbrev TS:=Ends->St->Hp->Prop
noncomputable def EP (X:Cx) (pins:List (Addr×Obj)) (σ:St) (Q:VK) (u:Value) (s':Shared):Prop:=∃ v H',Inv X pins σ H' s'/\RelV v u/\Q v H'
noncomputable def TP (X:Cx) (pins:List (Addr×Obj)) (σ:St) (Q:Bool->Hp->Prop) (b:Bool) (s':Shared):Prop:=∃ H',Inv X pins σ H' s'/\Q b H'
noncomputable def AP (X:Cx) (pins:List (Addr×Obj)) (σ:St) (Q:List V->Hp->Prop) (us:List Value) (s':Shared):Prop:=∃ vs H',Inv X pins σ H' s'/\Vals vs us/\Q vs H'
noncomputable def SP (X:Cx) (pins:List (Addr×Obj)) (D:Ends) (f:Flow) (s':Shared):Prop :=
 match f with
 | .next=>∃ σ' H',Inv X pins σ' H' s'/\D.nx σ' H'
 | .brk=>∃ σ' H',Inv X pins σ' H' s'/\D.bk σ' H'
 | .cont=>∃ σ' H',Inv X pins σ' H' s'/\D.ct σ' H'
 | .ret u=>∃ v σ' H',Inv X pins σ' H' s'/\RelV v u/\D.rt v H'
noncomputable def PE (X:Cx) (e:Expr) (t:TE):Prop :=
 ∀(pins:List (Addr×Obj)) (s:Shared) (σ:St) (H:Hp) (Q:VK),Inv X pins σ H s->t σ H Q->wpAny (model X.prog X.w) X.A (eval e X.env) (EP X pins σ Q) X.xe s
noncomputable def PT (X:Cx) (e:Expr) (t:TT):Prop :=
 ∀(pins:List (Addr×Obj)) (s:Shared) (σ:St) (H:Hp) (Q:Bool->Hp->Prop),Inv X pins σ H s->t σ H Q->wpAny (model X.prog X.w) X.A (isTrue e X.env (eval e X.env)) (TP X pins σ Q) X.xe s
noncomputable def PW (X:Cx) (e:Expr) (t:TT):Prop :=
 ∀(whole:Sem Value) (pins:List (Addr×Obj)) (s:Shared) (σ:St) (H:Hp) (Q:Bool->Hp->Prop),Inv X pins σ H s->t σ H Q->wpAny (model X.prog X.w) X.A (isTrue e X.env whole) (TP X pins σ Q) X.xe s
theorem PW.pt {X:Cx} {e:Expr} {t:TT} (h:PW X e t):PT X e t:=h _
noncomputable def PA (X:Cx) (es:List Expr) (t:TA):Prop :=
 ∀(pos:Pos) (pins:List (Addr×Obj)) (s:Shared) (σ:St) (H:Hp) (Q:List V->Hp->Prop),Inv X pins σ H s->t σ H Q->wpAny (model X.prog X.w) X.A (spliced (backTo pos (starEach es X.env))) (AP X pins σ Q) X.xe s
noncomputable def PS (X:Cx) (st:Stmt) (t:TS):Prop :=
 ∀(pins:List (Addr×Obj)) (s:Shared) (σ:St) (H:Hp) (D:Ends),Inv X pins σ H s->t D σ H->wpAny (model X.prog X.w) X.A (exec st X.env) (SP X pins D) X.xe s
noncomputable def PSs (X:Cx) (st:List Stmt) (t:TS):Prop :=
 ∀(pins:List (Addr×Obj)) (s:Shared) (σ:St) (H:Hp) (D:Ends),Inv X pins σ H s->t D σ H->wpAny (model X.prog X.w) X.A (execs st X.env) (SP X pins D) X.xe s
theorem thn {α:Type} {t:Sem α} {Q Q':α->Shared->Prop} {M:Model} {A:Around} {E:Value->Shared->Prop} {s:Shared} (h:wpAny M A t Q E s) (hQ:∀ a s,Q a s->Q' a s):wpAny M A t Q' E s:=wpAny_mono h hQ λ_ _ x=>x
section
variable {X:Cx}
theorem bin {a b:Expr} {ta tb:TE} (ha:PE X a ta) (hb:PE X b tb) {pins:List (Addr×Obj)} {s:Shared} {σ:St} {H:Hp} {R:V->V->Hp->Prop} (I:Inv X pins σ H s) (h:ta σ H λx H1=>tb σ H1 λy H2=>R x y H2)
  {α:Type} {Q:α->Shared->Prop} {f:Value->Value->Sem α}
  (hf:∀ v u s2 x y H2,Inv X pins σ H2 s2->RelV x v->RelV y u->R x y H2->wpAny (model X.prog X.w) X.A (f v u) Q X.xe s2) :
  wpAny (model X.prog X.w) X.A (eval a X.env) (λv s₁=>wpAny (model X.prog X.w) X.A (eval b X.env) (λu s₂=>wpAny (model X.prog X.w) X.A (f v u) Q X.xe s₂) X.xe s₁) X.xe s:=by
 refine thn (ha pins s σ H _ I h) λv s1 zz=>?_
 obtain ⟨x,H1,I1,r1,q1⟩:=zz
 refine thn (hb pins s1 σ H1 _ I1 q1) λu s2 zz=>?_
 obtain ⟨y,H2,I2,r2,q2⟩:=zz
 exact hf v u s2 x y H2 I2 r1 r2 q2
inductive XtVar (i:Nat) (σ:St) (H:Hp) (Q:VK):Prop where
 | mk (v:V) (z_0:σ[i]?=some (some v)) (z_1:Q v H):XtVar i σ H Q
noncomputable def tVar (i:Nat):TE:=fun σ H Q=>XtVar i σ H Q
inductive XBl (x:V) (P:Bool->Prop):Prop where
 | mk (c:Bool) (e:x=.bl c) (q:P c):XBl x P
noncomputable def tC (v:V):TE:=λ_ H Q=>Q v H
theorem Ds {i:Nat} {x:Str} {pos:Pos} (hN:X.N[i]?=some x) (hv:Vis X.env.scope x) (hd:(x == ("__debug__":Str))=false:=by decide) (hcd:(x == ("__classdict__":Str))=false:=by decide):PE X (.Name x pos) (tVar i):=by
 intro pins s σ H Q I h
 obtain ⟨v,e,h⟩:=h
 obtain ⟨m,hn,hl⟩:=I.loc
 obtain ⟨u,r,l⟩:=hl i x v hN e hv
 have fin:EP X pins σ Q u s:=⟨v,H,I,r,h⟩
 rcases l with ⟨hk,hm⟩ | ⟨hk,c,hc,hcell⟩
 ·exact wpAny_Name (wpAny_loadName_local I.ok.kind hk hn hm fin) hd
 ·rcases hk with hk | hk
  ·exact wpAny_Name (wpAny_loadName_cell I.ok.kind hk hc hcell fin) hd
  ·exact wpAny_Name (wpAny_loadName_free I.ok.kind hk hc hcell fin hcd) hd
theorem aq {i j pos}:PE X (.Constant (.int i) j pos) (tC (.int i)):=λ_ _ _ H _ I h=>wpAny_Constant_int ⟨.int i,H,I.tok _,⟨_,rfl⟩,h⟩
theorem hZ {b j pos}:PE X (.Constant (.bool b) j pos) (tC (.bl b)):=λ_ _ _ H _ I h=>Constant_bool ⟨.bl b,H,I,rfl,h⟩
theorem bX {j pos}:PE X (.Constant .none j pos) (tC .non):=λ_ _ _ H _ I h=>Constant_none ⟨.non,H,I,rfl,h⟩
theorem aM {x j pos}:PE X (.Constant (.str x) j pos) (tC (.str x)):=λ_ _ _ H _ I h=>Calls.Constant_str ⟨.str x,H,I.tok _,⟨_,rfl⟩,h⟩
noncomputable def Gl (X:Cx) (x:Str):Prop:=X.env.kindOf x=some .globalImplicit
theorem kg {E:Value->Shared->Prop} {pins:List (Addr×Obj)} {s:Shared} {σ:St} {H:Hp} {x:Str} {u:Value} {pos:Pos} {Q:Value->Shared->Prop} (I:Inv X pins σ H s) (hg:Gl X x) (hm:X.mg x=some u) (h:Q u s)
  (hd:(x == ("__debug__":Str))=false:=by decide):wpAny (model X.prog X.w) X.A (eval (.Name x pos) X.env) Q E s :=
 Calls.Name_function_global I.ok.kind hg (Calls.loadGlobal_global (by rw [I.ok.glob];exact I.mod.glob.keeps I.bk) hm h) hd
theorem mX {E:Value->Shared->Prop} {pins:List (Addr×Obj)} {s:Shared} {σ:St} {H:Hp} {x:Str} {u:Value} {pos:Pos} {Q:Value->Shared->Prop} (I:Inv X pins σ H s) (hg:Gl X x) (hm:X.mg x=none) (hv:bootBuiltins x=some u) (h:Q u s)
  (hn:x≠"__name__":=by decide) (hd:(x == ("__debug__":Str))=false:=by decide):wpAny (model X.prog X.w) X.A (eval (.Name x pos) X.env) Q E s:=by
 obtain ⟨mb,h1,h2⟩:=I.mod.blt
 exact Calls.Name_function_global I.ok.kind hg (Calls.loadGlobal_builtin (by rw [I.ok.glob];exact I.mod.glob.keeps I.bk) hm (by rw [I.ok.blt];exact h1.keeps I.bk) ((h2 x hn).trans hv) h) hd
theorem cG {x:Str} {v:V} {u:Value} {pos:Pos} (hg:Gl X x) (hm:X.mg x=some u) (r:RelV v u) (hd:(x == ("__debug__":Str))=false:=by decide):PE X (.Name x pos) (tC v) :=
 λ_ _ _ H _ I h=>kg I hg hm ⟨v,H,I,r,h⟩ hd
theorem fT {x:Str} {v:V} {u:Value} {pos:Pos} (hg:Gl X x) (hm:X.mg x=none) (hv:bootBuiltins x=some u) (r:RelV v u) (hn:x≠"__name__":=by decide) (hd:(x == ("__debug__":Str))=false:=by decide):PE X (.Name x pos) (tC v) :=
 λ_ _ _ H _ I h=>mX I hg hm hv ⟨v,H,I,r,h⟩ hn hd
variable {a b:Expr} {ta tb:TE} {pos:Pos}
noncomputable def PC (X:Cx) (op:CmpOp) (a b:Expr) (t:TE):Prop :=
 ∀(
  pins:List (Addr×Obj)) (s:Shared) (σ:St) (H:Hp) (Q:VK),Inv X pins σ H s->t σ H Q->
  wpAny (model X.prog X.w) X.A (eval a X.env) (λv s₁=>wpAny (model X.prog X.w) X.A (eval b X.env) (λu s₂=>wpAny (model X.prog X.w) X.A (compareOp op v u) (EP X pins σ Q) X.xe s₂) X.xe s₁) X.xe s
noncomputable def tB (t:TE):TT:=fun σ H Q=>t σ H λx H1=>XBl x λc=>Q c H1
theorem pt_cmp {op:CmpOp} {t:TE} (h:PC X op a b t) (h1:behindInMarks op b=false:=by first | exact nobehind _ (by decide) (by decide) | rfl):PT X (.Compare a [op] [b] pos) (tB t):=by
 intro pins s σ H Q I hw
 refine wpAny_isTrue_Compare1 (thn (h pins s σ H _ I hw) λv s1 h1=>thn h1 λu s2 h2=>thn h2 λc s3 zz=>?_) h1
 obtain ⟨x,H1,I1,r1,q1⟩:=zz
 obtain ⟨d,rfl,q⟩:=q1
 cases r1
 exact wpAny_truthy_bool ⟨H1,I1,q⟩
theorem dj {e:Expr} {t:TE} (h:PE X e t) (he:∀ whole,isTrue e X.env whole=(do let v <- whole;standAt e.pos;holding [v] (truthy v)):=by intro _;rfl):PT X e (tB t):=by
 intro pins s σ H Q I hw
 refine isTrue_plain (thn (h pins s σ H _ I hw) λv s1 zz=>?_) (he _)
 obtain ⟨x,H1,I1,r1,q1⟩:=zz
 obtain ⟨d,rfl,q⟩:=q1
 cases r1
 exact wpAny_truthy_bool ⟨H1,I1,q⟩
variable {tA tB':TT} {rest:List Expr}
noncomputable def tAnd (t u:TT):TT:=fun σ H Q=>t σ H λc H1=>if c=true then u σ H1 Q else Q false H1
noncomputable def tOr (t u:TT):TT:=fun σ H Q=>t σ H λc H1=>if c=true then Q true H1 else u σ H1 Q
noncomputable def tNot (t:TT):TT:=fun σ H Q=>t σ H λc H1=>Q (!c) H1
theorem sW (ha:PT X a tA):PW X (.BoolOp .And [a] pos) tA:=by
 intro wh pins s σ H Q I h
 refine isTrue_and (thn (ha pins s σ H Q I h) λc s1 e=>?_)
 cases c with
 | true=>exact isTrue_and_nil e
 | false=>exact e
theorem gN (ha:PT X a tA):PW X (.BoolOp .Or [a] pos) tA:=by
 intro wh pins s σ H Q I h
 refine isTrue_or (thn (ha pins s σ H Q I h) λc s1 e=>?_)
 cases c with
 | false=>exact isTrue_or_nil e
 | true=>exact e
theorem xq (ha:PT X a tA) (hb:PW X (.BoolOp .And (b::rest) pos) tB'):PW X (.BoolOp .And (a::b::rest) pos) (tAnd tA tB'):=by
 intro wh pins s σ H Q I h
 refine isTrue_and (thn (ha pins s σ H _ I h) λc s1 zz=>?_)
 obtain ⟨H1,I1,q1⟩:=zz
 cases c with
 | true=>exact hb wh pins s1 σ H1 Q I1 q1
 | false=>exact ⟨H1,I1,q1⟩
theorem fW (ha:PT X a tA) (hb:PW X (.BoolOp .Or (b::rest) pos) tB'):PW X (.BoolOp .Or (a::b::rest) pos) (tOr tA tB'):=by
 intro wh pins s σ H Q I h
 refine isTrue_or (thn (ha pins s σ H _ I h) λc s1 zz=>?_)
 obtain ⟨H1,I1,q1⟩:=zz
 cases c with
 | true=>exact ⟨H1,I1,q1⟩
 | false=>exact hb wh pins s1 σ H1 Q I1 q1
theorem dU (ha:PT X a tA):PT X (.UnaryOp .Not a pos) (tNot tA):=by
 intro pins s σ H Q I h
 exact isTrue_not (ha pins s σ H (λc H1=>Q (!c) H1) I h)
noncomputable def tAndV (ta tb:TE):TE:=fun σ H Q=>ta σ H λx H1=>XBl x λc=>if c=true then tb σ H1 Q else Q (.bl false) H1
noncomputable def tNotV (ta:TE):TE:=fun σ H Q=>ta σ H λx H1=>XBl x λc=>Q (.bl (!c)) H1
theorem mS {op} {t:TE} (h:PE X a t):PE X (.BoolOp op [a] pos) t:=λpins s σ H Q I hw=>BoolOp_one (h pins s σ H Q I hw)
theorem jD (ha:PE X a ta) (hb:PE X (.BoolOp .And (b::rest) pos) tb):PE X (.BoolOp .And (a::b::rest) pos) (tAndV ta tb):=by
 intro pins s σ H Q I h
 refine BoolOp_and (thn (ha pins s σ H _ I h) λv s1 zz=>?_)
 obtain ⟨x,H1,I1,r1,q1⟩:=zz
 obtain ⟨c,rfl,q1⟩:=q1
 cases r1
 refine wpAny_truthy_bool ?_
 cases c with
 | true=>exact hb pins s1 σ H1 Q I1 q1
 | false=>exact ⟨.bl false,H1,I1,rfl,q1⟩
theorem Dt (ha:PE X a ta):PE X (.UnaryOp .Not a pos) (tNotV ta):=by
 intro pins s σ H Q I h
 refine UnaryOp_ (thn (ha pins s σ H _ I h) λv s1 zz=>?_)
 obtain ⟨x,H1,I1,r1,q1⟩:=zz
 obtain ⟨c,rfl,q1⟩:=q1
 cases r1
 exact not_of (wpAny_truthy_bool ⟨.bl (!c),H1,I1,rfl,q1⟩)
noncomputable def tIf (t:TT) (ta tb:TE):TE:=fun σ H Q=>t σ H λc H1=>if c=true then ta σ H1 Q else tb σ H1 Q
theorem lR {c:Expr} (hc:PT X c tA) (ha:PE X a ta) (hb:PE X b tb):PE X (.IfExp c a b pos) (tIf tA ta tb):=by
 intro pins s σ H Q I h
 refine wpAny_IfExp (thn (hc pins s σ H _ I h) λd s1 zz=>?_)
 obtain ⟨H1,I1,q1⟩:=zz
 cases d with
 | true=>exact ha pins s1 σ H1 Q I1 q1
 | false=>exact hb pins s1 σ H1 Q I1 q1
end
noncomputable def SqL (K:PySem.W.Frag) (H:Hp) (a:Addr) (xs:List V):Prop :=
 Rd H a (.lst xs)\/
  ∃(o:Obj) (its:Array Value) (n:Nat),K.lookup a=some o/\o.cls=.type "list"/\o.dict=none/\o.data=.seq its n/\its.size<=sizeLine/\Vals xs its.toList
noncomputable def SqT (K:PySem.W.Frag) (H:Hp) (a:Addr) (xs:List V):Prop :=
 Rd H a (.tup xs)\/
  ∃(o:Obj) (its:Array Value) (n:Nat),K.lookup a=some o/\o.cls=.type "tuple"/\o.data=.seq its n/\its.size<=sizeLine/\Vals xs its.toList
noncomputable def absV:Value->Option V
 | .none=>some .non
 | .bool b=>some (.bl b)
 | .int i _=>some (.int i)
 | .str x _=>some (.str x)
 | .bytes b _=>some (.byt b)
 | .float b _=>some (.flt b)
 | .ref a=>some (.ref a)
 | .type n=>some (.ty n)
 | _=>none
theorem RelV.abs {x:V} {u:Value} (r:RelV x u):absV u=some x:=by
 cases x with
 | non=>cases r;rfl
 | bl _=>cases r;rfl
 | int _=>obtain ⟨t,rfl⟩:=r;rfl
 | str _=>obtain ⟨t,rfl⟩:=r;rfl
 | byt _=>obtain ⟨t,rfl⟩:=r;rfl
 | flt _=>obtain ⟨t,rfl⟩:=r;rfl
 | ref _=>cases r;rfl
 | ty _=>cases r;rfl
theorem RelV.inj {x y:V} {u:Value} (r:RelV x u) (q:RelV y u):x=y:=Option.some.inj (r.abs.symm.trans q.abs)
theorem Vals.inj:∀{xs ys:List V} {us:List Value},Vals xs us->Vals ys us->xs=ys
 | _,_,_,.nil,.nil=>rfl
 | _,_,_,.cons r t,.cons r' t'=>by rw [r.inj r',Vals.inj t t']
section
variable {X:Cx} {pins:List (Addr×Obj)} {σ:St} {H:Hp} {s:Shared} {a:Addr} {xs ys:List V}
theorem SqL.of {K:PySem.W.Frag} (h:H a=some (.lst xs)):SqL K H a xs:=.inl (.inl h)
theorem SqT.of {K:PySem.W.Frag} (h:H a=some (.tup xs)):SqT K H a xs:=.inl (.inl h)
theorem Inv.list (I:Inv X pins σ H s) (h:SqL X.K H a xs):∃ its:List Value,Vals xs its/\PlainL s.heap a its.toArray/\xs.length<=sizeLine:=by
 rcases h with h | ⟨o,its,n,hk,hc,hd,hs,hz,r⟩
 ·obtain ⟨z,its,n,r,e⟩:=h.ok I.hok
  exact ⟨its,r,⟨_,n,e,rfl,rfl,rfl⟩,z⟩
 ·refine ⟨its.toList,r,⟨o,n,I.kIn a o hk,hc,hd,by simpa using hs⟩,?_⟩
  have e:=r.length
  simp only [Array.length_toList] at e
  omega
theorem Inv.tuple (I:Inv X pins σ H s) (h:SqT X.K H a xs):∃ its:List Value,Vals xs its/\IsTup s.heap a its.toArray/\xs.length<=sizeLine:=by
 rcases h with h | ⟨o,its,n,hk,hc,hs,hz,r⟩
 ·obtain ⟨z,its,r,p⟩:=h.ok I.hok
  exact ⟨its,r,p,z⟩
 ·refine ⟨its.toList,r,⟨o,I.kIn a o hk,hc,n,by simpa using hs⟩,?_⟩
  have e:=r.length
  simp only [Array.length_toList] at e
  omega
theorem Inv.list_inj (I:Inv X pins σ H s) (h:SqL X.K H a xs) (h':SqL X.K H a ys):xs=ys:=by
 obtain ⟨its,r,⟨o,n,e,_,_,d⟩,_⟩:=I.list h
 obtain ⟨its',r',⟨o',n',e',_,_,d'⟩,_⟩:=I.list h'
 rw [e] at e';cases e'
 rw [d] at d'
 injection d' with d1 _
 have:its=its':=by simpa using congrArg Array.toList d1
 subst this
 exact r.inj r'
theorem Inv.tuple_inj (I:Inv X pins σ H s) (h:SqT X.K H a xs) (h':SqT X.K H a ys):xs=ys:=by
 obtain ⟨its,r,⟨o,e,_,n,d⟩,_⟩:=I.tuple h
 obtain ⟨its',r',⟨o',e',_,n',d'⟩,_⟩:=I.tuple h'
 rw [e] at e';cases e'
 rw [d] at d'
 injection d' with d1 _
 have:its=its':=by simpa using congrArg Array.toList d1
 subst this
 exact r.inj r'
end
noncomputable abbrev Cx.wish (X:Cx) (E:Value->Shared->Prop):Cx:={X with xe:=E}
noncomputable abbrev Cx.nox (X:Cx):Cx:=X.wish λ_ _=>False
theorem Cx.Ok.wish {X:Cx} (ok:X.Ok) (E:Value->Shared->Prop):(X.wish E).Ok :=
 ⟨ok.mod,ok.kind,ok.glob,ok.blt,ok.above,ok.inj,ok.has,ok.cab,ok.hd,ok.frames,ok.stk,ok.exf,ok.bs,ok.bsz,ok.noex,ok.exfs,ok.funs,ok.frf⟩
theorem Cx.Ok.unwish {X:Cx} {E:Value->Shared->Prop} (ok:(X.wish E).Ok):X.Ok :=
 ⟨ok.mod,ok.kind,ok.glob,ok.blt,ok.above,ok.inj,ok.has,ok.cab,ok.hd,ok.frames,ok.stk,ok.exf,ok.bs,ok.bsz,ok.noex,ok.exfs,ok.funs,ok.frf⟩
section
variable {X:Cx} {pins:List (Addr×Obj)} {σ:St} {H:Hp} {s:Shared} {E:Value->Shared->Prop}
theorem Inv.wish (I:Inv X pins σ H s) (E:Value->Shared->Prop):Inv (X.wish E) pins σ H s:=⟨I.ok.wish E,I.os,I.bare,I.base,I.loc,I.cell,I.free,I.freeC,I.pin,I.hok,I.len⟩
theorem Inv.unwish (I:Inv (X.wish E) pins σ H s):Inv X pins σ H s:=⟨I.ok.unwish,I.os,I.bare,I.base,I.loc,I.cell,I.free,I.freeC,I.pin,I.hok,I.len⟩
theorem SP.unwish {D:Ends} {f:Flow} {s':Shared} (h:SP (X.wish E) pins D f s'):SP X pins D f s':=by
 cases f with
 | next=>obtain ⟨σ',H',I,q⟩:=h;exact ⟨σ',H',I.unwish,q⟩
 | brk=>obtain ⟨σ',H',I,q⟩:=h;exact ⟨σ',H',I.unwish,q⟩
 | cont=>obtain ⟨σ',H',I,q⟩:=h;exact ⟨σ',H',I.unwish,q⟩
 | ret u=>obtain ⟨v,σ',H',I,r,q⟩:=h;exact ⟨v,σ',H',I.unwish,r,q⟩
theorem PSs.nox {st:List Stmt} {t:TS} (h:PSs X.nox st t):PSs X st t:=λpins s σ H D I hw =>
 wpAny_mono (h pins s σ H D (I.wish _) hw) (λ_ _ q=>q.unwish) λ_ _ z=>False.elim z
end
section
variable {X:Cx} {st:Stmt} {rest:List Stmt} {t u:TS} {e:Expr} {te:TE} {pos:Pos}
noncomputable def Cb:TS:=λD σ H=>D.nx σ H
noncomputable def Ca (t u:TS):TS:=λD σ H=>t {D with nx:=u D} σ H
theorem aG:PSs X [] Cb:=λ_ _ σ H _ I h=>wpAny_execs_nil ⟨σ,H,I,h⟩
theorem ag (h1:PS X st t) (h2:PSs X rest u):PSs X (st::rest) (Ca t u):=by
 intro pins s σ H D I h
 refine wpAny_execs_cons (thn (h1 pins s σ H {D with nx:=u D} I h) λf s1 q=>?_)
 cases f with
 | next =>
  obtain ⟨σ',H',I',q⟩:=q
  exact h2 pins s1 σ' H' D I' q
 | ret v=>exact q
 | brk=>exact q
 | cont=>exact q
theorem ak (h1:PS X st t):PSs X [st] t:=by
 intro pins s σ H D I h
 refine wpAny_execs_cons (thn (h1 pins s σ H D I h) λf s1 q=>?_)
 cases f with
 | next=>exact wpAny_execs_nil q
 | ret v=>exact q
 | brk=>exact q
 | cont=>exact q
theorem Inv.quiet {pins:List (Addr×Obj)} {σ:St} {H:Hp} {s:Shared} (I:Inv X pins σ H s):interactive X.env=false:=by simp [interactive,I.ok.kind]
noncomputable def tDrop (te:TE):TS:=λD σ H=>te σ H λ_ H1=>D.nx σ H1
theorem bb (he:PE X e te) (hs:swapsWith e none pos.line X.env=pure false:=by rfl):PS X (.Expr e pos) (tDrop te):=by
 intro pins s σ H D I h
 refine wpAny_Expr_any (thn (he pins s σ H _ I h) λv s1 zz=>?_) I.quiet hs
 obtain ⟨x,H1,I1,r1,q1⟩:=zz
 exact ⟨σ,H1,I1,q1⟩
noncomputable def Ai (te:TE):TS:=λD σ H=>te σ H D.rt
theorem av (he:PE X e te):PS X (.Return (some e) pos) (Ai te):=by
 intro pins s σ H D I h
 refine wpAny_Return_some (thn (he pins s σ H _ I h) λv s1 zz=>?_)
 obtain ⟨x,H1,I1,r1,q1⟩:=zz
 exact ⟨x,σ,H1,I1,r1,q1⟩
noncomputable def tIfS (c:TT) (t u:TS):TS:=λD σ H=>c σ H λb H1=>if b=true then t D σ H1 else u D σ H1
theorem aO {c:Expr} {a b:List Stmt} {tc:TT} (hc:PT X c tc) (ha:PSs X a t) (hb:PSs X b u):PS X (.If c a b pos) (tIfS tc t u):=by
 intro pins s σ H D I h
 refine wpAny_If (thn (hc pins s σ H _ I h) λd s1 zz=>?_)
 obtain ⟨H1,I1,q1⟩:=zz
 cases d with
 | true=>exact ha pins s1 σ H1 D I1 q1
 | false=>exact hb pins s1 σ H1 D I1 q1
noncomputable def tNever:TS:=λ_ _ _=>False
theorem vv:PS X st tNever:=λ_ _ _ _ _ _ h=>h.elim
end
noncomputable abbrev TG:=V->St->Hp->(St->Hp->Prop)->Prop
noncomputable abbrev TGs:=List V->St->Hp->(St->Hp->Prop)->Prop
noncomputable def PG (X:Cx) (target:Expr) (t:TG):Prop :=
 ∀(
  pins:List (Addr×Obj)) (s:Shared) (σ:St) (H:Hp) (v:V) (u:Value) (Q:St->Hp->Prop),Inv X pins σ H s->RelV v u->t v σ H Q->
  wpAny (model X.prog X.w) X.A (assign target X.env u) (λ_ s'=>∃ σ' H',Inv X pins σ' H' s'/\Q σ' H') X.xe s
noncomputable def PGs (X:Cx) (ts:List Expr) (t:TGs):Prop :=
 ∀(
  pins:List (Addr×Obj)) (s:Shared) (σ:St) (H:Hp) (vs:List V) (us:List Value) (Q:St->Hp->Prop),Inv X pins σ H s->Vals vs us->t vs σ H Q->
  wpAny (model X.prog X.w) X.A (assignInOrder ((assignEach ts X.env).map (·.2)) us) (λ_ s'=>∃ σ' H',Inv X pins σ' H' s'/\Q σ' H') X.xe s
section
variable {X:Cx} {pos:Pos}
noncomputable def rQ (i:Nat):TG:=λv σ H Q=>Q (σ.set i (some v)) H
theorem aV {i:Nat} {x:Str} (hN:X.N.Nodup) (hi:X.N[i]?=some x) (hx:Loc X.env.scope x) (hf:X.fn x=true\/X.env.scope.names.lookup x=some .local:=by first | exact .inl rfl | exact .inr rfl | assumption):PG X (.Name x pos) (rQ i):=by
 intro pins s σ H v u Q I r h
 exact wpAny_assign_Name (uz I hN hi hx r (λs' I'=>⟨_,H,I',h⟩) hf)
noncomputable def gNil:TGs:=λvs σ H Q=>vs=[]/\Q σ H
noncomputable def gCons (t:TG) (u:TGs):TGs:=λvs σ H Q=>∃ v r,vs=v::r/\t v σ H fun σ' H'=>u r σ' H' Q
theorem dO:PGs X [] gNil:=by
 intro pins s σ H vs us Q I r h
 obtain ⟨e,h⟩:=h
 subst e
 cases r
 exact assignInOrder_nil ⟨σ,H,I,h⟩
theorem bg {e:Expr} {es:List Expr} {t:TG} {u:TGs} (h1:PG X e t) (h2:PGs X es u)
  (hs:(assignEach (e::es) X.env).map (·.2)=assign e X.env::(assignEach es X.env).map (·.2):=by rfl):PGs X (e::es) (gCons t u):=by
 intro pins s σ H vs us Q I r h
 obtain ⟨v,vr,e1,h⟩:=h
 subst e1
 cases r with
 | cons r rr =>
  rw [hs]
  refine assignInOrder_cons (thn (h1 pins s σ H _ _ _ I r h) λ_ s1 zz=>?_)
  obtain ⟨σ1,H1,I1,q1⟩:=zz
  exact h2 pins s1 σ1 H1 _ _ Q I1 rr q1
noncomputable def gTup (K:PySem.W.Frag) (n:Nat) (t:TGs):TG:=λv σ H Q=>∃ a xs,v=.ref a/\SqT K H a xs/\xs.length=n/\t xs σ H Q
theorem jB {es:List Expr} {k:Nat} {t:TGs} {n:Nat} (hc:X.calm=true) (h:PGs X es t)
  (hn:(assignEach es X.env).length=n:=by rfl) (hst:(assignEach es X.env).findIdx? (·.1)=none:=by rfl):PG X (.Tuple es k pos) (gTup X.K n t):=by
 intro pins s σ H v u Q I r hw
 obtain ⟨a,xs,e1,hq,hl,hw⟩:=hw
 subst e1
 cases r
 obtain ⟨its,rv,ht,hz⟩:=I.tuple hq
 refine assign_Tuple_tuple (I.ok.hd hc) ht (by simp [hn,<- hl,rv.length]) hst λh' hx=>?_
 have I1:Inv X pins σ H {s with heap:=h' }:=I.kept (t':=s.toks) λb o e=>hx b o (Nat.ne_of_lt (Heap.lt_size e)) e
 exact h pins _ σ H xs _ Q I1 (by simpa using rv) hw
noncomputable def tAsg (te:TE) (g:TG):TS:=λD σ H=>te σ H λx H1=>g x σ H1 D.nx
theorem sY {tg e:Expr} {te:TE} {g:TG} (he:PE X e te) (hg:PG X tg g) (hs:swapsWithSole [tg] e pos.line X.env=pure false:=by rfl) (hw:swappedStores [tg] e X.env=pure none:=by rfl)
  (h1:(assignEach [tg] X.env).map (·.2)=[assign tg X.env]:=by rfl):PS X (.Assign [tg] e pos) (tAsg te g):=by
 intro pins s σ H D I h
 refine wpAny_Assign_stores (thn (he pins s σ H _ I h) λv s1 zz=>?_) hs hw
 obtain ⟨x,H1,I1,r1,q1⟩:=zz
 rw [h1]
 exact thn (hg pins s1 σ H1 x v _ I1 r1 q1) λ_ s2 q=>q
theorem aJ {i:Nat} {x:Str} {e:Expr} {te:TE} {pos':Pos} (hN:X.N.Nodup) (hi:X.N[i]?=some x) (hx:Loc X.env.scope x) (he:PE X e te) (hs:swapsWith e (some (.Name x pos')) pos.line X.env=pure false:=by rfl) (hf:X.fn x=true\/X.env.scope.names.lookup x=some .local:=by first | exact .inl rfl | exact .inr rfl | assumption) :
  PS X (.Assign [.Name x pos'] e pos) (tAsg te (rQ i)):=by
 intro pins s σ H D I h
 refine wpAny_Assign_Name (thn (he pins s σ H _ I h) λv s1 zz=>?_) hs
 obtain ⟨y,H1,I1,r1,q1⟩:=zz
 exact uz I1 hN hi hx r1 (λs2 I2=>⟨_,H1,I2,q1⟩) hf
end
section
variable {X:Cx} {pos:Pos}
noncomputable def tWhile (c:TT) (tb:TS):TS:=λD σ H=>∃ W:Nat->St->Hp->Prop,(∃ m,W m σ H)/\∀ m σ H,W m σ H->
 c σ H λb H1=>if b=true then ∃ N:St->Hp->Prop,(∀ σ' H',N σ' H'->∃ m',m' < m/\W m' σ' H')/\tb {D with nx:=N,ct:=N,bk:=D.nx} σ H1 else D.nx σ H1
theorem iQ {c:Expr} {body:List Stmt} {tc:TT} {tb:TS} (hp:PassesOwn (model X.prog X.w) X.A X.env X.xe) (hc:PT X c tc) (hb:PSs X body tb):PS X (.While c body [] pos) (tWhile tc tb):=by
 intro pins s σ H D I h
 obtain ⟨W,⟨m0,w0⟩,turn⟩:=h
 refine wpAny_While (codeAny_whileLoop (λn s'=>∃ σ' H',Inv X pins σ' H' s'/\W n σ' H') ?_ m0 ⟨σ,H,I,w0⟩)
 rintro n s1 ⟨σ1,H1,I1,w1⟩
 refine wpAny_passesOwn hp (thn (hc pins s1 σ1 H1 _ I1 (turn n σ1 H1 w1)) λb s2 zz=>?_)
 obtain ⟨H2,I2,q2⟩:=zz
 cases b with
 | true =>
  obtain ⟨N,hN,q2⟩:=q2
  rw [if_pos rfl]
  refine wpAny_passesOwn hp (thn (hb pins s2 σ1 H2 _ I2 q2) λf s3 q3=>?_)
  cases f with
  | next =>
   obtain ⟨σ3,H3,I3,n3⟩:=q3
   obtain ⟨m',hm,w3⟩:=hN σ3 H3 n3
   exact ⟨m',hm,σ3,H3,I3,w3⟩
  | cont =>
   obtain ⟨σ3,H3,I3,n3⟩:=q3
   obtain ⟨m',hm,w3⟩:=hN σ3 H3 n3
   exact ⟨m',hm,σ3,H3,I3,w3⟩
  | brk=>exact q3
  | ret v=>exact q3
 | false =>
  rw [if_neg Bool.false_ne_true]
  exact wpAny_execs_nil ⟨σ1,H2,I2,q2⟩
end
structure It where
 go:Nat->Hp->Prop
 yld:Nat->Hp->V->Hp->Prop
 stop:Nat->Hp->Prop
noncomputable def iW (X:Cx) (pins:List (Addr×Obj)) (H:Hp) (b:Addr):Prop :=
 H b=none/\b≠X.env.locals/\b ∉ X.fs/\(b∈X.ex\/X.s₀.heap.objs.size<=b)/\(∀ x c,X.env.cells.lookup x=some c->c≠b)/\∀ p∈X.pn++pins,p.1≠b
theorem Inv.fpOk {X:Cx} {pins:List (Addr×Obj)} {σ:St} {H H':Hp} {s:Shared} {b:Addr} (I:Inv X pins σ H s) (hb:s.heap.objs.size<=b) (hn:H' b=none):iW X pins H' b:=by
 refine ⟨hn,Nat.ne_of_gt (Nat.lt_of_lt_of_le I.lt hb),I.nofs hb,.inr (Nat.le_trans I.sz hb),λx c e z=>?_,λp hp z=>?_⟩
 ·obtain ⟨v,q⟩:=I.cell x c e
  exact absurd (Nat.lt_of_lt_of_le q.lt (by rw [z];exact hb)) (Nat.lt_irrefl _)
 ·exact absurd (Nat.lt_of_lt_of_le (Heap.lt_size (I.pin p hp).1) (by rw [z];exact hb)) (Nat.lt_irrefl _)
structure Turn (P:Program) (w:World) (K:PySem.W.Frag) (tg:Expr) (J:It) (fp:List Addr) (it:Addr) (tn:Nat->Heap->Prop):Prop where
 mem:it∈fp
 obj:∀ i h,tn i h->∀ b∈fp,∃ o,h.get? b=some o/\∀ v,o.data≠.cell v
 keep:∀ i h h',tn i h->(∀ b∈fp,∀ o,h.get? b=some o->h'.get? b=some o)->tn i h'
 item:∀(X:Cx),X.prog=P->X.w=w->X.K=K->X.calm=true->∀(i:Nat) (pins:List (Addr×Obj)) (s:Shared) (σ:St) (H:Hp) (E:Value->Shared->Prop),Inv X pins σ H s->(∀ b∈fp,iW X pins H b)->tn i s.heap->J.go i H->
  wpAny (model P w) X.A (pyNext (.ref it)) (λr s1=>∃ u,r=some u/\
   wpAny (model P w) X.A (letOwnedTupleGo tg (.ref it) u) (λ_ s2=>∃ x H',Inv X pins σ H' s2/\RelV x u/\J.yld i H x H'/\tn (i+1) s2.heap/\∀ b∈fp,H' b=none) E s1) E s
 done:∀(X:Cx),X.prog=P->X.w=w->X.K=K->X.calm=true->∀(i:Nat) (pins:List (Addr×Obj)) (s:Shared) (σ:St) (H:Hp) (E:Value->Shared->Prop),Inv X pins σ H s->(∀ b∈fp,iW X pins H b)->tn i s.heap->J.stop i H->
  wpAny (model P w) X.A (pyNext (.ref it)) (λr s1=>r=none/\Inv X pins σ H s1) E s
 self:∀(A:Around) (i:Nat) (s:Shared) (Q:Value->Shared->Prop) (E:Value->Shared->Prop),tn i s.heap->Q (.ref it) s->wpAny (model P w) A (pyIter (.ref it)) Q E s
noncomputable abbrev TI:=St->Hp->(It->Hp->Prop)->Prop
noncomputable def PIE (X:Cx) (pins:List (Addr×Obj)) (σ:St) (tg:Expr) (R:It->Hp->Prop) (itv:Value) (s2:Shared):Prop :=
 ∃(it:Addr) (fp:List Addr) (tn:Nat->Heap->Prop) (J:It) (H':Hp),itv=.ref it/\Inv X pins σ H' s2/\Turn X.prog X.w X.K tg J fp it tn/\tn 0 s2.heap/\(∀ b∈fp,iW X pins H' b)/\R J H'
noncomputable def PI (X:Cx) (tg iter:Expr) (wi:TI):Prop :=
 ∀(
  pins:List (Addr×Obj)) (s:Shared) (σ:St) (H:Hp) (R:It->Hp->Prop),Inv X pins σ H s->wi σ H R->
  wpAny (model X.prog X.w) X.A (eval iter X.env) (λv s1=>wpAny (model X.prog X.w) X.A (pyIter v) (PIE X pins σ tg R) X.xe s1) X.xe s
theorem Ej {M:Model} {A:Around} {E:Value->Shared->Prop} {s:Shared} {tg:Expr} {it:Addr} {u:Value} {o:Obj} {n:String} {vs:Array Value} {Q:Unit->Shared->Prop} (ho:s.heap.get? it=some o) (hc:o.cls=.type n) (hd:o.data=.fields vs)
  (hn:["enumerate","zip","dict_itemiterator","dict_reverseitemiterator","odict_iterator","itertools.zip_longest","itertools.pairwise"].contains n=false) (hQ:Q () s):wpAny M A (letOwnedTupleGo tg (.ref it) u) Q E s:=by
 unfold letOwnedTupleGo
 cases tg <;> first
  | exact wpAny_pure hQ
  | (cases u <;> first
    | exact wpAny_pure hQ
    | (
     refine wpAny_bind (wpAny_load ho ?_)
     rw [hc,hd]
     show wpAny M A (if (["enumerate","zip","dict_itemiterator","dict_reverseitemiterator","odict_iterator","itertools.zip_longest","itertools.pairwise"].contains n && vs[0]? == some (rawInt _))=true then _ else _) Q E s
     rw [if_neg (by intro h;rw [hn,Bool.false_and] at h;cases h)]
     exact wpAny_pure hQ))
noncomputable def Itl (K:PySem.W.Frag) (a:Addr):It :=
 ⟨λi H=>∃ xs x,SqL K H a xs/\xs[i]?=some x,λi H x H'=>H'=H/\∀ xs,SqL K H a xs->xs[i]?=some x,λi H=>∃ xs,SqL K H a xs/\xs.length<=i⟩
noncomputable def Itt (K:PySem.W.Frag) (a:Addr):It :=
 ⟨λi H=>∃ xs x,SqT K H a xs/\xs[i]?=some x,λi H x H'=>H'=H/\∀ xs,SqT K H a xs->xs[i]?=some x,λi H=>∃ xs,SqT K H a xs/\xs.length<=i⟩
noncomputable def Itr (lo:Int) (n:Nat):It:=⟨λi _=>i < n,λi H x H'=>H'=H/\x=.int (lo+i),λi _=>n<=i⟩
theorem Ab {P:Program} {w:World} {K:PySem.W.Frag} {tg:Expr} (a it:Addr):Turn P w K tg (Itl K a) [it] it (λi h=>h.IsListIter it a i) where
 mem:=by simp
 obj:=λi h st b hb=>by
  have e:b=it:=by simpa using hb
  subst e
  obtain ⟨o,e,c,d⟩:=st
  exact ⟨o,e,λv z=>by rw [d] at z;cases z⟩
 keep:=λi h h' st k=>st.at λo e=>k it (by simp) o e
 item:=by
  intro X hP hw hK hc i pins s σ H E I hf st hg
  subst hP hw hK
  obtain ⟨xs,x,hq,hx⟩:=hg
  obtain ⟨its,rv,p,hz⟩:=I.list hq
  obtain ⟨u,hu,ru⟩:=rv.get hx
  obtain ⟨f0,f1,f2,f3,f4,f5⟩:=hf it (by simp)
  refine wpAny_pyNext_list_item st p.isList (x:=u) (by simpa using hu) λh' st' sb=>?_
  have I1:Inv X pins σ H {s with heap:=h' }:=I.turned (t':=s.toks) (λb o hb e=>(sb.2 b hb).trans e) f0 f1 f3 f4 f5
  obtain ⟨o,e,c,d⟩:=id st'
  exact ⟨u,rfl,Ej (s:={s with heap:=h' }) e c d (by decide) ⟨x,H,I1,ru,⟨rfl,λys hy=>by rw [I.list_inj hy hq];exact hx⟩,st',λb hb=>(hf b hb).1⟩⟩
 done:=by
  intro X hP hw hK hc i pins s σ H E I hf st hg
  subst hP hw hK
  obtain ⟨xs,hq,hx⟩:=hg
  obtain ⟨its,rv,p,hz⟩:=I.list hq
  obtain ⟨f0,f1,f2,f3,f4,f5⟩:=hf it (by simp)
  have hl:=rv.length
  exact wpAny_pyNext_list_end (I.ok.hd hc) st p.isList (by simp;omega) λh' eb=>⟨rfl,I.turned (t':=s.toks) (λb o hb e=>eb b o hb e) f0 f1 f3 f4 f5⟩
 self:=λ_ _ _ _ _ st h=>wpAny_pyIter_listiter st h
theorem wR {P:Program} {w:World} {K:PySem.W.Frag} {tg:Expr} (a it:Addr):Turn P w K tg (Itt K a) [it] it (λi h=>h.IsTupleIter it a i) where
 mem:=by simp
 obj:=λi h st b hb=>by
  have e:b=it:=by simpa using hb
  subst e
  obtain ⟨o,e,c,d⟩:=st
  exact ⟨o,e,λv z=>by rw [d] at z;cases z⟩
 keep:=λi h h' st k=>st.at λo e=>k it (by simp) o e
 item:=by
  intro X hP hw hK hc i pins s σ H E I hf st hg
  subst hP hw hK
  obtain ⟨xs,x,hq,hx⟩:=hg
  obtain ⟨its,rv,p,hz⟩:=I.tuple hq
  obtain ⟨u,hu,ru⟩:=rv.get hx
  obtain ⟨f0,f1,f2,f3,f4,f5⟩:=hf it (by simp)
  refine wpAny_pyNext_tuple_item st (show s.heap.IsTuple a its.toArray from p) (x:=u) (by simpa using hu) λh' st' sb=>?_
  have I1:Inv X pins σ H {s with heap:=h' }:=I.turned (t':=s.toks) (λb o hb e=>(sb.2 b hb).trans e) f0 f1 f3 f4 f5
  obtain ⟨o,e,c,d⟩:=id st'
  exact ⟨u,rfl,Ej (s:={s with heap:=h' }) e c d (by decide) ⟨x,H,I1,ru,⟨rfl,λys hy=>by rw [I.tuple_inj hy hq];exact hx⟩,st',λb hb=>(hf b hb).1⟩⟩
 done:=by
  intro X hP hw hK hc i pins s σ H E I hf st hg
  subst hP hw hK
  obtain ⟨xs,hq,hx⟩:=hg
  obtain ⟨its,rv,p,hz⟩:=I.tuple hq
  obtain ⟨f0,f1,f2,f3,f4,f5⟩:=hf it (by simp)
  have hl:=rv.length
  exact wpAny_pyNext_tuple_end (I.ok.hd hc) st (show s.heap.IsTuple a its.toArray from p) (by simp;omega) λh' eb=>⟨rfl,I.turned (t':=s.toks) (λb o hb e=>eb b o hb e) f0 f1 f3 f4 f5⟩
 self:=λ_ _ _ _ _ st h=>wpAny_pyIter_tupleiter st h
theorem wU {P:Program} {w:World} {K:PySem.W.Frag} {tg:Expr} (it:Addr) (lo:Int) (n:Nat):Turn P w K tg (Itr lo n) [it] it (λi h=>IsRangeIter h it (lo+(i:Nat)*1) ((n:Int) - (i:Nat)) 1) where
 mem:=by simp
 obj:=λi h st b hb=>by
  have e:b=it:=by simpa using hb
  subst e
  exact ⟨_,st,λv z=>by
   have z':Data.fields _=Data.cell v:=z
   cases z'⟩
 keep:=λi h h' st k=>k it (by simp) _ st
 item:=by
  intro X hP hw hK hc i pins s σ H E I hf st hg
  subst hP hw hK
  obtain ⟨f0,f1,f2,f3,f4,f5⟩:=hf it (by simp)
  have W:=Walks.range (prog:=X.prog) (w:=X.w) (I.ok.hd hc) it lo 1 n
  refine W.item i s _ _ hg st λv h' tk hv st' kk=>?_
  obtain ⟨t,rfl⟩:=hv
  have I1:Inv X pins σ H {s with heap:=h',toks:=tk}:=I.turned (λb o hb e=>kk b o (by simpa using hb) e) f0 f1 f3 f4 f5
  refine ⟨_,rfl,Ej (s:={s with heap:=h',toks:=tk}) (n:="range_iterator") st' rfl rfl (by decide) ⟨.int (lo+i),H,I1,⟨t,?_⟩,⟨rfl,rfl⟩,st',λb hb=>(hf b hb).1⟩⟩
  rw [Int.mul_one]
 done:=by
  intro X hP hw hK hc i pins s σ H E I hf st hg
  subst hP hw hK
  obtain ⟨f0,f1,f2,f3,f4,f5⟩:=hf it (by simp)
  exact wpAny_pyNext_range_end (I.ok.hd hc) st (by have:n<=i:=hg;omega) λh' eb=>⟨rfl,I.turned (t':=s.toks) (λb o hb e=>eb b o hb e) f0 f1 f3 f4 f5⟩
 self:=λ_ _ _ _ _ st h=>wpAny_pyIter_rangeiter st h
section
variable {X:Cx} {tg:Expr}
noncomputable def iList (K:PySem.W.Frag) (tl:TE):TI:=fun σ H R=>tl σ H λx H1=>∃ a,x=.ref a/\(∃ xs,SqL K H1 a xs)/\R (Itl K a) H1
noncomputable def iTup (K:PySem.W.Frag) (tl:TE):TI:=fun σ H R=>tl σ H λx H1=>∃ a,x=.ref a/\(∃ xs,SqT K H1 a xs)/\R (Itt K a) H1
theorem cQ {l:Expr} {tl:TE} (hl:PE X l tl):PI X tg l (iList X.K tl):=by
 intro pins s σ H R I h
 refine thn (hl pins s σ H _ I h) λv s1 zz=>?_
 obtain ⟨x,H1,I1,r1,q1⟩:=zz
 obtain ⟨a,e,⟨xs,hq⟩,q⟩:=q1
 subst e
 cases r1
 obtain ⟨its,rv,p,hz⟩:=I1.list hq
 refine wpAny_pyIter_list p.isList ?_
 refine ⟨s1.heap.objs.size,[s1.heap.objs.size],_,_,H1,rfl,I1.kept (t':=s1.toks) λb o e=>Heap.get?_push_of_some _ e,Ab a _,⟨_,Heap.get?_push_size _ rfl,rfl,rfl⟩,λb hb=>?_,q⟩
 have e:b=s1.heap.objs.size:=by simpa using hb
 subst e
 exact I1.fpOk (Nat.le_refl _) (I1.hok.fresh (Nat.le_refl _))
theorem kN {l:Expr} {tl:TE} (hl:PE X l tl):PI X tg l (iTup X.K tl):=by
 intro pins s σ H R I h
 refine thn (hl pins s σ H _ I h) λv s1 zz=>?_
 obtain ⟨x,H1,I1,r1,q1⟩:=zz
 obtain ⟨a,e,⟨xs,hq⟩,q⟩:=q1
 subst e
 cases r1
 obtain ⟨its,rv,p,hz⟩:=I1.tuple hq
 refine wpAny_pyIter_tuple (show s1.heap.IsTuple a its.toArray from p) ?_
 refine ⟨s1.heap.objs.size,[s1.heap.objs.size],_,_,H1,rfl,I1.kept (t':=s1.toks) λb o e=>Heap.get?_push_of_some _ e,wR a _,⟨_,Heap.get?_push_size _ rfl,rfl,rfl⟩,λb hb=>?_,q⟩
 have e:b=s1.heap.objs.size:=by simpa using hb
 subst e
 exact I1.fpOk (Nat.le_refl _) (I1.hok.fresh (Nat.le_refl _))
theorem Dd {pins:List (Addr×Obj)} {σ:St} {H:Hp} {s:Shared} {R:It->Hp->Prop} {E:Value->Shared->Prop} {lo hi:Int} {t u v:Tok} {tk:Nat} (I:Inv X pins σ H s) (h1:-(2 ^ 62)<=lo) (h2:lo < 2 ^ 62) (h3:-(2 ^ 62)<=hi) (h4:hi < 2 ^ 62)
  (q:R (Itr lo (hi - lo).toNat) H):wpAny (model X.prog X.w) X.A (pyIter (.ref s.heap.objs.size)) (PIE X pins σ tg R) E {s with heap:=s.heap.push {cls:=.type "range",data:=.fields #[.int lo t,.int hi u,.int 1 v] },toks:=tk}:=by
 refine wpAny_pyIter_range (IsRange.new ..) (small_one h1 h2 h3 h4) ?_
 have I1:Inv X pins σ H {s with heap:=s.heap.push {cls:=.type "range",data:=.fields #[.int lo t,.int hi u,.int 1 v] },toks:=tk}:=I.kept λb o e=>Heap.get?_push_of_some _ e
 refine ⟨(s.heap.push {cls:=.type "range",data:=.fields #[.int lo t,.int hi u,.int 1 v] }).objs.size,[(s.heap.push {cls:=.type "range",data:=.fields #[.int lo t,.int hi u,.int 1 v] }).objs.size],_,_,H,rfl,
  I1.kept (t':=tk) λb o e=>Heap.get?_push_of_some _ e,wU _ lo (hi - lo).toNat,?_,λb hb=>?_,q⟩
 ·have e1:lo+((0:Nat):Int)*1=lo:=by simp
  have e2:(((hi - lo).toNat:Nat):Int) - ((0:Nat):Int)=Builtin.Range.rangeSize lo hi 1:=by rw [rangeSize_one];split <;> omega
  show IsRangeIter _ _ (lo+((0:Nat):Int)*1) ((((hi - lo).toNat:Nat):Int) - ((0:Nat):Int)) 1
  rw [e1,e2]
  exact Heap.get?_push_size _ rfl
 ·have e:b=(s.heap.push {cls:=.type "range",data:=.fields #[.int lo t,.int hi u,.int 1 v] }).objs.size:=by simpa using hb
  subst e
  exact I1.fpOk (Nat.le_refl _) (I1.hok.fresh (Nat.le_refl _))
noncomputable def iRng1 (ta:TA):TI:=fun σ H R=>ta σ H λvs H1=>∃ j:Int,vs=[.int j]/\-(2 ^ 62)<=j/\j < 2 ^ 62/\R (Itr 0 j.toNat) H1
theorem rA {a:Expr} {ta:TA} {p pos:Pos} (hg:Gl X "range") (hm:X.mg "range"=none) (ha:PA X [a] ta) (hs:starEach [a] X.env=[(false,eval a X.env)]:=by rfl):PI X tg (.Call (.Name "range" p) [a] [] pos) (iRng1 ta):=by
 intro pins s σ H R I h
 refine Call_ (mX I hg hm boot_range (PyProof.Rows.callWith_type1 (thn (ha pos pins s σ H _ I h) λus s1 zz=>?_) hs rfl))
 obtain ⟨vs,H1,I1,r1,q1⟩:=zz
 obtain ⟨j,e,q1,q2,q⟩:=q1
 subst e
 cases r1 with
 | cons r rr =>
  cases rr
  obtain ⟨t,rfl⟩:=r
  exact call_range_1 (Dd I1 (by omega) (by omega) q1 q2 (by simpa using q))
noncomputable def tFor (wi:TI) (g:TG) (tb:TS):TS:=λD σ H=>wi σ H λJ H1=>∃ W:Nat->Nat->St->Hp->Prop,(∃ m,W 0 m σ H1)/\∀ i m σ H,W i m σ H->
 (J.stop i H/\D.nx σ H)\/(J.go i H/\∃ N:St->Hp->Prop,(∀ σ' H',N σ' H'->∃ m',m' < m/\W (i+1) m' σ' H')/\∀ x H',J.yld i H x H'->g x σ H' fun σ2 H2=>tb {D with nx:=N,ct:=N,bk:=D.nx} σ2 H2)
noncomputable def pK (fp:List Addr) (h:Heap):List (Addr×Obj):=fp.filterMap λb=>(h.get? b).map λo=>(b,o)
theorem fH {fp:List Addr} {h:Heap} {b:Addr} {o:Obj} (hb:b∈fp) (e:h.get? b=some o):(b,o)∈pK fp h:=List.mem_filterMap.mpr ⟨b,hb,by rw [e];rfl⟩
theorem AR {fp:List Addr} {h:Heap} {p:Addr×Obj} (hp:p∈pK fp h):p.1∈fp/\h.get? p.1=some p.2:=by
 obtain ⟨b,hb,e⟩:=List.mem_filterMap.mp hp
 cases q:h.get? b with
 | none=>rw [q] at e;cases e
 | some o =>
  rw [q] at e
  have e':(b,o)=p:=Option.some.inj e
  subst e'
  exact ⟨hb,q⟩
theorem Inv.pinned {pins:List (Addr×Obj)} {σ:St} {H:Hp} {s:Shared} {fp:List Addr} (I:Inv X pins σ H s) (hf:∀ b∈fp,iW X pins H b) (ho:∀ b∈fp,∃ o,s.heap.get? b=some o/\∀ v,o.data≠.cell v):Inv X (pins++pK fp s.heap) σ H s :=
 I.pins_of λp hp=>(List.mem_append.mp hp).elim (λz=>I.pin p (List.mem_append_right _ z)) λz=>by
  obtain ⟨hb,e⟩:=AR z
  obtain ⟨f0,f1,f2,_⟩:=hf p.1 hb
  obtain ⟨o,e',d⟩:=ho p.1 hb
  rw [e] at e';cases e'
  exact ⟨e,f0,f1,f2,d⟩
theorem Inv.unpinned {pins pl:List (Addr×Obj)} {σ:St} {H:Hp} {s:Shared} (I:Inv X (pins++pl) σ H s):Inv X pins σ H s:=I.pins_of λp hp=>I.pin p (List.mem_append_right _ (List.mem_append_left _ hp))
theorem fD {iter:Expr} {body:List Stmt} {wi:TI} {g:TG} {tb:TS} {pos:Pos} (hp:PassesOwn (model X.prog X.w) X.A X.env X.xe) (hc:X.calm=true) (hi:PI X tg iter wi) (hg:PG X tg g) (hb:PSs X body tb)
  (hs:∀ x,foldedSetIterable iter X.env x=pure x:=by intro _;rfl):PS X (.For tg iter body [] pos) (tFor wi g tb):=by
 intro pins s σ H D I h
 refine wpAny_For (thn (hi pins s σ H _ I h) λv s1 h1=>thn h1 λitv s2 h2=>?_) hs
 obtain ⟨it,fp,tn,J,H2,e,I2,T,st2,f2,W,⟨m0,w0⟩,turn⟩:=h2
 subst e
 have stat:∀{H':Hp},(∀ b∈fp,H' b=none)->∀ b∈fp,iW X pins H' b:=λhn b hb=>⟨hn b hb,(f2 b hb).2⟩
 refine codeAny_forLoop_any (λn s'=>∃ i σ' H',Inv X pins σ' H' s'/\tn i s'.heap/\(∀ b∈fp,H' b=none)/\W i n σ' H') ?_ m0 ⟨0,σ,H2,I2,st2,λb hb=>(f2 b hb).1,w0⟩
 rintro n s3 ⟨i,σ3,H3,I3,st3,fr3,w3⟩
 rcases turn i n σ3 H3 w3 with ⟨stop,qn⟩ | ⟨go,N,hN,step⟩
 ·refine wpAny_passesOwn hp (thn (T.done X rfl rfl rfl hc i pins s3 σ3 H3 X.xe I3 (stat fr3) st3 stop) λr s4 zz=>?_)
  obtain ⟨hr,I4⟩:=zz
  subst hr
  exact wpAny_execs_nil ⟨σ3,H3,I4,qn⟩
 ·refine wpAny_passesOwn hp (thn (T.item X rfl rfl rfl hc i pins s3 σ3 H3 X.xe I3 (stat fr3) st3 go) λr s4 zz=>?_)
  obtain ⟨u,hr,h4⟩:=zz
  subst hr
  refine wpAny_passesOwn hp (thn h4 λ_ s5 zz=>?_)
  obtain ⟨x,H5,I5,r5,y5,st5,fr5⟩:=zz
  have I5':=I5.pinned (stat fr5) (T.obj _ _ st5)
  refine wpAny_passesOwn hp (thn (hg _ s5 σ3 H5 x u _ I5' r5 (step x H5 y5)) λ_ s6 zz=>?_)
  obtain ⟨σ6,H6,I6,q6⟩:=zz
  refine wpAny_passesOwn hp (thn (hb _ s6 σ6 H6 _ I6 q6) λf s7 q7=>?_)
  have again:∀{σ7:St} {H7:Hp},Inv X (pins++pK fp s5.heap) σ7 H7 s7->N σ7 H7->∃ m,m < n/\∃ i σ' H',Inv X pins σ' H' s7/\tn i s7.heap/\(∀ b∈fp,H' b=none)/\W i m σ' H':=λ{σ7 H7} I7 n7=>by
   obtain ⟨m',hm,w7⟩:=hN σ7 H7 n7
   refine ⟨m',hm,i+1,σ7,H7,I7.unpinned,T.keep _ _ _ st5 λb hb o e=>(I7.pin (b,o) (List.mem_append_right _ (List.mem_append_right _ (fH hb e)))).1,λb hb=>?_,w7⟩
   obtain ⟨o,e,d⟩:=T.obj _ _ st5 b hb
   exact (I7.pin (b,o) (List.mem_append_right _ (List.mem_append_right _ (fH hb e)))).2.1
  cases f with
  | next=>obtain ⟨σ7,H7,I7,n7⟩:=q7;exact again I7 n7
  | cont=>obtain ⟨σ7,H7,I7,n7⟩:=q7;exact again I7 n7
  | brk=>obtain ⟨σ7,H7,I7,q7⟩:=q7;exact ⟨σ7,H7,I7.unpinned,q7⟩
  | ret v=>obtain ⟨x7,σ7,H7,I7,r7,q7⟩:=q7;exact ⟨x7,σ7,H7,I7.unpinned,r7,q7⟩
end
theorem gS {K:PySem.W.Frag} {a:Addr} {xs:List V} {g:TG} {tb:TS} {D:Ends} {σ:St} {H:Hp} (Pv:Nat->St->Hp->Prop) (h0:Pv 0 σ H) (hl:∀ i σ H,i<=xs.length->Pv i σ H->SqL K H a xs)
  (hs:∀ i x σ H,xs[i]?=some x->Pv i σ H->g x σ H fun σ2 H2=>tb {D with nx:=Pv (i+1),ct:=Pv (i+1),bk:=D.nx} σ2 H2) (hd:∀ σ H,Pv xs.length σ H->D.nx σ H) :
  ∃ W:Nat->Nat->St->Hp->Prop,(∃ m,W 0 m σ H)/\∀ i m σ H,W i m σ H->
   ((Itl K a).stop i H/\D.nx σ H)\/((Itl K a).go i H/\∃ N:St->Hp->Prop,(∀ σ' H',N σ' H'->∃ m',m' < m/\W (i+1) m' σ' H')/\∀ x H',(Itl K a).yld i H x H'->g x σ H' fun σ2 H2=>tb {D with nx:=N,ct:=N,bk:=D.nx} σ2 H2):=by
 refine ⟨λi m σ H=>m=xs.length - i/\i<=xs.length/\Pv i σ H,⟨xs.length,by simp,Nat.zero_le _,h0⟩,?_⟩
 rintro i m σ H ⟨rfl,hi,p⟩
 have q:=hl i σ H hi p
 by_cases hlt:i < xs.length
 ·refine .inr ⟨⟨xs,xs[i],q,by simp [hlt]⟩,Pv (i+1),fun σ' H' p'=>⟨xs.length - (i+1),by omega,rfl,hlt,p'⟩,λx H' y=>?_⟩
  obtain ⟨e,y⟩:=y
  subst e
  exact hs i x σ _ (y xs q) p
 ·have e:i=xs.length:=by omega
  subst e
  exact .inl ⟨⟨xs,q,Nat.le_refl _⟩,hd σ H p⟩
theorem for_tup {K:PySem.W.Frag} {a:Addr} {xs:List V} {g:TG} {tb:TS} {D:Ends} {σ:St} {H:Hp} (Pv:Nat->St->Hp->Prop) (h0:Pv 0 σ H) (hl:∀ i σ H,i<=xs.length->Pv i σ H->SqT K H a xs)
  (hs:∀ i x σ H,xs[i]?=some x->Pv i σ H->g x σ H fun σ2 H2=>tb {D with nx:=Pv (i+1),ct:=Pv (i+1),bk:=D.nx} σ2 H2) (hd:∀ σ H,Pv xs.length σ H->D.nx σ H) :
  ∃ W:Nat->Nat->St->Hp->Prop,(∃ m,W 0 m σ H)/\∀ i m σ H,W i m σ H->
   ((Itt K a).stop i H/\D.nx σ H)\/((Itt K a).go i H/\∃ N:St->Hp->Prop,(∀ σ' H',N σ' H'->∃ m',m' < m/\W (i+1) m' σ' H')/\∀ x H',(Itt K a).yld i H x H'->g x σ H' fun σ2 H2=>tb {D with nx:=N,ct:=N,bk:=D.nx} σ2 H2):=by
 refine ⟨λi m σ H=>m=xs.length - i/\i<=xs.length/\Pv i σ H,⟨xs.length,by simp,Nat.zero_le _,h0⟩,?_⟩
 rintro i m σ H ⟨rfl,hi,p⟩
 have q:=hl i σ H hi p
 by_cases hlt:i < xs.length
 ·refine .inr ⟨⟨xs,xs[i],q,by simp [hlt]⟩,Pv (i+1),fun σ' H' p'=>⟨xs.length - (i+1),by omega,rfl,hlt,p'⟩,λx H' y=>?_⟩
  obtain ⟨e,y⟩:=y
  subst e
  exact hs i x σ _ (y xs q) p
 ·have e:i=xs.length:=by omega
  subst e
  exact .inl ⟨⟨xs,q,Nat.le_refl _⟩,hd σ H p⟩
theorem rR {lo:Int} {n:Nat} {g:TG} {tb:TS} {D:Ends} {σ:St} {H:Hp} (Pv:Nat->St->Hp->Prop) (h0:Pv 0 σ H)
  (hs:∀ i σ H,i < n->Pv i σ H->g (.int (lo+i)) σ H fun σ2 H2=>tb {D with nx:=Pv (i+1),ct:=Pv (i+1),bk:=D.nx} σ2 H2) (hd:∀ σ H,Pv n σ H->D.nx σ H) :
  ∃ W:Nat->Nat->St->Hp->Prop,(∃ m,W 0 m σ H)/\∀ i m σ H,W i m σ H->
   ((Itr lo n).stop i H/\D.nx σ H)\/((Itr lo n).go i H/\∃ N:St->Hp->Prop,(∀ σ' H',N σ' H'->∃ m',m' < m/\W (i+1) m' σ' H')/\∀ x H',(Itr lo n).yld i H x H'->g x σ H' fun σ2 H2=>tb {D with nx:=N,ct:=N,bk:=D.nx} σ2 H2):=by
 refine ⟨λi m σ H=>m=n - i/\i<=n/\Pv i σ H,⟨n,by simp,Nat.zero_le _,h0⟩,?_⟩
 rintro i m σ H ⟨rfl,hi,p⟩
 by_cases hlt:i < n
 ·refine .inr ⟨hlt,Pv (i+1),fun σ' H' p'=>⟨n - (i+1),by omega,rfl,hlt,p'⟩,λx H' y=>?_⟩
  obtain ⟨e,y⟩:=y
  subst e y
  exact hs i σ _ hlt p
 ·have e:i=n:=by omega
  subst e
  exact .inl ⟨Nat.le_refl _,hd σ H p⟩
noncomputable abbrev R2:=V->V->Hp->VK->Prop
noncomputable def OpR (X:Cx) (f:Value->Value->Sem Value) (r:R2):Prop :=
 ∀(
  pins:List (Addr×Obj)) (s:Shared) (σ:St) (H:Hp) (x y:V) (v u:Value) (Q:VK),Inv X pins σ H s->RelV x v->RelV y u->r x y H Q->
  wpAny (model X.prog X.w) X.A (f v u) (EP X pins σ Q) X.xe s
noncomputable def UnR (X:Cx) (f:Value->Sem Value) (r:V->Hp->VK->Prop):Prop :=
 ∀(
  pins:List (Addr×Obj)) (s:Shared) (σ:St) (H:Hp) (x:V) (v:Value) (Q:VK),Inv X pins σ H s->RelV x v->r x H Q->
  wpAny (model X.prog X.w) X.A (f v) (EP X pins σ Q) X.xe s
noncomputable def ft (X:Cx) (f:Value) (r:List V->Hp->VK->Prop):Prop :=
 ∀(
  pins:List (Addr×Obj)) (s:Shared) (σ:St) (H:Hp) (xs:List V) (us:List Value) (Q:VK),Inv X pins σ H s->Vals xs us->r xs H Q->
  wpAny (model X.prog X.w) X.A (call f us) (EP X pins σ Q) X.xe s
noncomputable def TruR (X:Cx) (r:V->Hp->(Bool->Hp->Prop)->Prop):Prop :=
 ∀(
  pins:List (Addr×Obj)) (s:Shared) (σ:St) (H:Hp) (x:V) (v:Value) (Q:Bool->Hp->Prop),Inv X pins σ H s->RelV x v->r x H Q->
  wpAny (model X.prog X.w) X.A (truthy v) (TP X pins σ Q) X.xe s
noncomputable def tOp (r:R2) (ta tb:TE):TE:=fun σ H Q=>ta σ H λx H1=>tb σ H1 λy H2=>r x y H2 Q
noncomputable def tUn (r:V->Hp->VK->Prop) (ta:TE):TE:=fun σ H Q=>ta σ H λx H1=>r x H1 Q
inductive XrI (C:Int->Int->Prop) (g:Int->Int->V) (x:V) (y:V) (H:Hp) (Q:VK):Prop where
 | mk (i:Int) (j:Int) (z_0:x=.int i) (z_1:y=.int j) (z_2:C i j) (z_3:Q (g i j) H):XrI C g x y H Q
noncomputable def rI (C:Int->Int->Prop) (g:Int->Int->V):R2:=λx y H Q=>XrI C g x y H Q
inductive XrI0 (g:Int->Int->V) (x:V) (y:V) (H:Hp) (Q:VK):Prop where
 | mk (i:Int) (j:Int) (z_0:x=.int i) (z_1:y=.int j) (z_2:Q (g i j) H):XrI0 g x y H Q
noncomputable def rI0 (g:Int->Int->V):R2:=λx y H Q=>XrI0 g x y H Q
noncomputable def rU (g:Int->V):V->Hp->VK->Prop:=λx H Q=>∃ i,x=.int i/\Q (g i) H
section
variable {X:Cx} {a b c:Expr} {ta tb tc:TE} {pos:Pos}
theorem binT (ha:PE X a ta) (hb:PE X b tb) {pins:List (Addr×Obj)} {s:Shared} {σ:St} {H:Hp} {R:V->V->Hp->Prop} (I:Inv X pins σ H s)
  (h:ta σ H λx H1=>tb σ H1 λy H2=>R x y H2) {Q:Value->Shared->Prop} {f:Value->Value->Sem Value}
  (hf:∀ v u s2 x y H2,Inv X pins σ H2 s2->RelV x v->RelV y u->R x y H2->wpAny (model X.prog X.w) X.A (f v u) Q X.xe s2) :
  wpAny (model X.prog X.w) X.A (eval a X.env) (λv s₁=>wpAny (model X.prog X.w) X.A (eval b X.env) (λu s₂=>wpAny (model X.prog X.w) X.A (f v u) Q X.xe s₂) X.xe s₁) X.xe s:=by
 refine thn (ha pins s σ H _ I h) λv s1 zz=>?_
 obtain ⟨x,H1,I1,r1,q1⟩:=zz
 refine thn (hb pins s1 σ H1 _ I1 q1) λu s2 zz=>?_
 obtain ⟨y,H2,I2,r2,q2⟩:=zz
 exact hf v u s2 x y H2 I2 r1 r2 q2
theorem aK {op:Operator} {r:R2} (ho:OpR X (binaryOp op) r) (ha:PE X a ta) (hb:PE X b tb):PE X (.BinOp a op b pos) (tOp r ta tb):=by
 intro pins s σ H Q I h
 exact wpAny_BinOp (binT ha hb I h λv u s2 x y H2 I2 rx ry q=>ho pins s2 σ H2 x y v u Q I2 rx ry q)
theorem zf {op:UnaryOp} {r:V->Hp->VK->Prop} (ho:UnR X (unaryOp op) r) (ha:PE X a ta):PE X (.UnaryOp op a pos) (tUn r ta):=by
 intro pins s σ H Q I h
 refine UnaryOp_ (thn (ha pins s σ H _ I h) λv s1 zz=>?_)
 obtain ⟨x,H1,I1,r1,q1⟩:=zz
 exact ho pins s1 σ H1 x v Q I1 r1 q1
theorem opI {f:Value->Value->Sem Value} {C:Int->Int->Prop} {g:Int->Int->Int}
  (rule:∀(i j:Int) (t u:Tok) (s:Shared) (Q:Value->Shared->Prop) (E:Value->Shared->Prop),C i j->Q (.int (g i j) s.toks) {s with toks:=s.toks+1}->wpAny (model X.prog X.w) X.A (f (.int i t) (.int j u)) Q E s) :
  OpR X f (rI C λi j=>.int (g i j)):=by
 intro pins s σ H x y v u Q I rx ry h
 obtain ⟨i,j,rfl,rfl,hc,q⟩:=h
 obtain ⟨t,rfl⟩:=rx
 obtain ⟨t',rfl⟩:=ry
 exact rule i j t t' s _ _ hc ⟨.int (g i j),H,I.tok _,⟨_,rfl⟩,q⟩
theorem opI0 {f:Value->Value->Sem Value} {g:Int->Int->Int}
  (rule:∀(i j:Int) (t u:Tok) (s:Shared) (Q:Value->Shared->Prop) (E:Value->Shared->Prop),Q (.int (g i j) s.toks) {s with toks:=s.toks+1}->wpAny (model X.prog X.w) X.A (f (.int i t) (.int j u)) Q E s) :
  OpR X f (rI0 λi j=>.int (g i j)):=by
 intro pins s σ H x y v u Q I rx ry h
 obtain ⟨i,j,rfl,rfl,q⟩:=h
 obtain ⟨t,rfl⟩:=rx
 obtain ⟨t',rfl⟩:=ry
 exact rule i j t t' s _ _ ⟨.int (g i j),H,I.tok _,⟨_,rfl⟩,q⟩
theorem opB0 {f:Value->Value->Sem Value} {g:Int->Int->Bool}
  (rule:∀(i j:Int) (t u:Tok) (s:Shared) (Q:Value->Shared->Prop) (E:Value->Shared->Prop),Q (.bool (g i j)) s->wpAny (model X.prog X.w) X.A (f (.int i t) (.int j u)) Q E s) :
  OpR X f (rI0 λi j=>.bl (g i j)):=by
 intro pins s σ H x y v u Q I rx ry h
 obtain ⟨i,j,rfl,rfl,q⟩:=h
 obtain ⟨t,rfl⟩:=rx
 obtain ⟨t',rfl⟩:=ry
 exact rule i j t t' s _ _ ⟨.bl (g i j),H,I,rfl,q⟩
noncomputable def CDiv (i j:Int):Prop:=0 < j/\j < 1073741824
noncomputable def CPow (i j:Int):Prop:=0<=j/\j<=1000000/\i.natAbs < 2 ^ 64
theorem bR:OpR X (binaryOp .Add) (rI0 λi j=>.int (i+j)):=opI0 λ_ _ _ _ _ _ _ q=>add_int q
theorem eU:OpR X (binaryOp .Sub) (rI0 λi j=>.int (i - j)):=opI0 λ_ _ _ _ _ _ _ q=>sub_int q
theorem zj:OpR X (binaryOp .FloorDiv) (rI CDiv λi j=>.int (i / j)):=opI λi j _ _ _ _ _ hc q=>by
 have h1:(0:Int) < j:=hc.1
 have h2:j < 1073741824:=hc.2
 exact floordiv_int (by omega) (by rw [Int.fdiv_eq_ediv_of_nonneg i (by omega)];exact q) (.inl (PyProof.noPylong_small (by omega)))
theorem gp:OpR X (binaryOp .Mod) (rI (λ_ j=>0 < j) λi j=>.int (i % j)):=opI λi j _ _ _ _ _ hc q=>by
 have h1:(0:Int) < j:=hc
 exact mod_int' (by omega) (by rw [Int.fmod_eq_emod_of_nonneg i (by omega)];exact q)
theorem ib:OpR X (binaryOp .Mod) (rI (λ_ j=>j≠0) λi j=>.int (i.fmod j)):=opI λ_ _ _ _ _ _ _ hc q=>mod_int' hc q
theorem op_pow:OpR X (binaryOp .Pow) (rI CPow λi j=>.int (i ^ j.toNat)):=opI λ_ _ _ _ _ _ _ hc q=>pow_int_small hc.1 hc.2.1 hc.2.2 q
theorem unI {f:Value->Sem Value} {g:Int->Int}
  (rule:∀(i:Int) (t:Tok) (s:Shared) (Q:Value->Shared->Prop) (E:Value->Shared->Prop),Q (.int (g i) s.toks) {s with toks:=s.toks+1}->wpAny (model X.prog X.w) X.A (f (.int i t)) Q E s) :
  UnR X f (rU λi=>.int (g i)):=by
 intro pins s σ H x v Q I rx h
 obtain ⟨i,rfl,q⟩:=h
 obtain ⟨t,rfl⟩:=rx
 exact rule i t s _ _ ⟨.int (g i),H,I.tok _,⟨_,rfl⟩,q⟩
theorem kE:UnR X (unaryOp .USub) (rU λi=>.int (-i)):=unI λ_ _ _ _ _ q=>neg_int q
end
noncomputable def scal:V->V->Bool
 | .non,.non=>true | .non,.int _=>true | .int _,.non=>true | .non,.bl _=>true | .bl _,.non=>true | .non,.str _=>true | .str _,.non=>true
 | .int _,.int _=>true | .bl _,.bl _=>true | .str _,.str _=>true | .byt _,.byt _=>true
 | .int _,.str _=>true | .str _,.int _=>true | .bl _,.str _=>true | .str _,.bl _=>true
 | _,_=>false
noncomputable def rEq:R2:=λx y H Q=>scal x y=true/\Q (.bl (decide (x=y))) H
noncomputable def rNe:R2:=λx y H Q=>scal x y=true/\Q (.bl (!decide (x=y))) H
theorem zM {i j:Int}:decide (V.int i=V.int j)=(i == j):=by
 rw [Bool.eq_iff_iff]
 simp
theorem EB {i j:Bool}:decide (V.bl i=V.bl j)=(i == j):=by
 rw [Bool.eq_iff_iff]
 simp
theorem zL {i j:Str}:decide (V.str i=V.str j)=(i == j):=by
 rw [Bool.eq_iff_iff]
 simp
theorem zN {i j:Array UInt8}:decide (V.byt i=V.byt j)=(i.toList == j.toList):=by
 rw [Bool.eq_iff_iff]
 cases i
 cases j
 simp
section
variable {X:Cx} {a b c:Expr} {ta tb tc:TE} {pos:Pos}
theorem bC {pins:List (Addr×Obj)} {σ:St} {H:Hp} {s:Shared} {Q:VK} {k k':Bool} (I:Inv X pins σ H s) (q:Q (.bl k) H) (e:k=k'):EP X pins σ Q (.bool k') s:=by
 subst e
 exact ⟨.bl k,H,I,rfl,q⟩
theorem bQ:OpR X (compareOp .Eq) rEq:=by
 intro pins s σ H x y v u Q I rx ry h
 obtain ⟨hs,q⟩:=h
 cases x with
 | non =>
  cases rx
  cases y with
  | non=>cases ry;exact PySem.EqNone.eq_none_none (bC I q (by simp))
  | bl j=>cases ry;exact PySem.EqNone.eq_none_bool (bC I q (by simp))
  | int j=>obtain ⟨t',rfl⟩:=ry;exact PySem.EqNone.eq_none_int (bC I q (by simp))
  | str j=>obtain ⟨t',rfl⟩:=ry;exact PySem.EqNone.eq_none_str (bC I q (by simp))
  | _=>exact absurd (show false=true from hs) Bool.false_ne_true
 | bl i =>
  cases rx
  cases y with
  | non=>cases ry;exact PySem.EqNone.eq_bool_none (bC I q (by simp))
  | bl j=>cases ry;exact eq_bool (bC I q EB)
  | str j=>obtain ⟨t',rfl⟩:=ry;exact PySem.EqMixed.eq_bool_str (bC I q (by simp))
  | _=>exact absurd (show false=true from hs) Bool.false_ne_true
 | int i =>
  obtain ⟨t,rfl⟩:=rx
  cases y with
  | non=>cases ry;exact PySem.EqNone.eq_int_none (bC I q (by simp))
  | int j=>obtain ⟨t',rfl⟩:=ry;exact eq_int (bC I q zM)
  | str j=>obtain ⟨t',rfl⟩:=ry;exact PySem.EqMixed.eq_int_str (bC I q (by simp))
  | _=>exact absurd (show false=true from hs) Bool.false_ne_true
 | str i =>
  obtain ⟨t,rfl⟩:=rx
  cases y with
  | non=>cases ry;exact PySem.EqNone.eq_str_none (bC I q (by simp))
  | bl j=>cases ry;exact PySem.EqMixed.eq_str_bool (bC I q (by simp))
  | int j=>obtain ⟨t',rfl⟩:=ry;exact PySem.EqMixed.eq_str_int (bC I q (by simp))
  | str j=>obtain ⟨t',rfl⟩:=ry;exact eq_str (bC I q zL)
  | _=>exact absurd (show false=true from hs) Bool.false_ne_true
 | byt i =>
  obtain ⟨t,rfl⟩:=rx
  cases y with
  | byt j=>obtain ⟨t',rfl⟩:=ry;exact PySem.W.eq_bytes (bC I q zN)
  | _=>exact absurd (show false=true from hs) Bool.false_ne_true
 | _=>cases y <;> exact absurd (show false=true from hs) Bool.false_ne_true
theorem lS:OpR X (compareOp .NotEq) rNe:=by
 intro pins s σ H x y v u Q I rx ry h
 obtain ⟨hs,q⟩:=h
 cases x with
 | non =>
  cases rx
  cases y with
  | non=>cases ry;exact PySem.EqNone.ne_none_none (bC I q (by simp))
  | bl j=>cases ry;exact PySem.EqNone.ne_none_bool (bC I q (by simp))
  | int j=>obtain ⟨t',rfl⟩:=ry;exact PySem.EqNone.ne_none_int (bC I q (by simp))
  | str j=>obtain ⟨t',rfl⟩:=ry;exact PySem.EqNone.ne_none_str (bC I q (by simp))
  | _=>exact absurd (show false=true from hs) Bool.false_ne_true
 | bl i =>
  cases rx
  cases y with
  | non=>cases ry;exact PySem.EqNone.ne_bool_none (bC I q (by simp))
  | bl j=>cases ry;exact ne_bool (bC I q (congrArg not EB))
  | str j=>obtain ⟨t',rfl⟩:=ry;exact PySem.EqMixed.ne_bool_str (bC I q (by simp))
  | _=>exact absurd (show false=true from hs) Bool.false_ne_true
 | int i =>
  obtain ⟨t,rfl⟩:=rx
  cases y with
  | non=>cases ry;exact PySem.EqNone.ne_int_none (bC I q (by simp))
  | int j=>obtain ⟨t',rfl⟩:=ry;exact ne_int (bC I q (congrArg not zM))
  | str j=>obtain ⟨t',rfl⟩:=ry;exact PySem.EqMixed.ne_int_str (bC I q (by simp))
  | _=>exact absurd (show false=true from hs) Bool.false_ne_true
 | str i =>
  obtain ⟨t,rfl⟩:=rx
  cases y with
  | non=>cases ry;exact PySem.EqNone.ne_str_none (bC I q (by simp))
  | bl j=>cases ry;exact PySem.EqMixed.ne_str_bool (bC I q (by simp))
  | int j=>obtain ⟨t',rfl⟩:=ry;exact PySem.EqMixed.ne_str_int (bC I q (by simp))
  | str j=>obtain ⟨t',rfl⟩:=ry;exact ne_str (bC I q (congrArg not zL))
  | _=>exact absurd (show false=true from hs) Bool.false_ne_true
 | byt i =>
  obtain ⟨t,rfl⟩:=rx
  cases y with
  | byt j=>obtain ⟨t',rfl⟩:=ry;exact PySem.W.ne_bytes (bC I q (congrArg not zN))
  | _=>exact absurd (show false=true from hs) Bool.false_ne_true
 | _=>cases y <;> exact absurd (show false=true from hs) Bool.false_ne_true
theorem lT:OpR X (compareOp .Lt) (rI0 λi j=>.bl (decide (i < j))):=opB0 λ_ _ _ _ _ _ _ q=>lt_int q
theorem ji:OpR X (compareOp .LtE) (rI0 λi j=>.bl (decide (i<=j))):=opB0 λ_ _ _ _ _ _ _ q=>le_int q
theorem jF:OpR X (compareOp .Gt) (rI0 λi j=>.bl (decide (j < i))):=opB0 λ_ _ _ _ _ _ _ q=>gt_int q
theorem pN:OpR X (compareOp .GtE) (rI0 λi j=>.bl (decide (j<=i))):=opB0 λ_ _ _ _ _ _ _ q=>ge_int q
theorem jE:OpR X (compareOp .Is) (λx y H Q=>y=.non/\Q (.bl (decide (x=.non))) H):=by
 intro pins s σ H x y v u Q I rx ry h
 obtain ⟨rfl,q⟩:=h
 cases ry
 refine is_none_gen (bC I q ?_)
 cases x <;> first
  | (cases rx;rfl)
  | (obtain ⟨t,rfl⟩:=rx;rfl)
theorem aF (b:Expr) {op:CmpOp} (h:op≠.In:=by decide) (h2:op≠.NotIn:=by decide):behindInMarks op b=false:=by
 have e1:(op == CmpOp.In)=false:=by cases op <;> first | rfl | exact absurd rfl h
 have e2:(op == CmpOp.NotIn)=false:=by cases op <;> first | rfl | exact absurd rfl h2
 cases b <;> simp [behindInMarks,e1,e2]
theorem dP {op:CmpOp} {r:R2} (ho:OpR X (compareOp op) r) (ha:PE X a ta) (hb:PE X b tb) (hm:behindInMarks op b=false):PE X (.Compare a [op] [b] pos) (tOp r ta tb):=by
 intro pins s σ H Q I h
 exact wpAny_Compare1 (binT ha hb I h λv u s2 x y H2 I2 rx ry q=>ho pins s2 σ H2 x y v u Q I2 rx ry q) hm
noncomputable def BZ (t:TE):TT:=fun σ H Q=>t σ H λx H'=>XBl x λk=>Q k H'
theorem aC {op:CmpOp} {r:R2} (ho:OpR X (compareOp op) r) (ha:PE X a ta) (hb:PE X b tb) (hm:behindInMarks op b=false):PT X (.Compare a [op] [b] pos) (BZ (tOp r ta tb)):=by
 intro pins s σ H Q I h
 refine wpAny_isTrue_Compare1 (thn (ha pins s σ H _ I h) λv s1 ⟨x,H1,I1,r1,q1⟩=>thn (hb pins s1 σ H1 _ I1 q1) λu s2 ⟨y,H2,I2,r2,q2⟩ =>
  thn (ho pins s2 σ H2 x y v u _ I2 r1 r2 q2) λc s3 ⟨z,H3,I3,r3,k,e,q3⟩=>?_) hm
 subst e
 cases r3
 exact wpAny_truthy_bool ⟨H3,I3,q3⟩
noncomputable def Ce (r r':R2) (ta tb tc:TE):TE:=fun σ H Q=>ta σ H λx H1=>tb σ H1 λy H2=>r x y H2 λz H3=>∃ k,z=.bl k/\
 (if k=true then tc σ H3 λw' H4=>r' y w' H4 Q else Q (.bl false) H3)
theorem vx {op op':CmpOp} {r r':R2} (ho:OpR X (compareOp op) r) (ho':OpR X (compareOp op') r') (ha:PE X a ta) (hb:PE X b tb) (hc:PE X c tc)
  (hm:lastMarks [op,op'] [b,c]=false:=by with_unfolding_all rfl):PE X (.Compare a [op,op'] [b,c] pos) (Ce r r' ta tb tc):=by
 intro pins s σ H Q I h
 refine Compare_chain (thn (ha pins s σ H _ I h) λv s1 ⟨x,H1,I1,r1,q1⟩=>chain_link (thn (hb pins s1 σ H1 _ I1 q1) λu s2 ⟨y,H2,I2,r2,q2⟩ =>
  thn (ho pins s2 σ H2 x y v u _ I2 r1 r2 q2) λd s3 ⟨z,H3,I3,r3,k,e,q3⟩=>?_)) hm
 subst e
 cases r3
 refine wpAny_truthy_bool ?_
 cases k with
 | false=>exact ite_ff ⟨.bl false,H3,I3,rfl,q3⟩
 | true=>exact ite_tt (chain_last (thn (hc pins s3 σ H3 _ I3 q3) λw' s4 ⟨z',H4,I4,r4,q4⟩=>ho' pins s4 σ H4 y z' u w' Q I4 r2 r4 q4))
theorem Dk {op op':CmpOp} {r r':R2} (ho:OpR X (compareOp op) r) (ho':OpR X (compareOp op') r') (ha:PE X a ta) (hb:PE X b tb) (hc:PE X c tc)
  (hm:lastMarks [op,op'] [b,c]=false:=by with_unfolding_all rfl):PT X (.Compare a [op,op'] [b,c] pos) (BZ (Ce r r' ta tb tc)):=by
 intro pins s σ H Q I h
 refine isTrue_chain (thn (ha pins s σ H _ I h) λv s1 ⟨x,H1,I1,r1,q1⟩=>test_link (thn (hb pins s1 σ H1 _ I1 q1) λu s2 ⟨y,H2,I2,r2,q2⟩ =>
  thn (ho pins s2 σ H2 x y v u _ I2 r1 r2 q2) λd s3 ⟨z,H3,I3,r3,k,e,q3⟩=>?_)) hm
 subst e
 cases r3
 refine wpAny_truthy_bool ?_
 cases k with
 | false =>
  obtain ⟨k',e',q'⟩:=q3
  cases e'
  exact ite_ff ⟨H3,I3,q'⟩
 | true =>
  refine ite_tt (test_last (thn (hc pins s3 σ H3 _ I3 q3) λw' s4 zz=>?_))
  obtain ⟨z',H4,I4,r4,q4⟩:=zz
  refine thn (ho' pins s4 σ H4 y z' u w' _ I4 r2 r4 q4) λd' s5 zz=>?_
  obtain ⟨z2,H5,I5,r5,k2,e2,q5⟩:=zz
  subst e2
  cases r5
  exact wpAny_truthy_bool ⟨H5,I5,q5⟩
noncomputable def TruV (K:PySem.W.Frag) (x:V) (H:Hp) (k:Bool):Prop :=
 match x with
 | .non=>k=false
 | .bl b=>k=b
 | .int i=>k=(i != 0)
 | .str y=>y.length<=sizeLine/\k=((y.length:Int) != 0)
 | .byt y=>y.size<=sizeLine/\k=((y.size:Int) != 0)
 | .ref p=>(∃ xs,SqL K H p xs/\k = !xs.isEmpty)\/(∃ xs,SqT K H p xs/\k = !xs.isEmpty)\/∃ kvs,H p=some (.dK kvs)/\k = !kvs.isEmpty
 | _=>False
theorem xR {κ:Type} {kvs:List (κ×V)} {vs:List (κ×Value)} (r:KV kvs vs):(!vs.isEmpty) = !kvs.isEmpty:=by
 cases r <;> rfl
theorem pY {xs:List V} {its:List Value} (r:Vals xs its):(!its.toArray.isEmpty) = !xs.isEmpty:=by
 cases r <;> simp
theorem tQ:(sizeLine:Nat) < 2 ^ 63:=by rw [sizeLine_eq];decide
theorem tru_ok:TruR X (λx H Q=>∃ k,TruV X.K x H k/\Q k H):=by
 intro pins s σ H x v Q I rx h
 obtain ⟨k,e,q⟩:=h
 have hl:=tQ
 have hs:sizeLine=16777216:=sizeLine_eq
 cases x with
 | non =>
  cases rx
  have e':k=false:=e
  subst e'
  exact truthy_none ⟨H,I,q⟩
 | bl b =>
  cases rx
  have e':k=b:=e
  subst e'
  exact wpAny_truthy_bool ⟨H,I,q⟩
 | int i =>
  obtain ⟨t,rfl⟩:=rx
  have e':k=(i != 0):=e
  subst e'
  exact PySem.P.truthy_int ⟨H,I,q⟩
 | str y =>
  obtain ⟨t,rfl⟩:=rx
  obtain ⟨hy,e'⟩:y.length<=sizeLine/\k=((y.length:Int) != 0):=e
  subst e'
  exact PySem.P.truthy_str (by omega) ⟨H,I.tok _,q⟩
 | byt y =>
  obtain ⟨t,rfl⟩:=rx
  obtain ⟨hy,e'⟩:y.size<=sizeLine/\k=((y.size:Int) != 0):=e
  subst e'
  exact PySem.W.truthy_bytes (by omega) ⟨H,I.tok _,q⟩
 | ref p =>
  cases rx
  have e':(∃ xs,SqL X.K H p xs/\k = !xs.isEmpty)\/(∃ xs,SqT X.K H p xs/\k = !xs.isEmpty)\/∃ kvs,H p=some (.dK kvs)/\k = !kvs.isEmpty:=e
  rcases e' with ⟨xs,hx,e'⟩ | ⟨xs,hx,e'⟩ | ⟨kvs,hx,e'⟩
  ·subst e'
   obtain ⟨its,r,pl,hz⟩:=I.list hx
   have hlen:=r.length
   exact wpAny_truthy_list pl.isList (by simp only [List.size_toArray];omega) ⟨H,I.tok _,by rw [pY r];exact q⟩
  ·subst e'
   obtain ⟨its,r,pl,hz⟩:=I.tuple hx
   have hlen:=r.length
   exact truthy_tuple pl (by simp only [List.size_toArray];omega) ⟨H,I.tok _,by rw [pY r];exact q⟩
  ·subst e'
   obtain ⟨hz,hS,vs,r,m⟩:kvs.length<=sizeLine/\(p == sysModules)=false/\∃ vs,KV kvs vs/\s.heap.DictOf (cH X.prog X.w) p vs:=I.hok p _ hx
   have hlen:kvs.length=vs.length:=Paired.length r
   exact wpAny_truthy_dict hS m (by omega) ⟨H,I.tok _,by rw [xR r];exact q⟩
 | _=>exact (show False from e).elim
theorem pJ (ha:PE X a ta) (he:∀ whole,isTrue a X.env whole=(do let v <- whole;standAt a.pos;holding [v] (truthy v))) :
  PT X a (fun σ H Q=>ta σ H λx H'=>∃ k,TruV X.K x H' k/\Q k H'):=by
 intro pins s σ H Q I h
 refine isTrue_plain (thn (ha pins s σ H _ I h) λv s1 zz=>?_) (he _)
 obtain ⟨x,H1,I1,r1,q1⟩:=zz
 exact tru_ok pins s1 σ H1 x v Q I1 r1 q1
theorem vals1 {x:V} {us:List Value} (r:Vals [x] us):∃ u,us=[u]/\RelV x u:=by
 cases r with
 | cons r1 r2=>cases r2;exact ⟨_,rfl,r1⟩
theorem vals2 {x y:V} {us:List Value} (r:Vals [x,y] us):∃ u w',us=[u,w']/\RelV x u/\RelV y w':=by
 cases r with
 | cons r1 r2 =>
  cases r2 with
  | cons r3 r4=>cases r4;exact ⟨_,_,rfl,r1,r3⟩
theorem fc:ft X (.builtin "abs") (λxs H Q=>∃ i,xs=[.int i]/\Q (.int (if i < 0 then -i else i)) H):=by
 intro pins s σ H xs us Q I r h
 obtain ⟨i,rfl,q⟩:=h
 obtain ⟨u,rfl,t,rfl⟩:=vals1 r
 exact call_abs_int λu tk=>⟨.int (if i < 0 then -i else i),H,I.tok _,⟨_,rfl⟩,q⟩
theorem iU (hc:X.calm=true):ft X (.builtin "max") (λxs H Q=>∃ i j,xs=[.int i,.int j]/\Q (.int (if j > i then j else i)) H):=by
 intro pins s σ H xs us Q I r h
 obtain ⟨i,j,rfl,q⟩:=h
 obtain ⟨u,w',rfl,⟨t,rfl⟩,⟨t',rfl⟩⟩:=vals2 r
 refine max_two_ints (I.ok.hd hc) λh' tk k=>⟨_,H,I.kept k,?_,q⟩
 by_cases hj:j > i
 ·rw [if_pos hj,if_pos hj];exact ⟨_,rfl⟩
 ·rw [if_neg hj,if_neg hj];exact ⟨_,rfl⟩
theorem fK (hc:X.calm=true):ft X (.builtin "min") (λxs H Q=>∃ i j,xs=[.int i,.int j]/\Q (.int (if j < i then j else i)) H):=by
 intro pins s σ H xs us Q I r h
 obtain ⟨i,j,rfl,q⟩:=h
 obtain ⟨u,w',rfl,⟨t,rfl⟩,⟨t',rfl⟩⟩:=vals2 r
 refine min_two_ints (I.ok.hd hc) λh' tk k=>⟨_,H,I.kept k,?_,q⟩
 by_cases hj:j < i
 ·rw [if_pos hj,if_pos hj];exact ⟨_,rfl⟩
 ·rw [if_neg hj,if_neg hj];exact ⟨_,rfl⟩
theorem iV:ft X (.type "int") (λxs H Q=>(∃ i,xs=[.int i]/\Q (.int i) H)\/∃ k,xs=[.bl k]/\Q (.int (if k then 1 else 0)) H):=by
 intro pins s σ H xs us Q I r h
 rcases h with ⟨i,rfl,q⟩ | ⟨k,rfl,q⟩
 ·obtain ⟨u,rfl,t,rfl⟩:=vals1 r
  exact call_int_int ⟨.int i,H,I,⟨_,rfl⟩,q⟩
 ·obtain ⟨u,rfl,r1⟩:=vals1 r
  cases r1
  exact call_int_bool ⟨.int (if k then 1 else 0),H,I.tok _,⟨_,rfl⟩,q⟩
noncomputable def LenV (K:PySem.W.Frag) (x:V) (H:Hp) (n:Nat):Prop :=
 match x with
 | .str y=>y.length<=sizeLine/\n=y.length
 | .byt y=>y.size<=sizeLine/\n=y.size
 | .ref p=>(∃ xs,SqL K H p xs/\n=xs.length)\/∃ xs,SqT K H p xs/\n=xs.length
 | _=>False
theorem bz:ft X (.builtin "len") (λxs H Q=>∃ x n,xs=[x]/\LenV X.K x H n/\Q (.int n) H):=by
 intro pins s σ H xs us Q I r h
 obtain ⟨x,n,rfl,e,q⟩:=h
 obtain ⟨u,rfl,rx⟩:=vals1 r
 have hl:=tQ
 have hs:sizeLine=16777216:=sizeLine_eq
 cases x with
 | str y =>
  obtain ⟨t,rfl⟩:=rx
  obtain ⟨hy,e'⟩:y.length<=sizeLine/\n=y.length:=e
  subst e'
  exact len_str (by omega) ⟨.int _,H,I.tok _,⟨_,rfl⟩,q⟩
 | byt y =>
  obtain ⟨t,rfl⟩:=rx
  obtain ⟨hy,e'⟩:y.size<=sizeLine/\n=y.size:=e
  subst e'
  exact PySem.W.len_bytes (by omega) ⟨.int _,H,I.tok _,⟨_,rfl⟩,q⟩
 | ref p =>
  cases rx
  have e':(∃ xs,SqL X.K H p xs/\n=xs.length)\/∃ xs,SqT X.K H p xs/\n=xs.length:=e
  rcases e' with ⟨xs,hx,e'⟩ | ⟨xs,hx,e'⟩
  ·subst e'
   obtain ⟨its,r',pl,hz⟩:=I.list hx
   have hlen:=r'.length
   exact Calls.call_len_list pl.isList (by simp only [List.size_toArray];omega) ⟨.int xs.length,H,I.tok _,⟨_,by simp only [List.size_toArray];rw [hlen]⟩,q⟩
  ·subst e'
   obtain ⟨its,r',pl,hz⟩:=I.tuple hx
   have hlen:=r'.length
   exact len_tuple pl (by simp only [List.size_toArray];omega) ⟨.int xs.length,H,I.tok _,⟨_,by simp only [List.size_toArray];rw [hlen]⟩,q⟩
 | _=>exact (show False from e).elim
end
structure ym (h:Heap) (x dx C:Addr) (mA:Str->Option Value):Prop where
 obj:h.get? x=some (PySem.W.instObj C dx)
 ns:h.Ns1 dx mA
 ne:dx≠x
theorem Be {h:Heap} {dx:Addr} {mA:Str->Option Value} (n:h.Ns1 dx mA):∃ od,h.get? dx=some od/\∀ name,PySem.W.lookIn name od=some (mA name):=by
 obtain ⟨o,es,ep,ho,hd,hk,_,hm⟩:=n
 refine ⟨o,ho,λname=>?_⟩
 have e:=hm name
 unfold nsFind findBy at e
 rw [<- Array.find?_toList] at e
 unfold PySem.W.lookIn
 rw [hd]
 dsimp only
 split
 ·rename_i y q
  rw [q] at e
  exact congrArg some e
 ·rename_i q
  rw [q] at e
  have a:es.toList.any (·.refKey)=false:=by
   rw [List.any_eq_false]
   intro y hy
   obtain ⟨z,t,hkey⟩:=hk y (Array.mem_toList_iff.mp hy)
   simp [DictEntry.refKey,hkey]
  have a':¬es.toList.any (·.refKey)=true:=by rw [a];exact Bool.false_ne_true
  rw [if_neg a']
  exact congrArg some e
theorem ym.look {h:Heap} {x dx C:Addr} {mA:Str->Option Value} (I:ym h x dx C mA):∃ od,PySem.W.InstAt h x (PySem.W.instObj C dx) C (some od)/\∀ name,PySem.W.lookIn name od=some (mA name) :=
 let ⟨od,ho,hl⟩:=Be I.ns
 ⟨od,⟨I.obj,rfl,rfl,ho⟩,hl⟩
section
variable {prog:Program} {w:World} {A:Around} {E:Value->Shared->Prop} {s:Shared} {K:PySem.W.Frag} {x dx C f:Addr} {mA:Str->Option Value} {name:Str} {v:Value}
theorem get_map {expr:Bool} {Q:Value->Shared->Prop} (X:K.In s.heap) (I:ym s.heap x dx C mA) (hg:PySem.W.plainGet K C name=true) (hh:PySem.W.hasDictIn K C=true)
  (ha:PySem.W.findIn K (.ref C) name=some none) (hv:mA name=some v) (hv':PySem.W.handedIn v=true) (h:Q v {s with toks:=s.toks+1}) :
  wpAny (model prog w) A (getAttr (.ref x) name expr) Q E s:=by
 obtain ⟨od,J,hl⟩:=I.look
 exact PySem.W.get_value X J (PySem.W.plainGet_of hg).1 (PySem.W.findObj_own hh ha rfl (by rw [hl,hv])) hv' h
theorem En {pl:Sem Bool} {Q:Value×List Value->Shared->Prop} (X:K.In s.heap) (I:ym s.heap x dx C mA) (hg:PySem.W.plainGet K C name=true)
  (hf:PySem.W.findIn K (.ref C) name=some (some (.ref f))) (ht:PySem.W.isFn K (.ref f)=true) (hv:mA name=none) (h:Q (.ref f,[.ref x]) s) :
  wpAny (model prog w) A (getMethod (.ref x) name pl) Q E s:=by
 obtain ⟨od,J,hl⟩:=I.look
 exact PySem.W.method_fn X J (PySem.W.plainGet_of hg).1 (PySem.W.plainGet_of hg).2 hf (beq_iff_eq.mp ht) (by show (PySem.W.lookIn name od).map (·.isSome)=some false;rw [hl,hv];rfl) h
theorem set_map {ns:List Str} {Q:Unit->Shared->Prop} (X:K.In s.heap) (I:ym s.heap x dx C mA)
  (hs:PySem.W.findIn K (.ref C) "__setattr__"=some (some (.builtin "object.__setattr__"))) (hp:PySem.W.plainOver K C=true) (ht:PySem.W.takerIn K C name=some none) (hh:PySem.W.hasDictIn K C=true)
  (hw:PySem.Within mA ns) (hsz:ns.length<=sizeLine)
  (h:∀ h',ym h' x dx C (λy=>if y=name then some v else mA y)->Heap.SameBut dx s.heap h'->Q () {s with heap:=h',toks:=s.toks+2}) :
  wpAny (model prog w) A (setAttr (.ref x) name v) Q E s:=by
 obtain ⟨od,J,hl⟩:=I.look
 refine PySem.W.set_plain X J hs (PySem.W.osa_open (s:={s with toks:=s.toks+1}) (r:=none) X J hp ht λb=>?_)
 obtain ⟨cd,hc,hd'⟩:=PySem.W.any_some hh
 have hx:s.heap.get? x=some ⟨.ref C,some dx,.plain,#[]⟩:=I.obj
 refine wpAny_bind (wpAny_pure (wpAny_bind (wpAny_bind (wpAny_loadPart hx (wpAny_bind (PySem.W.Looks.here (s:={s with toks:=s.toks+1}) (PySem.W.looks_clsIn X hc) ?_))))))
 rw [hd']
 refine wpAny_pure (a:=some dx) (wpAny_bind (wpAny_pure (wpAny_bind ?_)))
 refine wpAny_nsSet1 (s:={s with toks:=s.toks+1}) I.ns λh' hn2 hs2=>?_
 obtain ⟨oD,esD,epD,hoD,hdD,hcD⟩:=hn2.count (PySem.Within.cons name v hw)
 refine wpAny_bind (wpAny_lookBehind hoD (by rw [hdD];exact pastItsLine_dict (Nat.le_trans hcD (by rw [List.length_cons];omega))) ?_)
 exact wpAny_pure (h _ ⟨(hs2.2 _ (Ne.symm I.ne)).trans I.obj,hn2,I.ne⟩ hs2)
theorem DX {R:Result->Shared->Prop} {vs:List Value} {kw:List (Str×Value)} (X:K.In s.heap) (hm:PySem.W.makesIn K C=true)
  (hi:PySem.W.findIn K (.ref C) "__init__"=some (some (.ref f))) (hf:PySem.W.typeIn K (.ref f)=some (.type "function"))
  (h:codeAny (model prog w) (A.under (.builtin "type.__call__" ⟨.ref C::vs,kw⟩)) (.call (.ref f) ⟨.ref (s.heap.objs.size+1)::vs,kw⟩) (PySem.W.InitBack (s.heap.objs.size+1) R)
   {s with heap:=(s.heap.push PySem.W.emptyDict).push (PySem.W.instObj C s.heap.objs.size) }) :
  codeAny (model prog w) A (.call (.ref C) ⟨vs,kw⟩) R s:=by
 obtain ⟨hh,g,d,t,os⟩:=s
 exact PySem.W.make_core (PySem.W.makes_of X hm) (PySem.W.looks_findIn X hi) (λself=>PySem.W.bind_fn X self hf) (.inl rfl) h
theorem Bc {R:Result->Shared->Prop} (X:K.In s.heap) (hm:PySem.W.makesIn K C=true)
  (hi:PySem.W.findIn K (.ref C) "__init__"=some (some (.builtin "object.__init__")))
  (hb:∀ self,PySem.W.Looks (model prog w) s.heap (bindSpecial (.builtin "object.__init__") self) (.builtin "object.__init__",[self]))
  (h:codeAny (model prog w) (A.under (.builtin "type.__call__" ⟨[.ref C],[]⟩)) (.call (.builtin "object.__init__") ⟨[.ref (s.heap.objs.size+1)],[]⟩) (PySem.W.InitBack (s.heap.objs.size+1) R)
   {s with heap:=(s.heap.push PySem.W.emptyDict).push (PySem.W.instObj C s.heap.objs.size) }) :
  codeAny (model prog w) A (.call (.ref C) ⟨[],[]⟩) R s:=by
 obtain ⟨hh,g,d,t,os⟩:=s
 exact PySem.W.make_core (PySem.W.makes_of X hm) (PySem.W.looks_findIn X hi) hb (.inr ⟨rfl,rfl⟩) h
end
noncomputable def jc (f:Str) (v:V):List (Str×V)->List (Str×V)
 | []=>[(f,v)]
 | (g,x)::r=>if g=f then (g,v)::r else (g,x)::jc f v r
theorem nH (f g:Str) (v:V):∀ fs:List (Str×V),(jc f v fs).lookup g=if g=f then some v else fs.lookup g
 | []=>by
  show List.lookup g [(f,v)]=_
  by_cases h:g=f
  ·have hb:(g == f)=true:=beq_iff_eq.mpr h
   simp only [List.lookup,hb,if_pos h]
  ·have hb:(g == f)=false:=beq_eq_false_iff_ne.mpr h
   simp only [List.lookup,hb,if_neg h]
 | (k,x)::r=>by
  have ih:=nH f g v r
  rw [show jc f v ((k,x)::r)=(if k=f then (k,v)::r else (k,x)::jc f v r) from rfl]
  by_cases hk:k=f
  ·rw [if_pos hk]
   by_cases h:g=k
   ·have hb:(g == k)=true:=beq_iff_eq.mpr h
    simp only [List.lookup,hb,if_pos (h.trans hk)]
   ·have hb:(g == k)=false:=beq_eq_false_iff_ne.mpr h
    simp only [List.lookup,hb,if_neg (λe:g=f=>h (e.trans hk.symm))]
  ·rw [if_neg hk]
   by_cases h:g=k
   ·have hb:(g == k)=true:=beq_iff_eq.mpr h
    simp only [List.lookup,hb,if_neg (λe:g=f=>hk (h.symm.trans e))]
   ·have hb:(g == k)=false:=beq_eq_false_iff_ne.mpr h
    simp only [List.lookup,hb]
    exact ih
theorem mY (f:Str) (v:V):∀ fs:List (Str×V),f∈(jc f v fs).map (·.1)/\∀ g,g∈fs.map (·.1)->g∈(jc f v fs).map (·.1)
 | []=>⟨by simp [jc],λg h=>by simp at h⟩
 | (k,x)::r=>by
  obtain ⟨i1,i2⟩:=mY f v r
  rw [show jc f v ((k,x)::r)=(if k=f then (k,v)::r else (k,x)::jc f v r) from rfl]
  by_cases hk:k=f
  ·rw [if_pos hk]
   subst hk
   exact ⟨by simp,λg h=>by simpa using h⟩
  ·rw [if_neg hk]
   refine ⟨?_,λg h=>?_⟩
   ·rw [List.map_cons]
    exact List.mem_cons_of_mem _ i1
   ·rw [List.map_cons] at h ⊢
    rcases List.mem_cons.mp h with e | e
    ·exact List.mem_cons.mpr (.inl e)
    ·exact List.mem_cons_of_mem _ (i2 g e)
theorem nJ (f:Str) (v:V):∀ fs:List (Str×V),(jc f v fs).length<=fs.length+1
 | []=>by simp [jc]
 | (k,x)::r=>by
  have ih:=nJ f v r
  rw [show jc f v ((k,x)::r)=(if k=f then (k,v)::r else (k,x)::jc f v r) from rfl]
  by_cases hk:k=f
  ·rw [if_pos hk,List.length_cons,List.length_cons];omega
  ·rw [if_neg hk,List.length_cons,List.length_cons];omega
theorem kq.some_of {v:V} {o:Option Value} (r:kq (some v) o):∃ u,o=some u/\RelV v u:=by
 cases o with
 | none=>exact (show False from r).elim
 | some u=>exact ⟨u,rfl,r⟩
theorem kq.none_of {o:Option Value} (r:kq none o):o=none:=by
 cases o with
 | none=>rfl
 | some u=>exact (show False from r).elim
theorem Bl {v:V} {u:Value} (r:RelV v u):PySem.W.handedIn u=true:=by
 cases v with
 | non=>cases (show u=Value.none from r);rfl
 | bl b=>cases (show u=Value.bool b from r);rfl
 | int i=>obtain ⟨t,e⟩:=(show ∃ t,u=Value.int i t from r);cases e;rfl
 | str x=>obtain ⟨t,e⟩:=(show ∃ t,u=Value.str x t from r);cases e;rfl
 | byt b=>obtain ⟨t,e⟩:=(show ∃ t,u=Value.bytes b t from r);cases e;rfl
 | flt b=>obtain ⟨t,e⟩:=(show ∃ t,u=Value.float b t from r);cases e;rfl
 | ref a=>cases (show u=Value.ref a from r);rfl
 | ty n=>cases (show u=Value.type n from r);rfl
section
variable {P:Program} {w:World} {H H':Hp} {h h':Heap} {a C dx:Addr} {fs fs':List (Str×V)}
theorem oB (hok:HOk P w H h) (e:H a=some (.ins C dx fs)):∃ mA,ym h a dx C mA/\(∀ f,kq (fs.lookup f) (mA f))/\PySem.Within mA (fs.map (·.1))/\fs.length<=1000/\H dx=some (.own a):=by
 obtain ⟨d,z,ne,ob,mA,n,r,q⟩:=(show cf P w H h a (.ins C dx fs) from hok a _ e)
 exact ⟨mA,⟨ob,n,ne⟩,r,q,z,d⟩
end
structure Cls (K:PySem.W.Frag) (C:Addr):Prop where
 pg:PySem.W.plainGet K C Str.empty=true
 hd:PySem.W.hasDictIn K C=true
 po:PySem.W.plainOver K C=true
 sa:PySem.W.findIn K (.ref C) "__setattr__"=some (some (.builtin "object.__setattr__"))
theorem Cls.get {K:PySem.W.Frag} {C:Addr} (c:Cls K C) (f:Str):PySem.W.plainGet K C f=true:=c.pg
noncomputable def fh (K:PySem.W.Frag) (C:Addr) (f:Str):Prop:=PySem.W.findIn K (.ref C) f=some none
theorem fh.taker {K:PySem.W.Frag} {C:Addr} {f:Str} (n:fh K C f):PySem.W.takerIn K C f=some none:=by
 unfold PySem.W.takerIn
 rw [show PySem.W.findIn K (.ref C) f=some none from n]
 rfl
structure Meth (K:PySem.W.Frag) (C:Addr) (m:Str) (f:Addr):Prop where
 at_:PySem.W.findIn K (.ref C) m=some (some (.ref f))
 fn:PySem.W.isFn K (.ref f)=true
 kp:PySem.W.keepIn K (.ref f)=true
section
variable {X:Cx} {pins:List (Addr×Obj)} {σ:St} {H:Hp} {s:Shared} {a C dx:Addr} {fs:List (Str×V)} {f:Str} {v:V} {A:Around} {E:Value->Shared->Prop}
theorem xU {b:Bool} {Q:Value->Shared->Prop} (I:Inv X pins σ H s) (e:H a=some (.ins C dx fs)) (c:Cls X.K C) (n:fh X.K C f) (l:fs.lookup f=some v)
  (h:∀ u s',Inv X pins σ H s'->RelV v u->Q u s'):wpAny (model X.prog X.w) A (getAttr (.ref a) f b) Q E s:=by
 obtain ⟨mA,O,r,_,_,_⟩:=oB I.hok e
 obtain ⟨u,hu,ru⟩:=kq.some_of (v:=v) (o:=mA f) (by rw [<- l];exact r f)
 exact get_map I.kIn O (c.get f) c.hd n hu (Bl ru) (h u _ (I.tok _) ru)
theorem qa {m:Str} {g:Addr} {pl:Sem Bool} {Q:Value×List Value->Shared->Prop} (I:Inv X pins σ H s) (e:H a=some (.ins C dx fs)) (c:Cls X.K C) (k:Meth X.K C m g) (l:fs.lookup m=none)
  (h:Q (.ref g,[.ref a]) s):wpAny (model X.prog X.w) A (getMethod (.ref a) m pl) Q E s:=by
 obtain ⟨mA,O,r,_,_,_⟩:=oB I.hok e
 have hn:mA m=none:=kq.none_of (by rw [<- l];exact r m)
 exact En I.kIn O (c.get m) k.at_ k.fn hn h
theorem xh {y:V} {u:Value} {Q:Unit->Shared->Prop} (I:Inv X pins σ H s) (e:H a=some (.ins C dx fs)) (c:Cls X.K C) (n:fh X.K C f) (hl:fs.length < 1000) (ry:RelV y u)
  (h:∀ s',Inv X pins σ (upd H a (.ins C dx (jc f y fs))) s'->Q () s'):wpAny (model X.prog X.w) A (setAttr (.ref a) f u) Q E s:=by
 obtain ⟨mA,O,r,wi,_,ho⟩:=oB I.hok e
 have hz:(fs.map (·.1)).length<=sizeLine:=by rw [List.length_map,sizeLine_eq];omega
 refine set_map I.kIn O c.sa c.po n.taker c.hd wi hz λh' O' sb=>h _ ?_
 have hd:∃ o,h'.get? dx=some o:=let ⟨o,_,_,e',_⟩:=O'.ns;⟨o,e'⟩
 refine I.write (x:=a) (e:=dx) (by rw [e];exact True.intro) (.inr ho) (λb q hb z=>(sb.2 b hb).trans z) hd ?_
 refine ⟨by rw [au O.ne];exact ho,?_,O.ne,O'.obj,_,O'.ns,λg=>?_,λg hg=>?_⟩
 ·have:=nJ f y fs;omega
 ·show kq ((jc f y fs).lookup g) (if g=f then some u else mA g)
  rw [nH]
  by_cases q:g=f
  ·rw [if_pos q,if_pos q];exact ry
  ·rw [if_neg q,if_neg q];exact r g
 ·by_cases q:g=f
  ·rw [q];exact (mY f y fs).1
  ·refine (mY f y fs).2 g (wi g λz=>hg ?_)
   show (if g=f then some u else mA g)=none
   rw [if_neg q];exact z
theorem Inv.made (I:Inv X pins σ H s):Inv X pins σ (upd (upd H s.heap.objs.size (.own (s.heap.objs.size+1))) (s.heap.objs.size+1) (.ins C s.heap.objs.size []))
  {s with heap:=(s.heap.push PySem.W.emptyDict).push (PySem.W.instObj C s.heap.objs.size) }:=by
 have e1:(s.heap.push PySem.W.emptyDict).get? s.heap.objs.size=some PySem.W.emptyDict:=Heap.get?_push_size s.heap rfl
 have e2:((s.heap.push PySem.W.emptyDict).push (PySem.W.instObj C s.heap.objs.size)).get? (s.heap.objs.size+1)=some (PySem.W.instObj C s.heap.objs.size):=by
  have:=Heap.get?_push_size (s.heap.push PySem.W.emptyDict) (o:=PySem.W.instObj C s.heap.objs.size) rfl
  rwa [Heap.size_push] at this
 have e3:(s.heap.push PySem.W.emptyDict).Ns s.heap.objs.size (λ_=>none):=⟨PySem.W.emptyDict,#[],_,e1,rfl,(λe he=>absurd he (by simp)),λ_=>rfl⟩
 have I1:=I.laid (a:=s.heap.objs.size) (o:=.own (s.heap.objs.size+1)) (h':=s.heap.push PySem.W.emptyDict) (t':=s.toks) (λb u q=>Heap.get?_push_of_some _ q) (Nat.le_refl _) ⟨_,e1⟩
 refine I1.laid (a:=s.heap.objs.size+1) (o:=.ins C s.heap.objs.size []) (t':=s.toks) (λb u q=>Heap.get?_push_of_some _ q) (Nat.le_of_eq (Heap.size_push _ _)) ?_
 have ne:s.heap.objs.size≠s.heap.objs.size+1:=Nat.ne_of_lt (Nat.lt_succ_self _)
 refine ⟨by rw [au ne,ae],Nat.zero_le _,ne,e2,λ_=>none,(Heap.Ns1.of_empty e3).at λo q=>Heap.get?_push_of_some _ q,λ_=>True.intro,λy hy=>absurd rfl hy⟩
theorem attr_of {prog:Program} {w:World} {env:Env} {e:Expr} {f:Str} {pos:Pos} {s:Shared} {Q:Value->Shared->Prop} (hb:attributeBase e f env (eval e env)=eval e env)
  (h:wpAny (model prog w) A (eval e env) (λo s₁=>wpAny (model prog w) A (getAttr o f true) Q E s₁) E s):wpAny (model prog w) A (eval (.Attribute e f pos) env) Q E s :=
 Attribute_any_ h (by rw [arm_eval_Attribute,hb])
end
noncomputable def tFld (K:PySem.W.Frag) (ta:TE) (f:Str):TE:=fun σ H Q=>ta σ H λx H1=>∃ a C dx fs v,x=.ref a/\H1 a=some (.ins C dx fs)/\Cls K C/\fh K C f/\fs.lookup f=some v/\Q v H1
noncomputable def sFld (K:PySem.W.Frag) (ta tv:TE) (f:Str):TS:=λD σ H=>tv σ H λy H1=>ta σ H1 λx H2=>∃ a C dx fs,x=.ref a/\H2 a=some (.ins C dx fs)/\Cls K C/\fh K C f/\fs.length < 1000/\
 D.nx σ (upd H2 a (.ins C dx (jc f y fs)))
section
variable {X:Cx} {o e value:Expr} {f:Str} {pos pos' tpos:Pos} {ta tv:TE}
theorem iw (he:PE X e ta) (hb:attributeBase e f X.env (eval e X.env)=eval e X.env):PE X (.Attribute e f pos) (tFld X.K ta f):=by
 intro pins s σ H Q I h
 refine attr_of hb (thn (he pins s σ H _ I h) λu s1 zz=>?_)
 obtain ⟨x,H1,I1,rx,a,C,dx,fs,v,ex,ea,c,n,l,q⟩:=zz
 subst ex
 obtain rfl:u=Value.ref a:=rx
 exact xU I1 ea c n l λu' s2 I2 ru=>⟨v,H1,I2,ru,q⟩
theorem sX (ha:PE X o ta) (hv:PE X value tv) (hs:swapsWith value (some (.Attribute o f pos')) pos.line X.env=pure false):PS X (.Assign [.Attribute o f pos'] value pos) (sFld X.K ta tv f):=by
 intro pins s σ H D I h
 refine plainObj_wpAny_Assign_Attribute (thn (hv pins s σ H _ I h) λu s1 zz=>?_) hs
 obtain ⟨y,H1,I1,ry,q⟩:=zz
 refine thn (ha pins s1 σ H1 _ I1 q) λov s2 zz=>?_
 obtain ⟨x,H2,I2,rx,a,C,dx,fs,ex,ea,c,n,l,q2⟩:=zz
 subst ex
 obtain rfl:ov=Value.ref a:=rx
 exact xh I2 ea c n l ry λs3 I3=>⟨σ,_,I3,q2⟩
end
section
variable {X:Cx} {pins:List (Addr×Obj)} {σ:St} {H:Hp} {s:Shared} {A:Around} {E:Value->Shared->Prop} {Q:Value->Shared->Prop} {c:Value} {b:Bool}
inductive jg (K:PySem.W.Frag) (H:Hp):V->Value->Prop where
 | non:jg K H .non (.type "NoneType")
 | bl (x:Bool):jg K H (.bl x) (.type "bool")
 | int (i:Int):jg K H (.int i) (.type "int")
 | str (x:Str):jg K H (.str x) (.type "str")
 | flt (x:UInt64):jg K H (.flt x) (.type "float")
 | lst {a:Addr} {xs:List V} (e:H a=some (.lst xs)):jg K H (.ref a) (.type "list")
 | frz {a:Addr} {o:Obj} {xs:List V} (e:H a=some (.frz o (.lst xs))):jg K H (.ref a) (.type "list")
 | tup {a:Addr} {xs:List V} (e:H a=some (.tup xs)):jg K H (.ref a) (.type "tuple")
 | dK {a:Addr} {kvs:List (Key×V)} (e:H a=some (.dK kvs)):jg K H (.ref a) (.type "dict")
 | dT {a:Addr} {kvs:List (List Key×V)} (e:H a=some (.dT kvs)):jg K H (.ref a) (.type "dict")
 | ins {a C dx:Addr} {fs:List (Str×V)} (e:H a=some (.ins C dx fs)) (cl:Cls K C) (ha:PySem.W.findIn K (.ref C) "__class__"=some (some (.builtin "object.__class__")))
   (hn:PySem.W.specialIn K (.builtin "object.__class__") "__get__"=some (some (.builtin "getset_descriptor.__get__"))) (htk:PySem.W.takesIn K (.builtin "object.__class__")=some true)
   (hm:PySem.W.mroIn K C (.type "object")=some true):jg K H (.ref a) (.ref C)
theorem Bi {x:V} {u t:Value} (I:Inv X pins σ H s) (rx:RelV x u) (ty:jg X.K H x t) (e:PySem.W.kitOne X.K t c=some b) (h:∀ tk,Q (.bool b) {s with toks:=tk}) :
  wpAny (model X.prog X.w) A (call (.builtin "isinstance") [u,c]) Q E s:=by
 cases ty with
 | non=>cases (show u=Value.none from rx);exact PySem.W.kia_one PySem.W.kitx_none I.kIn True.intro e (λz=>nomatch z) h
 | bl y=>cases (show u=Value.bool y from rx);exact PySem.W.kia_one PySem.W.kitx_bool I.kIn True.intro e (λz=>nomatch z) h
 | int i=>obtain ⟨t,q⟩:=(show ∃ t,u=Value.int i t from rx);cases q;exact PySem.W.kia_one PySem.W.kitx_int I.kIn True.intro e (λz=>nomatch z) h
 | str y=>obtain ⟨t,q⟩:=(show ∃ t,u=Value.str y t from rx);cases q;exact PySem.W.kia_one PySem.W.kitx_str I.kIn True.intro e (λz=>nomatch z) h
 | flt y=>obtain ⟨t,q⟩:=(show ∃ t,u=Value.float y t from rx);cases q;exact PySem.W.kia_one PySem.W.kitx_float I.kIn True.intro e (λz=>nomatch z) h
 | @lst a xs ea =>
  cases (show u=Value.ref a from rx)
  obtain ⟨_,_,n,_,h1⟩:=(show cf X.prog X.w H s.heap a (.lst xs) from I.hok a _ ea)
  exact PySem.W.kia_one PySem.W.kitx_list I.kIn ⟨_,h1,rfl⟩ e (λz=>nomatch z) h
 | @frz a ob xs ea =>
  cases (show u=Value.ref a from rx)
  obtain ⟨_,_,_,n,_,h1⟩:=(show cf X.prog X.w H s.heap a (.frz ob (.lst xs)) from I.hok a _ ea)
  exact PySem.W.kia_one PySem.W.kitx_list I.kIn ⟨_,h1,rfl⟩ e (λz=>nomatch z) h
 | @tup a xs ea =>
  cases (show u=Value.ref a from rx)
  obtain ⟨_,_,_,p⟩:=(show cf X.prog X.w H s.heap a (.tup xs) from I.hok a _ ea)
  obtain ⟨o,h1,h2,_⟩:=p
  exact PySem.W.kia_one PySem.W.kitx_tuple I.kIn ⟨o,h1,h2⟩ e (λz=>nomatch z) h
 | @dK a kvs ea =>
  cases (show u=Value.ref a from rx)
  obtain ⟨_,_,vs,_,p⟩:=(show cf X.prog X.w H s.heap a (.dK kvs) from I.hok a _ ea)
  obtain ⟨o,es,ep,h1,h2,_⟩:=p
  exact PySem.W.kia_one PySem.W.kitx_dict I.kIn ⟨o,h1,h2.1⟩ e (λz=>nomatch z) h
 | @dT a kvs ea =>
  cases (show u=Value.ref a from rx)
  obtain ⟨_,_,xs,_,o,es,ep,h1,h2,_⟩:=(show cf X.prog X.w H s.heap a (.dT kvs) from I.hok a _ ea)
  exact PySem.W.kia_one PySem.W.kitx_dict I.kIn ⟨o,h1,h2.1⟩ e (λz=>nomatch z) h
 | @ins a C dx fs ea cl ha hn htk hm =>
  cases (show u=Value.ref a from rx)
  obtain ⟨mA,O,_⟩:=oB I.hok ea
  obtain ⟨od,J,_⟩:=O.look
  exact PySem.W.kia_one (PySem.W.kitx_own (cl.get _) cl.hd ha hn htk hm) I.kIn J e (λz=>nomatch z) h
end
structure cX (k:Nat) (A:Around):Prop where
 hd:A.handled=none
 dp:A.depth+3*k+5 < recursionLimit
 un:A.units+16*k+200 < cLine
theorem cX.mono {j k:Nat} {A:Around} (r:cX k A) (h:j<=k):cX j A:=⟨r.hd,by have:=r.dp;omega,by have:=r.un;omega⟩
theorem cX.deeper {k:Nat} {A:Around} (r:cX (k+1) A) (env:Env):cX k (A.deeper env) :=
 ⟨r.hd,by have:=r.dp;show A.depth+1+3*k+5 < _;omega,by have:=r.un;show A.units+3+16*k+200 < _;omega⟩
theorem xP {A:Around} {C:Addr} {us:List Value} {kw:List (Str×Value)}:(A.under (.builtin "type.__call__" ⟨.ref C::us,kw⟩)).depth=A.depth+1:=by
 first | rfl | simp [Around.under,Code.weight,Code.isCreation,Code.isGuard,Code.isCaller,Code.frames,Code.isFrame,guardIds]
theorem xO {A:Around} {C:Addr} {us:List Value} {kw:List (Str×Value)}:(A.under (.builtin "type.__call__" ⟨.ref C::us,kw⟩)).units=A.units+1:=by
 first | rfl | simp [Around.under,Code.cUnits,Code.frames,Code.isFrame]
theorem cX.make {k:Nat} {A:Around} (r:cX (k+1) A) (C:Addr) (us:List Value) (kw:List (Str×Value)):cX k (A.under (.builtin "type.__call__" ⟨.ref C::us,kw⟩)) :=
 ⟨r.hd,by have:=r.dp;rw [xP];omega,by have:=r.un;rw [xO];omega⟩
theorem cX.depth {k:Nat} {A:Around} (r:cX k A):A.depth < recursionLimit:=by have:=r.dp;omega
theorem cX.units {k:Nat} {A:Around} (r:cX k A):A.units+64 < cLine:=by have:=r.un;omega
noncomputable def nM:TA:=λ_ H Q=>Q [] H
noncomputable def eA (ta:TE) (tr:TA):TA:=fun σ H Q=>ta σ H λx H1=>tr σ H1 λxs H2=>Q (x::xs) H2
section
variable {X:Cx} {e:Expr} {es:List Expr} {te:TE} {t:TA} {pos:Pos}
theorem af:PA X [] nM:=λ_ _ _ _ H Q I h=>Calls.spliced_nil ⟨[],H,I,.nil,h⟩
theorem aa (ha:PE X e te) (hr:PA X es t) (hs:starEach (e::es) X.env=(false,eval e X.env)::starEach es X.env:=by rfl):PA X (e::es) (eA te t):=by
 intro pos pins s σ H Q I h
 rw [hs]
 show wpAny _ _ (spliced ((false,eval e X.env)::backTo pos (starEach es X.env))) _ _ s
 refine Calls.spliced_cons (thn (ha pins s σ H _ I h) λu s1 zz=>?_)
 obtain ⟨x,H1,I1,r1,q1⟩:=zz
 refine thn (hr pos pins s1 σ H1 _ I1 q1) λus s2 zz=>?_
 obtain ⟨xs,H2,I2,r2,q2⟩:=zz
 exact ⟨x::xs,H2,I2,.cons r1 r2,q2⟩
noncomputable def tTup (t:TA):TE:=fun σ H Q=>t σ H λxs H1=>xs.length<=sizeLine/\∀ p,H1 p=none->Q (.ref p) (upd H1 p (.tup xs))
noncomputable def tLst (t:TA):TE:=fun σ H Q=>t σ H λxs H1=>xs.length<=sizeLine/\∀ p,H1 p=none->Q (.ref p) (upd H1 p (.lst xs))
theorem bh {x1} (h:PA X es t):PE X (.Tuple es x1 pos) (tTup t):=by
 intro pins s σ H Q I hq
 refine wpAny_Tuple_spliced (thn (h pos pins s σ H _ I hq) λus s1 zz=>?_)
 obtain ⟨xs,H1,I1,r,z,q⟩:=zz
 refine ⟨by rw [<- r.length];exact z,?_⟩
 have hf:H1 s1.heap.objs.size=none:=I1.hok.fresh (Nat.le_refl _)
 refine ⟨.ref s1.heap.objs.size,upd H1 s1.heap.objs.size (.tup xs),I1.laid (t':=s1.toks) (λb u e=>Heap.get?_push_of_some _ e) (Nat.le_refl _) ?_,rfl,q _ hf⟩
 exact ⟨z,us,r,⟨_,Heap.get?_push_size _ rfl,rfl,_,rfl⟩⟩
theorem bF (h:PA X es t):PE X (.List es pos) (tLst t):=by
 intro pins s σ H Q I hq
 refine wpAny_List_spliced (thn (h pos pins s σ H _ I hq) λus s1 zz=>?_)
 obtain ⟨xs,H1,I1,r,z,q⟩:=zz
 refine ⟨by rw [<- r.length];exact z,?_⟩
 have hf:H1 s1.heap.objs.size=none:=I1.hok.fresh (Nat.le_refl _)
 refine ⟨.ref s1.heap.objs.size,upd H1 s1.heap.objs.size (.lst xs),I1.laid (t':=s1.toks) (λb u e=>Heap.get?_push_of_some _ e) (Nat.le_refl _) ?_,rfl,q _ hf⟩
 exact ⟨z,us,0,r,Heap.get?_push_size _ rfl⟩
end
noncomputable abbrev Sp:=List V->Hp->VK->XK->Prop
noncomputable abbrev CXT:=List Env->Hp->Shared->XK->Value->Shared->Prop
structure yp (P:Program) (w:World) (K:PySem.W.Frag) (mg:Str->Option Value) (base:Heap) (A:Around) (outer:List Env) (s:Shared) (H:Hp):Prop where
 frames:A.frames=some outer
 mod:Mod K mg base
 bs:∀ b o,base.get? b=some o->s.heap.get? b=some o/\H b=none
 bsz:base.objs.size<=s.heap.objs.size
 funs:s.heap.FunFrames base outer
 frf:∀ b∈frs outer,H b=none
 hok:HOk P w H s.heap
 bare:AllBare s.gens
noncomputable def CE (outer:List Env) (P:Program) (w:World) (H:Hp) (s:Shared) (Q:VK) (u:Value) (s':Shared):Prop :=
 ∃ v H',s'.os=s.os/\AllBare s'.gens/\Un (frs outer) [] H H' s.heap s'.heap/\HOk P w H' s'.heap/\RelV v u/\Q v H'
noncomputable def CR (CX:CXT) (outer:List Env) (P:Program) (w:World) (H:Hp) (s:Shared) (Q:VK) (E:XK) (r:Result) (s':Shared):Prop :=
 match r with
 | .ok (.ret u)=>CE outer P w H s Q u s'
 | .ok _=>False
 | .error e=>CX outer H s E e s'
structure mj (P:Program) (w:World) (K:PySem.W.Frag) (mg:Str->Option Value) (base:Heap) (CX:CXT) (k:Nat) (f:Addr) (fd:FuncData) (ps:List Str) (sp:Sp):Prop where
 len:∀ vs H Q E,sp vs H Q E->vs.length=ps.length
 run:∀(A:Around) (outer:List Env) (s:Shared) (H:Hp) (args:Args) (us:List Value) (vs:List V) (Q:VK) (E:XK),cX k A->yp P w K mg base A outer s H->BindsTo s fd args (ps.zip us)->Vals vs us->sp vs H Q E->
  codeAny (model P w) A (.call (.ref f) args) (CR CX outer P w H s Q E) s
theorem yp.make {P:Program} {w:World} {K:PySem.W.Frag} {mg:Str->Option Value} {base:Heap} {A:Around} {outer:List Env} {s:Shared} {H:Hp} (e:yp P w K mg base A outer s H) (C:Addr) (us:List Value) (kw:List (Str×Value)) :
  yp P w K mg base (A.under (.builtin "type.__call__" ⟨.ref C::us,kw⟩)) outer s H:=⟨by first | exact e.frames | (simpa [Around.under,Code.envs,Code.isFrame,pushEnvs] using e.frames),e.mod,e.bs,e.bsz,e.funs,e.frf,e.hok,e.bare⟩
section
variable {X:Cx} {pins:List (Addr×Obj)} {σ:St} {H:Hp} {s s':Shared}
theorem Inv.env0 (I:Inv X pins σ H s):yp X.prog X.w X.K X.mg X.base X.A X.stack s H :=
 ⟨I.ok.frames,I.ok.mod,I.bs,Nat.le_trans I.ok.bsz I.sz,I.stack,I.stkFree,I.hok,I.bare⟩
theorem Inv.after {Q:VK} {u:Value} (I:Inv X pins σ H s) (h:CE X.stack X.prog X.w H s Q u s'):EP X pins σ Q u s':=by
 obtain ⟨v,H',os,bare,un,hok,r,q⟩:=h
 obtain ⟨hh,g,d,t,os'⟩:=s'
 obtain rfl:os'=s.os:=os
 exact ⟨v,H',I.call (h':=hh) (g':=g) (d':=d) (t':=t) (ch:=[]) un hok bare (λb z=>absurd z (by simp)),r,q⟩
end
noncomputable def oO (sp:Sp) (dvs:List V) (E:XK) (t:TA):TE:=fun σ H Q=>t σ H λvs H1=>sp (vs++dvs) H1 Q E
noncomputable def tMake (C:Addr) (sp:Sp) (dvs:List V) (E:XK) (t:TA):TE:=fun σ H Q=>t σ H λvs H1=>∀ x dx,H1 x=none->H1 dx=none->dx≠x->
 sp (.ref x::(vs++dvs)) (upd (upd H1 dx (.own x)) x (.ins C dx [])) (λv H2=>v=.non/\Q (.ref x) H2) E
noncomputable def Binds (K:PySem.W.Frag) (fd:FuncData) (ps:List Str) (ds:List Value):Prop :=
 ∀(s:Shared) (us:List Value),K.In s.heap->(us++ds).length=ps.length->BindsTo s fd ⟨us,[]⟩ (ps.zip (us++ds))
theorem Binds.all {K:PySem.W.Frag} {fd:FuncData} {ps:List Str} (h:∀ us:List Value,us.length=ps.length->bindArgs fd ⟨us,[]⟩=pure (ps.zip us)):Binds K fd ps []:=λs us _ hl=>by
 rw [List.append_nil] at hl ⊢
 exact .of_eq (h us hl)
noncomputable def Passes (CX:CXT) (X:Cx) (E:XK):Prop:=∀(pins:List (Addr×Obj)) (σ:St) (H:Hp) (s:Shared) (e:Value) (s':Shared),Inv X pins σ H s->CX X.stack H s E e s'->X.xe e s'
section
variable {X:Cx} {CX:CXT} {k:Nat} {f C:Addr} {fd:FuncData} {ps:List Str} {sp:Sp} {dvs:List V} {ds:List Value} {E:XK} {x m:Str} {p pos apos:Pos} {e o:Expr} {es:List Expr} {ta:TE} {t:TA}
theorem sP {pins:List (Addr×Obj)} {σ:St} {H:Hp} {s:Shared} {Q:VK} {us:List Value} {vs:List V} (F:mj X.prog X.w X.K X.mg X.base CX k f fd ps sp) (hr:cX k X.A) (hb:Binds X.K fd ps ds) (hd:Vals dvs ds) (hx:Passes CX X E)
  (I:Inv X pins σ H s) (r:Vals vs us) (h:sp (vs++dvs) H Q E):wpAny (model X.prog X.w) X.A (call (.ref f) us) (EP X pins σ Q) X.xe s:=by
 have r2:Vals (vs++dvs) (us++ds):=r.append hd
 have hl:(us++ds).length=ps.length:=by rw [<- r2.length];exact F.len _ _ _ _ h
 refine wpAny_call (codeAny_mono (F.run X.A X.stack s H ⟨us,[]⟩ (us++ds) (vs++dvs) Q E hr I.env0 (hb s us I.kIn hl) r2 h) λr s' hq=>?_)
 cases r with
 | error e=>exact hx pins σ H s e s' I hq
 | ok fl =>
  cases fl with
  | ret u=>exact I.after hq
  | next=>exact False.elim hq
  | brk=>exact False.elim hq
  | cont=>exact False.elim hq
theorem tH (F:mj X.prog X.w X.K X.mg X.base CX k f fd ps sp) (hr:cX k X.A) (hg:Gl X x) (hm:X.mg x=some (.ref f)) (hk:PySem.W.keepIn X.K (.ref f)=true) (hb:Binds X.K fd ps ds) (hd:Vals dvs ds) (hx:Passes CX X E)
  (ha:PA X (e::es) t) (hdb:(x == ("__debug__":Str))=false:=by decide) (he:starEach (e::es) X.env=(false,eval e X.env)::starEach es X.env:=by rfl) (hpl:(backTo pos (starEach es X.env)).any (·.1)=false:=by rfl) :
  PE X (.Call (.Name x p) (e::es) [] pos) (oO sp dvs E t):=by
 intro pins s σ H Q I h
 refine wpAny_Call_Name_kw (kg I hg hm ?_ hdb)
 refine PySem.W.callWith_K (h₀:=X.base) I.ok.mod.kin hk (thn (ha pos pins s σ H _ I h) λus s1 zz=>?_) he hpl
 obtain ⟨vs,H1,I1,r,q⟩:=zz
 refine ⟨I1.kIn,?_⟩
 exact sP F hr hb hd hx I1 r q
theorem Dx (F:mj X.prog X.w X.K X.mg X.base CX k f fd ps sp) (hr:cX k X.A) (hg:Gl X x) (hm:X.mg x=some (.ref f)) (hk:PySem.W.keepIn X.K (.ref f)=true) (hb:Binds X.K fd ps ds) (hd:Vals dvs ds) (hx:Passes CX X E)
  (hdb:(x == ("__debug__":Str))=false:=by decide):PE X (.Call (.Name x p) [] [] pos) (oO sp dvs E nM):=by
 intro pins s σ H Q I h
 refine wpAny_Call_Name_kw (kg I hg hm ?_ hdb)
 exact PySem.W.callWith_K0 I.kIn hk (sP (us:=[]) F hr hb hd hx I .nil h)
structure Mk (K:PySem.W.Frag) (C f:Addr):Prop where
 makes:PySem.W.makesIn K C=true
 init:PySem.W.findIn K (.ref C) "__init__"=some (some (.ref f))
 fn:PySem.W.isFn K (.ref f)=true
 kp:PySem.W.keepIn K (.ref C)=true
theorem CK {pins:List (Addr×Obj)} {σ:St} {H:Hp} {s:Shared} {Q:VK} {us:List Value} {vs:List V} (M:Mk X.K C f) (F:mj X.prog X.w X.K X.mg X.base CX k f fd ps sp) (hr:cX (k+1) X.A) (hb:Binds X.K fd ps ds) (hd:Vals dvs ds)
  (hx:Passes CX X E) (I:Inv X pins σ H s) (r:Vals vs us)
  (h:∀ x dx,H x=none->H dx=none->dx≠x->sp (.ref x::(vs++dvs)) (upd (upd H dx (.own x)) x (.ins C dx [])) (λv H2=>v=.non/\Q (.ref x) H2) E) :
  wpAny (model X.prog X.w) X.A (call (.ref C) us) (EP X pins σ Q) X.xe s:=by
 have hq:=h (s.heap.objs.size+1) s.heap.objs.size (I.hok.fresh (Nat.le_succ _)) (I.hok.fresh (Nat.le_refl _)) (Nat.ne_of_lt (Nat.lt_succ_self _))
 have I2:=Inv.made (C:=C) I
 have r2:Vals (V.ref (s.heap.objs.size+1)::(vs++dvs)) (Value.ref (s.heap.objs.size+1)::(us++ds)):=.cons rfl (r.append hd)
 have hl:(Value.ref (s.heap.objs.size+1)::us++ds).length=ps.length:=by
  have e:=r2.length
  rw [F.len _ _ _ _ hq] at e
  exact e.symm
 refine wpAny_call (DX (f:=f) I.kIn M.makes M.init (beq_iff_eq.mp M.fn) (codeAny_mono (F.run _ X.stack _ _ ⟨Value.ref (s.heap.objs.size+1)::us,[]⟩ (Value.ref (s.heap.objs.size+1)::(us++ds)) _ _ E (hr.make C us [])
  (I2.env0.make C us []) (hb _ (Value.ref (s.heap.objs.size+1)::us) I2.kIn hl) r2 hq) λr s' hq'=>?_))
 cases r with
 | error e=>exact hx pins σ _ _ e s' I2 hq'
 | ok fl =>
  cases fl with
  | ret u =>
   obtain ⟨v,H',I3,rv,ev,q3⟩:=I2.after hq'
   subst ev
   exact ⟨rv,⟨V.ref (s.heap.objs.size+1),H',I3,rfl,q3⟩⟩
  | next=>exact False.elim hq'
  | brk=>exact False.elim hq'
  | cont=>exact False.elim hq'
theorem pe_make (M:Mk X.K C f) (F:mj X.prog X.w X.K X.mg X.base CX k f fd ps sp) (hr:cX (k+1) X.A) (hg:Gl X x) (hm:X.mg x=some (.ref C)) (hb:Binds X.K fd ps ds) (hd:Vals dvs ds) (hx:Passes CX X E)
  (ha:PA X (e::es) t) (hdb:(x == ("__debug__":Str))=false:=by decide) (he:starEach (e::es) X.env=(false,eval e X.env)::starEach es X.env:=by rfl) (hpl:(backTo pos (starEach es X.env)).any (·.1)=false:=by rfl) :
  PE X (.Call (.Name x p) (e::es) [] pos) (tMake C sp dvs E t):=by
 intro pins s σ H Q I h
 refine wpAny_Call_Name_kw (kg I hg hm ?_ hdb)
 refine PySem.W.callWith_K (h₀:=X.base) I.ok.mod.kin M.kp (thn (ha pos pins s σ H _ I h) λus s1 zz=>?_) he hpl
 obtain ⟨vs,H1,I1,r,q⟩:=zz
 refine ⟨I1.kIn,?_⟩
 exact CK M F hr hb hd hx I1 r q
end
section
variable {X:Cx} {CX:CXT} {k:Nat} {f C:Addr} {fd:FuncData} {ps ks:List Str} {sp:Sp} {E:XK} {x m:Str} {p pos apos kpos:Pos} {e o:Expr} {es:List Expr} {kws:List Keyword} {te ta:TE} {t tk:TA} {nm:Option Str}
variable {g:List Value->List Value->List Value} {gV:List V->List V->List V}
end
structure aA (N P:List Str) (sc:Scope):Prop where
 kind:sc.kind=.function
 co:sc.isCoroutine=false
 gen:sc.isGenerator=false
 nd:N.Nodup
 pre:N.take P.length=P
 par:∀ x∈P,sc.names.lookup x=some .local\/sc.names.lookup x=some .cell
 nofree:∀ y∈sc.names,y.2≠.free
theorem ar0 {p:List Value->Prop} (h:p []) (us:List Value) (e:us.length=0):p us:=by
 rw [List.eq_nil_of_length_eq_zero e]
 exact h
theorem arS {p:List Value->Prop} {n:Nat} (h:∀ a us,us.length=n->p (a::us)) (us:List Value) (e:us.length=n+1):p us:=by
 cases us with
 | nil=>exact absurd e.symm (Nat.succ_ne_zero n)
 | cons a t=>exact h a t (Nat.succ.inj e)
theorem ar1 {p:List Value->Prop} (h:∀ a,p [a]):∀ us:List Value,us.length=1->p us:=arS λa=>ar0 (h a)
theorem ar2 {p:List Value->Prop} (h:∀ a b,p [a,b]):∀ us:List Value,us.length=2->p us:=arS λa=>ar1 (h a)
theorem ar3 {p:List Value->Prop} (h:∀ a b c,p [a,b,c]):∀ us:List Value,us.length=3->p us:=arS λa=>ar2 (h a)
theorem ar4 {p:List Value->Prop} (h:∀ a b c d,p [a,b,c,d]):∀ us:List Value,us.length=4->p us:=arS λa=>ar3 (h a)
theorem ar5 {p:List Value->Prop} (h:∀ a b c d e,p [a,b,c,d,e]):∀ us:List Value,us.length=5->p us:=arS λa=>ar4 (h a)
theorem fsc {N P:List Str} {sc:Scope} (k:sc.kind=.function) (h:(sc.isCoroutine=false)/\(sc.isGenerator=false)/\(N.Nodup)/\(N.take P.length=P)/\(∀ x∈P,sc.names.lookup x=some .local\/sc.names.lookup x=some .cell)/\(∀ y∈sc.names,y.2≠.free)):aA N P sc:=⟨k,h.1,h.2.1,h.2.2.1,h.2.2.2.1,h.2.2.2.2.1,h.2.2.2.2.2⟩
theorem rW {kindOf:Str->Option NameKind} {x:Str}:∀{binds:List (Str×Value)} {m:Str->Option Value},(∀ v,(x,v) ∉ binds)->bindL kindOf binds m x=m x
 | [],_,_=>rfl
 | (n,v)::r,m,h=>by
  unfold bindL
  rw [rW λw hw=>h w (List.mem_cons_of_mem _ hw)]
  split
  ·have:x≠n:=by rintro rfl;exact h v List.mem_cons_self
   simp [this]
  ·rfl
theorem rY {kindOf:Str->Option NameKind} {x:Str}:∀{binds:List (Str×Value)} {m:Str->Option Value},(∀ v,(x,v) ∉ binds)->bindC kindOf binds m x=m x
 | [],_,_=>rfl
 | (n,v)::r,m,h=>by
  unfold bindC
  rw [rY λw hw=>h w (List.mem_cons_of_mem _ hw)]
  split
  ·rfl
  ·have:x≠n:=by rintro rfl;exact h v List.mem_cons_self
   simp [this]
theorem rX {kindOf:Str->Option NameKind} {x:Str} {v:Value}:∀{P:List Str} {vs:List Value} {i:Nat} {m:Str->Option Value},P.Nodup->P[i]?=some x->vs[i]?=some v->kindOf x=some .local->
  bindL kindOf (P.zip vs) m x=some v
 | [],_,_,_,_,h,_,_=>by simp at h
 | _::_,[],_,_,_,_,h,_=>by simp at h
 | p::P,w::vs,0,m,nd,h1,h2,hk=>by
  simp at h1 h2;subst h1;subst h2
  show bindL kindOf ((p,w)::P.zip vs) m p=_
  unfold bindL
  rw [rW λv hv=>(List.nodup_cons.mp nd).1 (List.of_mem_zip hv).1,if_pos hk]
  simp
 | p::P,w::vs,i+1,m,nd,h1,h2,hk=>by
  show bindL kindOf ((p,w)::P.zip vs) m x=_
  unfold bindL
  exact rX (i:=i) (List.nodup_cons.mp nd).2 (by simpa using h1) (by simpa using h2) hk
theorem rZ {kindOf:Str->Option NameKind} {x:Str} {v:Value}:∀{P:List Str} {vs:List Value} {i:Nat} {m:Str->Option Value},P.Nodup->P[i]?=some x->vs[i]?=some v->kindOf x≠some .local->
  bindC kindOf (P.zip vs) m x=some v
 | [],_,_,_,_,h,_,_=>by simp at h
 | _::_,[],_,_,_,_,h,_=>by simp at h
 | p::P,w::vs,0,m,nd,h1,h2,hk=>by
  simp at h1 h2;subst h1;subst h2
  show bindC kindOf ((p,w)::P.zip vs) m p=_
  unfold bindC
  rw [rY λv hv=>(List.nodup_cons.mp nd).1 (List.of_mem_zip hv).1,if_neg hk]
  simp
 | p::P,w::vs,i+1,m,nd,h1,h2,hk=>by
  show bindC kindOf ((p,w)::P.zip vs) m x=_
  unfold bindC
  exact rZ (i:=i) (List.nodup_cons.mp nd).2 (by simpa using h1) (by simpa using h2) hk
noncomputable def start (N:List Str) (vs:List V):St:=vs.map some++List.replicate (N.length - vs.length) none
noncomputable def cS (CX:CXT) (P:Program) (w:World) (K:PySem.W.Frag) (mg:Str->Option Value) (base:Heap) (N:List Str) (qual:Str) (scope:Scope) (f:Addr) (cd:Value) (A:Around) (outer:List Env) (s:Shared) (H:Hp) (E:XK):Cx where
 prog:=P
 w:=w
 K:=K
 mg:=mg
 base:=base
 A:=A.deeper (envOfC qual scope s.heap.objs.size f cd)
 N:=N
 s₀:=s
 H₀:=H
 env:=envOfC qual scope s.heap.objs.size f cd
 outer:=outer
 stack:=envOfC qual scope s.heap.objs.size f cd::outer
 ex:=[]
 calm:=true
 fn:=λ_=>true
 pn:=[]
 xe:=λe s'=>wpAny (model P w) (A.deeper (envOfC qual scope s.heap.objs.size f cd)) (leaving (envOfC qual scope s.heap.objs.size f cd) e) (λ_ s''=>CX outer H s E e s'') (λe' s''=>CX outer H s E e' s'') s'
theorem wu {sc:Scope} {n:Nat} {x:Str} (h:sc.names.lookup x=some .cell):∃ c,(cellsFrom n sc.names []).lookup x=some c:=by
 have q:=PySem.W.cellsFrom_some sc.names n [] (.inl h)
 exact Option.isSome_iff_exists.mp q
theorem Bj {CX:CXT} {P:Program} {w:World} {K:PySem.W.Frag} {mg:Str->Option Value} {base:Heap} {N ps:List Str} {qual:Str} {scope:Scope} {f:Addr} {cd:Value} {A:Around} {outer:List Env} {s s1:Shared} {H:Hp} {E:XK} {us:List Value} {vs:List V}
  (S:aA N ps scope) (hd:A.handled=none) (e0:yp P w K mg base A outer s H) (hl:vs.length=ps.length) (r:Vals vs us)
  (x:InCallC s s.heap.objs.size (bindL (envOfC qual scope s.heap.objs.size f cd).kindOf (ps.zip us) λ_=>none) (cellsFrom (s.heap.objs.size+1) scope.names []) (bindC (envOfC qual scope s.heap.objs.size f cd).kindOf (ps.zip us) λ_=>none) s1) :
  Inv (cS CX P w K mg base N qual scope f cd A outer s H E) [] (start N vs) H s1:=by
 have hpl:ps.length<=N.length:=by have:=congrArg List.length S.pre;rw [List.length_take] at this;omega
 obtain ⟨h1,tk,rfl,hk⟩:=x.done
 have noA:∀ b:Addr,b ∉ (cS CX P w K mg base N qual scope f cd A outer s H E).ex:=λb z=>absurd (show b∈([]:List Addr) from z) (by simp)
 refine ⟨⟨e0.mod,S.kind,rfl,rfl,Nat.le_refl _,λy z c h1 h2=>?_,λy hy=>?_,λy c _ h=>?_,λ_=>hd,Around.frames_deeper e0.frames,.inr ⟨rfl,rfl⟩,λb z=>absurd z (noA b),e0.bs,e0.bsz,λb _ _=>noA b,λb z=>absurd z (noA b),e0.funs,e0.frf⟩,
  rfl,e0.bare,Un.kept hk,⟨_,x.toInCall.ns,λi y v h1 h2 h3=>?_⟩,λy c h=>⟨_,x.cell y c h⟩,e0.hok.fresh (Nat.le_refl _),λy c h=>?_,λp hp=>absurd (show p∈([]:List (Addr×Obj)) from hp) (by simp),e0.hok.kept hk,?_⟩
 ·exact name_of_addr x.apart (PySem.mem_of_lookup h1) (PySem.mem_of_lookup h2)
 ·have hy:scope.names.lookup y=some .cell\/scope.names.lookup y=some .free:=hy
  rcases hy with hy | hy
  ·exact wu hy
  ·exact absurd rfl (S.nofree _ (PySem.mem_of_lookup hy))
 ·exact Nat.le_of_lt (x.above y c (PySem.mem_of_lookup h))
 ·have hi:i < vs.length:=by
   unfold start at h2
   by_cases hi:i < vs.length
   ·exact hi
   ·rw [List.getElem?_append_right (by simpa using hi)] at h2
    rw [List.getElem?_replicate] at h2
    split at h2 <;> cases h2
  have ha:vs[i]?=some v:=by
   unfold start at h2
   rw [List.getElem?_append_left (by simpa using hi),List.getElem?_map] at h2
   cases e:vs[i]? with
   | none=>rw [e] at h2;cases h2
   | some a=>rw [e] at h2;cases h2;rfl
  obtain ⟨u,hu,rv⟩:=r.get ha
  have hp:ps[i]?=some y:=by
   rw [<- S.pre,List.getElem?_take_of_lt (by omega)];exact h1
  have ndP:ps.Nodup:=by rw [<- S.pre];exact S.nd.sublist (List.take_sublist _ _)
  refine ⟨u,rv,?_⟩
  rcases S.par y (List.mem_of_getElem? hp) with k | k
  ·exact .inl ⟨k,rX ndP hp hu k⟩
  ·obtain ⟨c,e⟩:=wu (n:=s.heap.objs.size+1) k
   refine .inr ⟨.inl k,c,e,?_⟩
   have q:=x.cell y c e
   rw [rZ ndP hp hu (by show scope.names.lookup y≠_;rw [k];decide)] at q
   exact q
 ·exact e0.hok.fresh (Nat.le_of_lt (x.above y c (PySem.mem_of_lookup h)))
 ·unfold start
  show _=N.length
  rw [List.length_append,List.length_map,List.length_replicate]
  omega
theorem fn_of {CX:CXT} {P:Program} {w:World} {K:PySem.W.Frag} {mg:Str->Option Value} {base:Heap} {k:Nat} {f:Addr} {name qual:Str} {params:Arguments} {body:List Stmt} {scope:Scope} {dV kV doc pm cdv ct oc:Value} {an od:Option Addr}
  {osl:Array (Option Value)} {N ps:List Str} {sp:Sp} (lk:K.lookup f=some ⟨oc,od,.func (PySem.W.fnOf name qual params body scope dV kV doc pm an cdv ct),osl⟩) (hcd:PySem.W.codeIn K cdv qual=true) (S:aA N ps scope)
  (len:∀ vs H Q E,sp vs H Q E->vs.length=ps.length)
  (hbody:∀(A:Around) (outer:List Env) (s:Shared) (H:Hp) (vs:List V) (Q:VK) (E:XK),cX k (A.deeper (envOfC qual scope s.heap.objs.size f cdv))->sp vs H Q E->
   ∃ t,PSs (cS CX P w K mg base N qual scope f cdv A outer s H E) body t/\t {nx:=λ_ H'=>Q .non H',rt:=Q} (start N vs) H) :
  mj P w K mg base CX (k+1) f (PySem.W.fnOf name qual params body scope dV kV doc pm an cdv ct) ps sp:=by
 refine ⟨len,λA outer s H args us vs Q E hr e0 hb r hsp=>?_⟩
 have hl:=len _ _ _ _ hsp
 have KX:K.In s.heap:=e0.mod.kin.keeps λb o e=>(e0.bs b o e).1
 have lim:s.heap.NoLimit:=e0.mod.nolimit.keeps λb o e=>(e0.bs b o e).1
 have hkind:∀ y∈ps.zip us,scope.names.lookup y.1=some .local\/(scope.names.lookup y.1=some .cell/\((cellsFrom (s.heap.objs.size+1) scope.names []).lookup y.1).isSome=true):=λ⟨n,v⟩ hy=>by
  rcases S.par n (List.of_mem_zip hy).1 with q | q
  ·exact .inl q
  ·exact .inr ⟨q,PySem.W.cellsFrom_some _ _ _ (.inl q)⟩
 refine codeAny_call_function hr.depth (KX _ _ lk) rfl S.co S.gen rfl (PySem.W.codeRec_of KX hcd) (hb _ _ _ _ ?_)
 refine wpAny_newFunctionEnv_cells S.kind hkind λenv he s1 x=>?_
 subst he
 refine ⟨lim.keeps x.toInCall.keep,codeAny_func ?_⟩
 obtain ⟨t,ht,hq⟩:=hbody A outer s H vs Q E (hr.deeper _) hsp
 have I:Inv (cS CX P w K mg base N qual scope f cdv A outer s H E) [] (start N vs) H s1:=Bj S hr.hd e0 hl r x
 refine wpAny_mono (ht [] s1 (start N vs) H _ I hq) (λfl s' hs=>?_) λe s' hs=>hs
 have fin:∀{σ':St} {H':Hp} {v:V} {u:Value},Inv (cS CX P w K mg base N qual scope f cdv A outer s H E) [] σ' H' s'->RelV v u->Q v H'->CE outer P w H s Q u s' :=
  λ{σ' H' v u} J rv q=>⟨v,H',J.os,J.bare,J.base,J.hok,rv,q⟩
 cases fl with
 | ret u =>
  obtain ⟨v,σ',H',J,rv,q⟩:=hs
  exact fin J rv q
 | next =>
  obtain ⟨σ',H',J,q⟩:=hs
  exact fin (v:=V.non) (u:=Value.none) J rfl q
 | brk =>
  obtain ⟨_,_,_,q⟩:=hs
  exact False.elim q
 | cont =>
  obtain ⟨_,_,_,q⟩:=hs
  exact False.elim q
section
variable {X:Cx} {x:Str} {p pos:Pos} {e:Expr} {es:List Expr} {t:TA} {id T:String} {r:List V->Hp->VK->Prop}
noncomputable def tCB (r:List V->Hp->VK->Prop) (t:TA):TE:=fun σ H Q=>t σ H λvs H1=>r vs H1 Q
theorem aB (hc:ft X (.builtin id) r) (hg:Gl X x) (hm:X.mg x=none) (hv:bootBuiltins x=some (.builtin id)) (ha:PA X (e::es) t) (hn:x≠"__name__":=by decide) (hdb:(x == ("__debug__":Str))=false:=by decide)
  (he:starEach (e::es) X.env=(false,eval e X.env)::starEach es X.env:=by rfl) (hpl:(backTo pos (starEach es X.env)).any (·.1)=false:=by rfl):PE X (.Call (.Name x p) (e::es) [] pos) (tCB r t):=by
 intro pins s σ H Q I h
 refine wpAny_Call_Name_kw (mX I hg hm hv ?_ hn hdb)
 refine PyProof.Rows.callWith_builtin1 (thn (ha pos pins s σ H _ I h) λus s1 zz=>?_) he hpl
 obtain ⟨vs,H1,I1,r1,q1⟩:=zz
 exact hc pins s1 σ H1 vs us Q I1 r1 q1
theorem bV (hc:ft X (.type T) r) (hg:Gl X x) (hm:X.mg x=none) (hv:bootBuiltins x=some (.type T)) (ha:PA X (e::es) t) (hn:x≠"__name__":=by decide) (hdb:(x == ("__debug__":Str))=false:=by decide)
  (he:starEach (e::es) X.env=(false,eval e X.env)::starEach es X.env:=by rfl) (hpl:(backTo pos (starEach es X.env)).any (·.1)=false:=by rfl):PE X (.Call (.Name x p) (e::es) [] pos) (tCB r t):=by
 intro pins s σ H Q I h
 refine wpAny_Call_Name_kw (mX I hg hm hv ?_ hn hdb)
 refine PyProof.Rows.callWith_type1 (thn (ha pos pins s σ H _ I h) λus s1 zz=>?_) he hpl
 obtain ⟨vs,H1,I1,r1,q1⟩:=zz
 exact hc pins s1 σ H1 vs us Q I1 r1 q1
end
end L2
namespace HT
open PySem PyProof.Rows
section
open PySem.SeqAt
open PySem.AutoSeq1 (wpAny_loadPart')
open PySem.MeetsSeq PySem.MeetsSeq2 PySem.MeetsSeq3
end
section
variable {prog:Program} {w:World} {A:Around} {E:Value->Shared->Prop} {s:Shared}
theorem cat_tup {t b:Addr} {vs ws:List Value} {Q:Value->Shared->Prop} (ht:IsTup s.heap t vs.toArray) (hb:IsTup s.heap b ws.toArray) (hv:vs≠[])
  (h1:ws=[]->Q (.ref t) s) (h2:ws≠[]->Q (.ref s.heap.objs.size) {s with heap:=s.heap.push {cls:=.type "tuple",data:=.seq (vs++ws).toArray} })
  (hsz:vs.length+ws.length<=sizeLine):wpAny (model prog w) A (binaryOp .Add (.ref t) (.ref b)) Q E s:=by
 obtain ⟨⟨cls,dd,data,sl⟩,ho,hc,n,hd⟩:=id ht
 obtain ⟨⟨cls2,dd2,data2,sl2⟩,ho2,hc2,n2,hd2⟩:=id hb
 simp only at hc hd hc2 hd2
 subst hc hd hc2 hd2
 have e:vs.toArray++ws.toArray=(vs++ws).toArray:=by simp
 by_cases hw:ws=[]
 ·exact concat_meets ⟨_,ho,rfl⟩ ⟨_,ho2,rfl⟩ noFill_tuple_add seq_tuple_add PySem.F.slot_tuple_add PySem.F.entry_tuple_add (PySem.F.args_tuple_add_2 _ _)
   (tuple_addW1 t b vs.toArray ws.toArray n n2 dd dd2 sl sl2 (by simpa using hv) (by simp [hw])) ⟨ho,ho2,h1 hw⟩
 ·refine concat_meets ⟨_,ho,rfl⟩ ⟨_,ho2,rfl⟩ noFill_tuple_add seq_tuple_add PySem.F.slot_tuple_add PySem.F.entry_tuple_add (PySem.F.args_tuple_add_2 _ _)
   (tuple_addW2 t b vs.toArray ws.toArray n n2 dd dd2 sl sl2 (by simpa using hv) (by simpa using hw) (by rw [List.size_toArray,List.size_toArray];exact hsz)) ⟨ho,ho2,?_⟩
  rw [e]
  exact h2 hw
noncomputable def sIx (n d:Nat):Option Int->Nat
 | none=>d
 | some v=>if v < 0 then (v+(n:Int)).toNat else min v.toNat n
theorem CH (n d:Nat):sIx n d none=d:=rfl
theorem sM (n d k:Nat):sIx n d (some (k:Int))=min k n:=by
 show (if (k:Int) < 0 then ((k:Int)+(n:Int)).toNat else min (k:Int).toNat n)=min k n
 rw [if_neg (by omega),Int.toNat_natCast]
theorem sIx_le (n d:Nat) (hd:d<=n) (o:Option Int):sIx n d o<=n:=by
 cases o with
 | none=>exact hd
 | some v =>
  show (if v < 0 then (v+(n:Int)).toNat else min v.toNat n)<=n
  by_cases hv:v < 0
  ·rw [if_pos hv];omega
  ·rw [if_neg hv];exact Nat.min_le_right _ _
theorem zS (v:Int) (n d:Nat):(if v < 0 then max (v+(n:Int)) 0 else min v (n:Int))=((sIx n d (some v):Nat):Int):=by
 show (if v < 0 then max (v+(n:Int)) 0 else min v (n:Int))=(((if v < 0 then (v+(n:Int)).toNat else min v.toNat n):Nat):Int)
 by_cases hv:v < 0
 ·simp only [if_pos hv];omega
 ·simp only [if_neg hv];omega
theorem ye (lo hi:Option Int) (n:Nat):Builtin.Slice.sliceAdjust lo hi 1 (n:Int)=(((sIx n 0 lo:Nat):Int),((sIx n n hi:Nat):Int)):=by
 have h1:¬ ((1:Int) < 0):=by omega
 unfold Builtin.Slice.sliceAdjust
 simp only [h1,if_false]
 refine Prod.ext ?_ ?_
 ·cases lo with
  | none=>rfl
  | some v=>exact zS v n 0
 ·cases hi with
  | none=>rfl
  | some v=>exact zS v n n
theorem xr (i j:Nat):Builtin.Slice.slicePlaces (i:Int) (j:Int) 1=j - i:=by
 unfold Builtin.Slice.slicePlaces
 have h1:(1:Int) > 0:=by omega
 simp only [h1,if_true,Int.ediv_one]
 split <;> omega
theorem oT {v:Value} {o:Option Int} {Q:Option Int->Shared->Prop} (p:IsPart v o) (h:Q o s):wpAny (model prog w) A (Builtin.Slice.slicePartIndex v) Q E s:=by
 cases p with
 | none=>exact slicePart_none h
 | int i t=>exact slicePart_int h
theorem iH {sl:Addr} {vl vu:Value} {lo hi:Option Int} {n:Nat} {Q:Int×Int×Nat->Shared->Prop} (hs:s.heap.IsSliceOf sl vl vu .none) (pl:IsPart vl lo) (pu:IsPart vu hi)
  (h:Q (((sIx n 0 lo:Nat):Int),1,sIx n n hi - sIx n 0 lo) s):wpAny (model prog w) A (Builtin.Slice.sliceApplied (.ref sl) (pure (n:Int))) Q E s:=by
 obtain ⟨os,hos,hcs,hds⟩:=id hs
 unfold Builtin.Slice.sliceApplied Builtin.Slice.sliceFields
 refine wpAny_bind (wpAny_bind (wpAny_field hos hds (x:=vl) rfl (wpAny_bind (wpAny_field hos hds (x:=vu) rfl (wpAny_bind (wpAny_field hos hds (x:=.none) rfl (wpAny_pure ?_)))))))
 refine wpAny_bind (slicePart_none ?_)
 show wpAny _ _ (if ((1:Int) == 0)=true then _ else _) _ _ s
 rw [if_neg (by decide)]
 refine wpAny_bind (oT pl (wpAny_bind (oT pu (wpAny_bind (wpAny_pure ?_)))))
 show wpAny _ _ (match Builtin.Slice.sliceAdjust lo hi 1 (n:Int) with | (lo,hi)=>pure (lo,(1:Int),Builtin.Slice.slicePlaces lo hi 1)) _ _ s
 rw [ye lo hi n]
 show wpAny _ _ (pure (((sIx n 0 lo:Nat):Int),(1:Int),Builtin.Slice.slicePlaces ((sIx n 0 lo:Nat):Int) ((sIx n n hi:Nat):Int) 1)) _ _ s
 rw [xr]
 exact wpAny_pure h
theorem Dr (xs:Array Value) (i k:Nat):((List.range k).filterMap λ(m:Nat)=>xs[((i:Int)+(m:Int)*1).toNat]?).toArray=((xs.toList.drop i).take k).toArray:=by
 have e:(λ(m:Nat)=>xs[((i:Int)+(m:Int)*1).toNat]?)=λm=>xs[i+m]?:=by
  funext m
  have:((i:Int)+(m:Int)*1).toNat=i+m:=by omega
  rw [this]
 rw [e]
 have:=pick_run xs i k
 rw [List.filterMap_map] at this
 have e2:((λx=>xs[x]?) ∘ λx=>i+x)=λm=>xs[i+m]?:=rfl
 rw [e2] at this
 rw [this]
theorem lW {t sl:Addr} {items:Array Value} {vl vu:Value} {lo hi:Option Int} {Q:Value->Shared->Prop} (ht:IsTup s.heap t items) (hs:s.heap.IsSliceOf sl vl vu .none) (pl:IsPart vl lo) (pu:IsPart vu hi)
  (hw:¬ (sIx items.size 0 lo=0/\sIx items.size items.size hi=items.size))
  (h:Q (.ref s.heap.objs.size) {s with heap:=s.heap.push {cls:=.type "tuple",data:=.seq ((items.toList.drop (sIx items.size 0 lo)).take (sIx items.size items.size hi - sIx items.size 0 lo)).toArray} })
  (hsz:items.size<=sizeLine):wpAny (model prog w) A (getItem (.ref t) (.ref sl)) Q E s:=by
 have htake:sizeOk (.seq ((items.toList.drop (sIx items.size 0 lo)).take (sIx items.size items.size hi - sIx items.size 0 lo)).toArray):=by
  show ((items.toList.drop (sIx items.size 0 lo)).take (sIx items.size items.size hi - sIx items.size 0 lo)).toArray.size<=sizeLine
  rw [List.size_toArray,List.length_take,List.length_drop,Array.length_toList]
  omega
 have hj:sIx items.size items.size hi<=items.size:=sIx_le _ _ (Nat.le_refl _) hi
 obtain ⟨os,hos,hcs,hds⟩:=id hs
 have hTs:s.TypeIs (.ref sl) "slice":=⟨os,hos,hcs⟩
 unfold getItem
 try with_reducible refine wpAny_holding ?_
 first | refine wpAny_bind (wpAny_pure ?_) | skip
 refine wpAny_bind (wpAny_sequenceKey ht.typeIs (by decide) ?_)
 refine wpAny_bind (wpAny_callSpecial?_slot (name:=Str.ofString "__getitem__") ht.typeIs PyProof.Rows.slot_tuple_getitem
  (wpAny_call_entry PyProof.Rows.slot_tuple_getitem ht.typeIs entry_tuple_getitem ?_ (args_tuple_getitem _ _)))
 show wpAny _ _ (Builtin.Tuple.tupleItemsOf (.ref t) >>= _) _ _ s
 refine wpAny_bind (tupleItemsOf_ ht ?_)
 refine wpAny_bind (wpAny_typeOf hTs ?_)
 rw [if_pos (by decide)]
 refine wpAny_bind (iH hs pl pu ?_)
 have hno:¬ ((((sIx items.size 0 lo:Nat):Int) == 0 && (1:Int) == 1 && (sIx items.size items.size hi - sIx items.size 0 lo) == items.size)=true):=by
  intro q
  rw [Bool.and_eq_true,Bool.and_eq_true] at q
  have q1:((sIx items.size 0 lo:Nat):Int)=0:=eq_of_beq q.1.1
  have q2:sIx items.size items.size hi - sIx items.size 0 lo=items.size:=eq_of_beq q.2
  exact hw ⟨by omega,by omega⟩
 show wpAny _ _ (if (((sIx items.size 0 lo:Nat):Int) == 0 && (1:Int) == 1 && (sIx items.size items.size hi - sIx items.size 0 lo) == items.size)=true then _ else _) _ _ s
 rw [if_neg hno,Dr]
 first
  | exact wpAny_bind (m:=Builtin.Tuple.tupleExact _) (wpAny_newObj_type (wpAny_pure ⟨_,rfl,wpAny_pure h⟩) htake)
  | exact wpAny_bind (m:=Builtin.Tuple.tupleExact _) (wpAny_newObj_type (wpAny_bind (wpAny_pure (wpAny_pure ⟨_,rfl,wpAny_pure h⟩))) htake)
  | exact wpAny_bind (wpAny_bind (m:=Builtin.Tuple.tupleExact _) (wpAny_newObj_type (wpAny_pure (wpAny_pure ⟨_,rfl,wpAny_pure h⟩)) htake))
  | exact wpAny_bind (wpAny_bind (m:=Builtin.Tuple.tupleExact _) (wpAny_newObj_type (wpAny_pure ⟨_,rfl,wpAny_pure h⟩) htake))
end
end HT
namespace L2
open PySem PySem.Spec PyProof.Rows
noncomputable abbrev TO:=St->Hp->(Option Int->Hp->Prop)->Prop
noncomputable def PO (X:Cx) (e:Option Expr) (t:TO):Prop :=
 ∀(
  pins:List (Addr×Obj)) (s:Shared) (σ:St) (H:Hp) (Q:Option Int->Hp->Prop),Inv X pins σ H s->t σ H Q->
  wpAny (model X.prog X.w) X.A (evalPart e X.env) (λu s'=>∃ o H',Inv X pins σ H' s'/\IsPart u o/\Q o H') X.xe s
noncomputable def lj:TO:=λ_ H Q=>Q none H
noncomputable def tPart (t:TE):TO:=fun σ H Q=>t σ H λx H1=>∃ i,x=.int i/\Q (some i) H1
theorem intsAre_of {ns:List Int}:∀{us:List Value},Vals (ns.map V.int) us->IntsAre us ns:=by
 induction ns with
 | nil=>intro us r;rw [List.map_nil] at r;cases r;exact .nil
 | cons n ns ih =>
  intro us r
  rw [List.map_cons] at r
  cases r with
  | cons r1 r2 =>
   obtain ⟨t,e⟩:=r1
   subst e
   exact .cons n t (ih r2)
section
variable {X:Cx} {e:Expr} {te:TE} {lo hi:Option Expr} {tl th:TO} {pos p2:Pos}
theorem lO:PO X none lj:=by
 intro pins s σ H Q I h
 rw [evalPart_none]
 exact wpAny_pure ⟨none,H,I,.none,h⟩
theorem lN (h:PE X e te):PO X (some e) (tPart te):=by
 intro pins s σ H Q I hw
 rw [evalPart_some]
 refine thn (h pins s σ H _ I hw) λu s1 zz=>?_
 obtain ⟨x,H1,I1,r1,q1⟩:=zz
 obtain ⟨i,rfl,q⟩:=q1
 obtain ⟨t,rfl⟩:=r1
 exact ⟨some i,H1,I1,.int i t,q⟩
noncomputable def SlR (X:Cx) (r:V->Option Int->Option Int->Hp->VK->Prop):Prop :=
 ∀(
  pins:List (Addr×Obj)) (s:Shared) (σ:St) (H:Hp) (x:V) (v vl vu:Value) (lo hi:Option Int) (sl:Addr) (Q:VK),Inv X pins σ H s->RelV x v->s.heap.IsSliceOf sl vl vu .none->IsPart vl lo->IsPart vu hi->r x lo hi H Q->
  ∃ T id,typeLookup (.type T) "__getitem__"=pure (some (.builtin id))/\s.TypeIs v T/\wpAny (model X.prog X.w) X.A (getItem v (.ref sl)) (EP X pins σ Q) X.xe s
noncomputable def tSl (r:V->Option Int->Option Int->Hp->VK->Prop) (te:TE) (tl th:TO):TE:=fun σ H Q=>te σ H λx H1=>tl σ H1 λl H2=>th σ H2 λu H3=>r x l u H3 Q
theorem jC {r:V->Option Int->Option Int->Hp->VK->Prop} (hr:SlR X r) (he:PE X e te) (hl:PO X lo tl) (hu:PO X hi th):PE X (.Subscript e (.Slice lo hi none p2) pos) (tSl r te tl th):=by
 intro pins s σ H Q I h
 refine Subscript_ (thn (he pins s σ H _ I h) λv s1 zz=>?_)
 obtain ⟨x,H1,I1,r1,q1⟩:=zz
 refine wpAny_Slice (thn (hl pins s1 σ H1 _ I1 q1) λvl s2 zz=>?_)
 obtain ⟨l,H2,I2,pl,q2⟩:=zz
 refine thn (hu pins s2 σ H2 _ I2 q2) λvu s3 zz=>?_
 obtain ⟨u,H3,I3,pu,q3⟩:=zz
 rw [evalPart_none]
 refine wpAny_pure ?_
 have I4:Inv X pins σ H3 {s3 with heap:=s3.heap.push {cls:=.type "slice",data:=.fields #[vl,vu,.none] } }:=I3.kept (t':=s3.toks) λb ob q=>Heap.get?_push_of_some _ q
 obtain ⟨T,id,hT,ht,hg⟩:=hr pins {s3 with heap:=s3.heap.push {cls:=.type "slice",data:=.fields #[vl,vu,.none] } } σ H3 x v vl vu l u s3.heap.objs.size Q I4 r1 (Heap.IsSliceOf.new ..) pl pu q3
 show wpAny (model X.prog X.w) X.A (subscriptTail e (.Slice lo hi none p2) v (.ref s3.heap.objs.size)) (EP X pins σ Q) X.xe {s3 with heap:=s3.heap.push {cls:=.type "slice",data:=.fields #[vl,vu,.none] } }
 exact tail_any (ops:=[.ref s3.heap.objs.size,v]) ht hT hg (by with_unfolding_all rfl)
noncomputable def qm (xs:List V) (lo hi:Option Int):List V:=(xs.drop (HT.sIx xs.length 0 lo)).take (HT.sIx xs.length xs.length hi - HT.sIx xs.length 0 lo)
theorem nL (xs:List V) (lo hi:Option Int):(qm xs lo hi).length<=xs.length:=by
 unfold qm
 rw [List.length_take,List.length_drop]
 omega
noncomputable def rSlT (K:PySem.W.Frag):V->Option Int->Option Int->Hp->VK->Prop:=λx lo hi H Q=>∃ a xs,x=.ref a/\SqT K H a xs/\
 ¬ (HT.sIx xs.length 0 lo=0/\HT.sIx xs.length xs.length hi=xs.length)/\∀ p,H p=none->Q (.ref p) (upd H p (.tup (qm xs lo hi)))
theorem sl_tup:SlR X (rSlT X.K):=by
 intro pins s σ H x v vl vu lo hi sl Q I rx hs pl pu h
 obtain ⟨a,xs,rfl,hx,hw,q⟩:=h
 cases rx
 obtain ⟨its,r,ht,hz⟩:=I.tuple hx
 have hlen:its.toArray.size=xs.length:=by rw [List.size_toArray];exact r.length.symm
 refine ⟨"tuple",_,PyProof.Rows.slot_tuple_getitem.lookup,ht.typeIs,?_⟩
 refine HT.lW ht hs pl pu (by rw [hlen];exact hw) ?_ (by rw [hlen];exact hz)
 rw [hlen]
 refine ⟨.ref s.heap.objs.size,_,I.laid (t':=s.toks) (o:=.tup (qm xs lo hi)) (λb ob q=>Heap.get?_push_of_some _ q) (Nat.le_refl _) ?_,rfl,q _ (I.hok.fresh (Nat.le_refl _))⟩
 exact ⟨Nat.le_trans (nL xs lo hi) hz,_,(r.drop (HT.sIx xs.length 0 lo)).take (HT.sIx xs.length xs.length hi - HT.sIx xs.length 0 lo),IsTup.new _ _⟩
noncomputable def rCatT (K:PySem.W.Frag):R2:=λx y H Q=>∃ a b xs ys,x=.ref a/\y=.ref b/\SqT K H a xs/\SqT K H b ys/\xs≠[]/\xs.length+ys.length<=sizeLine/\
 (ys=[]->Q (.ref a) H)/\(ys≠[]->∀ p,H p=none->Q (.ref p) (upd H p (.tup (xs++ys))))
theorem Vals.nil_iff {xs:List V} {us:List Value} (r:Vals xs us):us=[]↔xs=[]:=by
 cases r with
 | nil=>simp
 | cons _ _=>simp
theorem zk:OpR X (binaryOp .Add) (rCatT X.K):=by
 intro pins s σ H x y v u Q I rx ry h
 obtain ⟨a,b,xs,ys,rfl,rfl,ha,hb,hx,hz,q1,q2⟩:=h
 cases rx
 cases ry
 obtain ⟨its,r1,p1,_⟩:=I.tuple ha
 obtain ⟨its2,r2,p2,_⟩:=I.tuple hb
 refine HT.cat_tup p1 p2 (λz=>hx (r1.nil_iff.mp z)) (λz=>⟨.ref a,H,I,rfl,q1 (r2.nil_iff.mp z)⟩) (λz=>?_) (by rw [<- r1.length,<- r2.length];exact hz)
 refine ⟨.ref s.heap.objs.size,_,I.laid (t':=s.toks) (o:=.tup (xs++ys)) (λb ob q=>Heap.get?_push_of_some _ q) (Nat.le_refl _) ?_,rfl,q2 (λw=>z (r2.nil_iff.mpr w)) _ (I.hok.fresh (Nat.le_refl _))⟩
 exact ⟨by rw [List.length_append];exact hz,_,r1.append r2,IsTup.new _ _⟩
end
noncomputable def ixN (n:Nat) (i:Int):Option Nat:=if 0<=i then (if i < n then some i.toNat else none) else if -(n:Int)<=i then some (i+n).toNat else none
noncomputable def atI {α:Type} (xs:List α) (i:Int):Option α:=(ixN xs.length i).bind λj=>xs[j]?
theorem ixN_seq {n:Nat} {i:Int} {j:Nat} (h:ixN n i=some j):seqIndex? i n=some j/\j < n/\-(n:Int)<=i/\i < n:=by
 unfold ixN at h
 by_cases h0:0<=i
 ·rw [if_pos h0] at h
  by_cases h1:i < n
  ·rw [if_pos h1] at h
   have e:i.toNat=j:=Option.some.inj h
   exact ⟨by rw [seqIndex_of h0 h1,e],by omega,by omega,h1⟩
  ·rw [if_neg h1] at h;cases h
 ·rw [if_neg h0] at h
  by_cases h1:-(n:Int)<=i
  ·rw [if_pos h1] at h
   have e:(i+n).toNat=j:=Option.some.inj h
   exact ⟨by rw [seqIndex_neg (by omega) h1,e],by omega,h1,by omega⟩
  ·rw [if_neg h1] at h;cases h
theorem zU {α:Type} {xs:List α} {i:Int} {v:α} (h:atI xs i=some v):∃ j,seqIndex? i xs.length=some j/\xs[j]?=some v/\j < xs.length/\-(xs.length:Int)<=i/\i < xs.length:=by
 unfold atI at h
 cases e:ixN xs.length i with
 | none=>rw [e] at h;cases h
 | some j =>
  rw [e] at h
  obtain ⟨h1,h2,h3,h4⟩:=ixN_seq e
  exact ⟨j,h1,h,h2,h3,h4⟩
theorem dD {α:Type} {xs:List α} {j:Nat} {v:α} (h:xs[j]?=some v):atI xs (j:Int)=some v:=by
 have hj:j < xs.length:=(List.getElem?_eq_some_iff.mp h).1
 have e:ixN xs.length (j:Int)=some j:=by
  unfold ixN
  rw [if_pos (by omega),if_pos (by omega)];simp
 unfold atI;rw [e];exact h
noncomputable def zW (b:Expr):Prop:=∀ o i,subscripted b false o i=operate [o,i] (getItem o i)
noncomputable def IxR (X:Cx) (r:R2):Prop :=
 ∀(
  value slice:Expr) (pins:List (Addr×Obj)) (s:Shared) (σ:St) (H:Hp) (x y:V) (v u:Value) (Q:VK),Inv X pins σ H s->RelV x v->RelV y u->r x y H Q->
  subscripted slice false v u=operate [v,u] (getItem v u)->wpAny (model X.prog X.w) X.A (subscriptTail value slice v u) (EP X pins σ Q) X.xe s
noncomputable def MtR (X:Cx) (id:String) (r:V->List V->Hp->VK->Prop):Prop :=
 ∀(
  pins:List (Addr×Obj)) (s:Shared) (σ:St) (H:Hp) (x:V) (xs:List V) (v:Value) (us:List Value) (Q:VK),Inv X pins σ H s->RelV x v->Vals xs us->r x xs H Q->
  wpAny (model X.prog X.w) X.A (call (.builtin id) (v::us)) (EP X pins σ Q) X.xe s
section
variable {X:Cx} {a b:Expr} {ta tb:TE} {pos:Pos}
theorem aE {r:R2} (hr:IxR X r) (ha:PE X a ta) (hb:PE X b tb) (hs:zW b):PE X (.Subscript a b pos) (tOp r ta tb):=by
 intro pins s σ H Q I h
 exact Subscript_ (binT ha hb I h λv u s2 x y H2 I2 rx ry q=>hr a b pins s2 σ H2 x y v u Q I2 rx ry q (hs _ _))
inductive XrIxL (K:PySem.W.Frag) (x:V) (y:V) (H:Hp) (Q:VK):Prop where
 | mk (p:Addr) (xs:List V) (i:Int) (v:V) (z_0:x=.ref p) (z_1:y=.int i) (z_2:SqL K H p xs) (z_3:atI xs i=some v) (z_4:Q v H):XrIxL K x y H Q
noncomputable def rIxL (K:PySem.W.Frag):R2:=λx y H Q=>XrIxL K x y H Q
inductive XrIxT (K:PySem.W.Frag) (x:V) (y:V) (H:Hp) (Q:VK):Prop where
 | mk (p:Addr) (xs:List V) (i:Int) (v:V) (z_0:x=.ref p) (z_1:y=.int i) (z_2:SqT K H p xs) (z_3:atI xs i=some v) (z_4:Q v H):XrIxT K x y H Q
noncomputable def rIxT (K:PySem.W.Frag):R2:=λx y H Q=>XrIxT K x y H Q
theorem bL:IxR X (rIxL X.K):=by
 intro value slice pins s σ H x y v u Q I rx ry h hs
 obtain ⟨p,xs,i,z,rfl,rfl,hq,he,q⟩:=h
 cases rx
 obtain ⟨t,rfl⟩:=ry
 obtain ⟨its,r,pl,hz⟩:=I.list hq
 obtain ⟨j,h1,h2,h3,h4,h5⟩:=zU he
 obtain ⟨w,ew,rw'⟩:=r.get h2
 have hl:=r.length
 have hn:=tQ
 have fin:EP X pins σ Q w s:=⟨z,H,I,rw',q⟩
 by_cases h0:0<=i
 ·have hj:i.toNat=j:=by
   rw [seqIndex_of h0 h5] at h1
   exact Option.some.inj h1
  exact item_listR pl.isList h0 (by omega) (by rw [hj];simpa using ew) fin hs
 ·have hj:(i+(its.toArray.size:Int)).toNat=j:=by
   rw [seqIndex_neg (by omega) h4] at h1
   rw [List.size_toArray,<- hl]
   exact Option.some.inj h1
  exact subscriptTail_builtinR (x:=w) pl.isList.typeIs slot_list_getitem.lookup
   (wpAny_getItem_list_neg (Q:=λr s'=>r=w/\EP X pins σ Q r s') pl.isList (by omega) (by rw [List.size_toArray] <;> omega) (by omega) (by rw [hj];simpa using ew) ⟨rfl,fin⟩) hs
theorem az:IxR X (rIxT X.K):=by
 intro value slice pins s σ H x y v u Q I rx ry h hs
 obtain ⟨p,xs,i,z,rfl,rfl,hq,he,q⟩:=h
 cases rx
 obtain ⟨t,rfl⟩:=ry
 obtain ⟨its,r,pl,hz⟩:=I.tuple hq
 obtain ⟨j,h1,h2,h3,h4,h5⟩:=zU he
 obtain ⟨w,ew,rw'⟩:=r.get h2
 have hl:=r.length
 have hn:=tQ
 have fin:EP X pins σ Q w s:=⟨z,H,I,rw',q⟩
 exact subscriptTail_builtinR (x:=w) pl.typeIs slot_tuple_getitem.lookup
  (getItem_tuple (j:=j) (Q:=λr s'=>r=w/\EP X pins σ Q r s') pl (by omega) (by omega) (by rw [List.size_toArray,<- hl];exact h1) (by simpa using ew) ⟨rfl,fin⟩) hs
theorem sH (lo hi:Option Int) (n:Nat):(sliceBounds lo hi none n).1=((HT.sIx n 0 lo:Nat):Int)/\(sliceBounds lo hi none n).2.1=((HT.sIx n n hi:Nat):Int)/\(sliceBounds lo hi none n).2.2=1:=by
 refine ⟨?_,?_,rfl⟩
 ·cases lo with
  | none=>simp [sliceBounds,HT.sIx]
  | some i =>
   simp only [sliceBounds,HT.sIx,Option.getD_none,show (1:Int) > 0 by decide,if_true]
   by_cases h:i < 0
   ·simp only [h,if_true] <;> omega
   ·simp only [h,if_false] <;> omega
 ·cases hi with
  | none=>simp [sliceBounds,HT.sIx]
  | some i =>
   simp only [sliceBounds,HT.sIx,Option.getD_none,show (1:Int) > 0 by decide,if_true]
   by_cases h:i < 0
   ·simp only [h,if_true] <;> omega
   ·simp only [h,if_false] <;> omega
theorem qC (its:List Value) (lo hi:Option Int):slicePick its.toArray lo hi none=((its.drop (HT.sIx its.length 0 lo)).take (HT.sIx its.length its.length hi - HT.sIx its.length 0 lo)).toArray:=by
 obtain ⟨h1,h2,h3⟩:=sH lo hi its.toArray.size
 unfold slicePick
 rw [h1,h2,h3]
 simp only [sliceRange_one,pick_run,List.size_toArray] <;> rfl
noncomputable def rSlL (K:PySem.W.Frag):V->Option Int->Option Int->Hp->VK->Prop:=λx lo hi H Q=>∃ a xs,x=.ref a/\SqL K H a xs/\∀ p,H p=none->Q (.ref p) (upd H p (.lst (qm xs lo hi)))
theorem sl_list:SlR X (rSlL X.K):=by
 intro pins s σ H x v vl vu lo hi sl Q I rx hs pl pu h
 obtain ⟨a,xs,rfl,hx,q⟩:=h
 cases rx
 obtain ⟨its,r,ht,hz⟩:=I.list hx
 have hlen:=r.length
 refine ⟨"list",_,slot_list_getitem.lookup,ht.isList.typeIs,?_⟩
 refine wpAny_getItem_list_slice ht.isList hs pl pu .none (by simp) ?_ (by rw [List.size_toArray] <;> omega)
 rw [qC,<- hlen]
 refine ⟨.ref s.heap.objs.size,_,I.laid (t':=s.toks) (o:=.lst (qm xs lo hi)) (λb ob q=>Heap.get?_push_of_some _ q) (Nat.le_refl _) ?_,rfl,q _ (I.hok.fresh (Nat.le_refl _))⟩
 exact ⟨Nat.le_trans (nL xs lo hi) hz,_,0,(r.drop (HT.sIx xs.length 0 lo)).take (HT.sIx xs.length xs.length hi - HT.sIx xs.length 0 lo),Heap.get?_push_size _ rfl⟩
noncomputable def nK:V->Bool
 | .non=>true
 | .bl _=>true
 | .int _=>true
 | .str _=>true
 | _=>false
noncomputable def eqV:V->V->Bool
 | .non,.non=>true
 | .bl a,.bl b=>a == b
 | .bl a,.int b=>(if a then 1 else 0) == b
 | .int a,.bl b=>a == (if b then 1 else 0)
 | .int a,.int b=>a == b
 | .str a,.str b=>a == b
 | _,_=>false
theorem eqAt_V {A:Around} {s:Shared} {y x:V} {u v:Value} (ry:RelV y u) (rx:RelV x v) (fy:nK y=true) (fx:nK x=true):SeqAt.EqAt A s u v (eqV y x):=by
 cases y with
 | non =>
  cases ry
  cases x with
  | non=>cases rx;exact SeqAt.EqAt.same _
  | bl b=>cases rx;exact SeqAt.EqAt.none_bool b
  | int b=>obtain ⟨t,rfl⟩:=rx;exact SeqAt.EqAt.none_int b t
  | str b=>obtain ⟨t,rfl⟩:=rx;exact SeqAt.EqAt.none_str b t
  | _=>exact absurd (show false=true from fx) Bool.false_ne_true
 | bl a =>
  cases ry
  cases x with
  | non=>cases rx;exact SeqAt.EqAt.bool_none a
  | bl b=>cases rx;exact SeqAt.EqAt.bool_bool a b
  | int b=>obtain ⟨t,rfl⟩:=rx;exact SeqAt.EqAt.bool_int a b t
  | str b=>obtain ⟨t,rfl⟩:=rx;exact SeqAt.EqAt.bool_str a b t
  | _=>exact absurd (show false=true from fx) Bool.false_ne_true
 | int a =>
  obtain ⟨t',rfl⟩:=ry
  cases x with
  | non=>cases rx;exact SeqAt.EqAt.int_none a t'
  | bl b=>cases rx;exact SeqAt.EqAt.int_bool a t' b
  | int b=>obtain ⟨t,rfl⟩:=rx;exact SeqAt.EqAt.int_int a t' b t
  | str b=>obtain ⟨t,rfl⟩:=rx;exact SeqAt.EqAt.int_str a t' b t
  | _=>exact absurd (show false=true from fx) Bool.false_ne_true
 | str a =>
  obtain ⟨t',rfl⟩:=ry
  cases x with
  | non=>cases rx;exact SeqAt.EqAt.str_none a t'
  | bl b=>cases rx;exact SeqAt.EqAt.str_bool a t' b
  | int b=>obtain ⟨t,rfl⟩:=rx;exact SeqAt.EqAt.str_int a t' b t
  | str b=>obtain ⟨t,rfl⟩:=rx;exact SeqAt.EqAt.str_str a t' b t
  | _=>exact absurd (show false=true from fx) Bool.false_ne_true
 | _=>exact absurd (show false=true from fy) Bool.false_ne_true
noncomputable def eqU (x:V) (u:Value):Bool:=match u with
 | .none=>eqV .non x
 | .bool b=>eqV (.bl b) x
 | .int i _=>eqV (.int i) x
 | .str z _=>eqV (.str z) x
 | _=>false
theorem Ew {x y:V} {u:Value} (r:RelV y u) (f:nK y=true):eqU x u=eqV y x:=by
 cases y with
 | non=>cases r;rfl
 | bl b=>cases r;rfl
 | int i=>obtain ⟨t,rfl⟩:=r;rfl
 | str z=>obtain ⟨t,rfl⟩:=r;rfl
 | _=>exact absurd (show false=true from f) Bool.false_ne_true
theorem ud {x:V}:∀{xs:List V} {us:List Value},Vals xs us->xs.all nK=true->us.any (eqU x)=xs.any λy=>eqV y x
 | _,_,.nil,_=>rfl
 | y::xs,u::us,.cons r t,f=>by
  rw [List.all_cons,Bool.and_eq_true] at f
  rw [List.any_cons,List.any_cons,Ew r f.1,ud t f.2]
theorem pV {A:Around} {s:Shared} {x:V} {v:Value} (rx:RelV x v) (fx:nK x=true):∀{xs:List V} {us:List Value},Vals xs us->xs.all nK=true->∀ u∈us,SeqAt.EqAt A s u v (eqU x u)
 | _,_,.nil,_=>λu hu=>by cases hu
 | y::xs,u::us,.cons r t,f=>λu' hu=>by
  rw [List.all_cons,Bool.and_eq_true] at f
  rcases List.mem_cons.mp hu with rfl | hu
  ·rw [Ew r f.1];exact eqAt_V r rx f.1 fx
  ·exact pV rx fx t f.2 u' hu
noncomputable def inV (x:V) (xs:List V):Bool:=xs.any λy=>eqV y x
noncomputable def rIn (K:PySem.W.Frag) (neg:Bool):R2:=λx y H Q=>∃ p xs,y=.ref p/\(SqL K H p xs\/SqT K H p xs)/\nK x=true/\xs.all nK=true/\Q (.bl (if neg then !inV x xs else inV x xs)) H
theorem ka:OpR X (compareOp .In) (rIn X.K false):=by
 intro pins s σ H x y v u Q I rx ry h
 obtain ⟨p,xs,rfl,hq,fx,fs,q⟩:=h
 cases ry
 rcases hq with hq | hq
 ·obtain ⟨its,r,pl,hz⟩:=I.list hq
  refine SeqAt.in_listAt (eqU x) pl.isList (λw hw=>pV rx fx r fs w (by simpa using hw)) ⟨.bl _,H,I,rfl,?_⟩
  rw [show its.toArray.any (eqU x)=its.any (eqU x) by simp,ud r fs]
  exact q
 ·obtain ⟨its,r,pl,hz⟩:=I.tuple hq
  refine SeqAt.in_tupleAt (eqU x) pl (λw hw=>pV rx fx r fs w (by simpa using hw)) ⟨.bl _,H,I,rfl,?_⟩
  rw [show its.toArray.any (eqU x)=its.any (eqU x) by simp,ud r fs]
  exact q
theorem bS:ft X (.type "tuple") (λxs H Q=>∃ p ys,xs=[.ref p]/\((SqL X.K H p ys/\∀ l,H l=none->Q (.ref l) (upd H l (.tup ys)))\/(SqT X.K H p ys/\Q (.ref p) H))):=by
 intro pins s σ H xs us Q I r h
 obtain ⟨p,ys,rfl,h⟩:=h
 obtain ⟨u,rfl,rx⟩:=vals1 r
 cases rx
 rcases h with ⟨hq,q⟩ | ⟨hq,q⟩
 ·obtain ⟨its,r',pl,hz⟩:=I.list hq
  have hlen:=r'.length
  refine call_tuple_list pl.isList (λh' kp=>?_) (by simp only [List.size_toArray] <;> omega)
  have I1:Inv X pins σ H {s with heap:=h' }:=I.kept (t':=s.toks) kp
  have I2:Inv X pins σ (upd H h'.objs.size (.tup ys)) {s with heap:=h'.push {cls:=.type "tuple",data:=.seq its.toArray} } :=
   I1.laid (t':=s.toks) (λb o e=>Heap.get?_push_of_some _ e) (Nat.le_refl _) (show cf X.prog X.w _ _ _ (.tup ys) from ⟨hz,its,r',IsTup.new _ _⟩)
  exact ⟨.ref h'.objs.size,_,I2,rfl,q _ (I1.hok.fresh (Nat.le_refl _))⟩
 ·obtain ⟨its,r',pl,hz⟩:=I.tuple hq
  exact call_tuple_same pl ⟨.ref p,H,I,rfl,q⟩
noncomputable def tyV (K:PySem.W.Frag) (T:String) (x:V) (H:Hp):Prop:=match x with
 | .str _=>T="str"
 | .int _=>T="int"
 | .ref p=>(T="list"/\∃ xs,SqL K H p xs)\/(T="tuple"/\∃ o,K.lookup p=some o/\o.cls=.type "tuple"/\o.dict=none)\/
   (T="dict"/\((∃ kvs,H p=some (.dK kvs))\/∃ kvs,H p=some (.dT kvs)))\/(T="set"/\∃ S n,H p=some (.set S n))
 | _=>False
theorem BR {pins:List (Addr×Obj)} {σ:St} {H:Hp} {s:Shared} {T:String} {x:V} {v:Value} (I:Inv X pins σ H s) (r:RelV x v) (ty:tyV X.K T x H) :
  s.TypeIs v T/\∀ a,v=.ref a->∃ ob,s.heap.get? a=some ob/\ob.dict=none:=by
 cases x with
 | str z =>
  obtain ⟨t,rfl⟩:=r
  cases (show T="str" from ty)
  exact ⟨typeIs_str s z t,λ_ e=>nomatch e⟩
 | int i =>
  obtain ⟨t,rfl⟩:=r
  cases (show T="int" from ty)
  exact ⟨typeIs_int s i t,λ_ e=>nomatch e⟩
 | ref p =>
  cases r
  rcases ty with ⟨rfl,xs,hq⟩ | ⟨rfl,o,hk,hc,hd⟩ | ⟨rfl,hk⟩ | ⟨rfl,S,n,hk⟩
  ·obtain ⟨its,_,pl,_⟩:=I.list hq
   refine ⟨pl.isList.typeIs,λa e=>?_⟩
   cases e
   obtain ⟨o,n,e,c,hd,_⟩:=pl
   exact ⟨o,e,hd⟩
  ·refine ⟨⟨o,I.kIn p o hk,hc⟩,λa e=>?_⟩
   cases e
   exact ⟨o,I.kIn _ o hk,hd⟩
  ·have z:∃ o,s.heap.get? p=some o/\o.ExactDict:=by
    rcases hk with ⟨kvs,hk⟩ | ⟨kvs,hk⟩
    ·obtain ⟨_,_,_,_,o,_,_,e,ex,_⟩:=I.hok p _ hk
     exact ⟨o,e,ex⟩
    ·obtain ⟨_,_,_,_,o,_,_,e,ex,_⟩:=I.hok p _ hk
     exact ⟨o,e,ex⟩
   obtain ⟨o,e,ex⟩:=z
   refine ⟨⟨o,e,ex.1⟩,λa e2=>?_⟩
   cases e2
   exact ⟨o,e,ex.2.1⟩
  ·obtain ⟨o,_,_,_,e,ex,_⟩:=I.hok p _ hk
   refine ⟨⟨o,e,ex.1⟩,λa e2=>?_⟩
   cases e2
   exact ⟨o,e,ex.2.1⟩
 | _=>exact False.elim ty
noncomputable def tBM0 (K:PySem.W.Frag) (T:String) (r:V->List V->Hp->VK->Prop) (to:TE):TE:=fun σ H Q=>to σ H λx H1=>tyV K T x H1/\r x [] H1 Q
noncomputable def tBM (K:PySem.W.Frag) (T:String) (r:V->List V->Hp->VK->Prop) (to:TE) (t:TA):TE:=fun σ H Q=>to σ H λx H1=>tyV K T x H1/\t σ H1 λxs H2=>r x xs H2 Q
variable {o e:Expr} {es:List Expr} {to:TE} {t:TA} {name:Str} {apos cpos:Pos} {T id:String} {r:V->List V->Hp->VK->Prop}
theorem ix (pa:PlainAttrs T) (slot:Slot T name id) (hty:typeOf (.builtin id)=pure (.type "method_descriptor")) (hm:MtR X id r) (ho:PE X o to)
  (hbase:attributeBase o name X.env (eval o X.env)=eval o X.env:=by rfl) (hline:(apos.endLine == cpos.line)=true:=by rfl):PE X (.Call (.Attribute o name apos) [] [] cpos) (tBM0 X.K T r to):=by
 intro pins s σ H Q I h
 refine wpAny_Call_method0_late hbase hline (thn (ho pins s σ H _ I h) λv s1 zz=>?_)
 obtain ⟨x,H1,I1,r1,ty,q1⟩:=zz
 obtain ⟨h1,h2⟩:=BR I1 r1 ty
 exact ⟨T,id,pa,slot,hty,h1,h2,Calls.callWith_builtin rfl (PySem.evalArgs_none (hm pins s1 σ H1 x [] v [] Q I1 r1 .nil q1))⟩
theorem cD (pa:PlainAttrs T) (slot:Slot T name id) (hty:typeOf (.builtin id)=pure (.type "method_descriptor")) (hm:MtR X id r) (ho:PE X o to) (ha:PA X (e::es) t)
  (hbase:attributeBase o name X.env (eval o X.env)=eval o X.env:=by rfl)
  (hfew:((backTo cpos (starEach (e::es) X.env)).all (λx=>!x.1) && (backToKw cpos (keywordEach [] X.env)).all (λx=>x.1.isSome)
   && decide ((e::es).length+([]:List Keyword).length+(if ([]:List Keyword).isEmpty then 0 else 1) < 30))=true:=by rfl)
  (hline:(apos.endLine == cpos.line)=true:=by rfl) (hs:starEach (e::es) X.env=(false,eval e X.env)::starEach es X.env:=by rfl) (hplain:(backTo cpos (starEach es X.env)).any (·.1)=false:=by rfl) :
  PE X (.Call (.Attribute o name apos) (e::es) [] cpos) (tBM X.K T r to t):=by
 intro pins s σ H Q I h
 refine wpAny_Call_method_late hbase hfew hline rfl (thn (ho pins s σ H _ I h) λv s1 zz=>?_)
 obtain ⟨x,H1,I1,r1,ty,q1⟩:=zz
 obtain ⟨h1,h2⟩:=BR I1 r1 ty
 refine ⟨T,id,pa,slot,hty,h1,h2,?_⟩
 have hA:=ha cpos pins s1 σ H1 _ I1 q1
 rw [hs] at hA ⊢
 refine Calls.callWith_builtin (by show (false || (backTo cpos (starEach es X.env)).any (·.1))=false;rw [hplain] <;> rfl) (Calls.evalArgs_plain ?_)
 refine thn hA λus s2 zz=>?_
 obtain ⟨vs,H2,I2,r2,q2⟩:=zz
 exact hm pins s2 σ H2 x vs v us Q I2 r1 r2 q2
end
noncomputable def MtM (X:Cx) (id:String) (r:V->List V->Hp->VK->Prop):Prop :=
 ∀(
  pins:List (Addr×Obj)) (s:Shared) (σ:St) (H:Hp) (x:V) (xs:List V) (v:Value) (us:List Value) (Q:VK),Inv X pins σ H s->RelV x v->Vals xs us->r x xs H Q->
  wpAny (model X.prog X.w) X.A (call (.builtin id) (v::us)) (EP X pins σ Q) X.xe s
theorem Vals.one:∀{x:V} {us:List Value},Vals [x] us->∃ u,us=[u]/\RelV x u
 | _,_,.cons r .nil=>⟨_,rfl,r⟩
theorem Vals.zero:∀{us:List Value},Vals [] us->us=[]
 | _,.nil=>rfl
theorem Vals.dropLast {xs:List V} {us:List Value} (h:Vals xs us):Vals xs.dropLast us.dropLast:=by
 induction h with
 | nil=>exact .nil
 | cons r t ih =>
  cases t with
  | nil=>exact .nil
  | cons q t'=>exact .cons r ih
theorem Vals.eraseIdx:∀{xs:List V} {us:List Value} (i:Nat),Vals xs us->Vals (xs.eraseIdx i) (us.eraseIdx i)
 | _,_,_,.nil=>.nil
 | _,_,0,.cons _ t=>t
 | _,_,i+1,.cons r t=>.cons r (Vals.eraseIdx i t)
theorem Vals.reverse {xs:List V} {us:List Value} (h:Vals xs us):Vals xs.reverse us.reverse:=by
 induction h with
 | nil=>exact .nil
 | cons r t ih=>rw [List.reverse_cons,List.reverse_cons];exact Vals.append ih (.cons r .nil)
theorem xX {α:Type} (l:List α):l.eraseIdx (l.length - 1)=l.dropLast:=by
 induction l with
 | nil=>rfl
 | cons a r ih =>
  cases r with
  | nil=>rfl
  | cons b r =>
   have e:(a::b::r).length - 1=((b::r).length - 1)+1:=by
    have h1:(a::b::r).length=r.length+2:=rfl
    have h2:(b::r).length=r.length+1:=rfl
    omega
   rw [e,List.eraseIdx_cons_succ,ih]
   all_goals rfl
theorem rG {α:Type}:∀(l:List α) (i:Nat),(l.eraseIdx i).length<=l.length
 | [],_=>Nat.le_refl _
 | _::_,0=>Nat.le_succ _
 | _::r,i+1=>Nat.succ_le_succ (rG r i)
section
variable {X:Cx} {pins:List (Addr×Obj)} {σ:St} {H:Hp} {s:Shared} {l b:Addr} {xs ys zs:List V}
theorem Inv.lset {its its':List Value} {n:Nat} {f:Array Value->Array Value} {t':Nat} (I:Inv X pins σ H s) (hH:H l=some (.lst xs))
  (e:s.heap.get? l=some {cls:=.type "list",data:=.seq its.toArray n}) (hf:f its.toArray=its'.toArray) (hv:Vals ys its') (hz:ys.length<=sizeLine) :
  Inv X pins σ (upd H l (.lst ys)) {s with heap:=s.heap.update l (Obj.mapSeq f),toks:=t' }:=by
 have q:=PySem.IsL.update e f
 rw [hf] at q
 refine I.write (x:=l) (e:=l) (by rw [hH];exact trivial) (.inl rfl) (λb' u hb hu=>(Heap.get?_update_other s.heap (Obj.mapSeq f) (Ne.symm hb)).trans hu) ⟨_,q⟩ ?_
 exact ⟨hz,its',_,hv,q⟩
theorem Inv.lnew {its:List Value} {t':Nat} (I:Inv X pins σ H s) (hv:Vals ys its) (hz:ys.length<=sizeLine) :
  Inv X pins σ (upd H s.heap.objs.size (.lst ys)) {s with heap:=s.heap.push {cls:=.type "list",data:=.seq its.toArray},toks:=t' } :=
 I.laid (λ_ _ q=>Heap.get?_push_of_some _ q) (Nat.le_refl _) ⟨hz,its,0,hv,Heap.get?_push_size _ rfl⟩
theorem Inv.fresh (I:Inv X pins σ H s):H s.heap.objs.size=none:=I.hok.fresh (Nat.le_refl _)
theorem Inv.lstM (I:Inv X pins σ H s) (hH:H l=some (.lst xs)):xs.length<=sizeLine/\∃(its:List Value) (n:Nat),Vals xs its/\xs.length=its.length/\s.heap.get? l=some {cls:=.type "list",data:=.seq its.toArray n}:=by
 obtain ⟨z,its,n,r,e⟩:=I.hok l _ hH
 exact ⟨z,its,n,r,r.length,e⟩
theorem DS {n:Nat} (h:n<=sizeLine):Builtin.List.listTooLong n=false:=by
 unfold Builtin.List.listTooLong
 exact decide_eq_false (by omega)
end
section
variable {X:Cx}
inductive wA (x:V) (vs:List V) (H:Hp) (Q:VK):Prop where
 | mk (l:Addr) (xs:List V) (y:V) (z_0:x=.ref l) (z_1:vs=[y]) (z_2:H l=some (.lst xs)) (z_3:xs.length < sizeLine) (z_4:Q .non (upd H l (.lst (xs++[y])))):wA  x vs H Q
noncomputable def rAppend:V->List V->Hp->VK->Prop:=λx vs H Q=>wA  x vs H Q
theorem aY:MtM X "list.append" rAppend:=by
 intro pins s σ H x vs v us Q I rx rv h
 obtain ⟨l,xs,y,rfl,rfl,hH,hz,q⟩:=h
 cases rx
 obtain ⟨u,rfl,ru⟩:=rv.one
 obtain ⟨z,its,n,r,hl,e⟩:=I.lstM hH
 refine call_meets F.slot_list_append ⟨_,e,rfl⟩ F.entry_list_append (F.args_list_append_2 _ _) (PySem.list_append l its.toArray n u (by rw [List.size_toArray];omega)) ⟨e,?_⟩
 refine ⟨.non,_,I.lset (its':=its++[u]) hH e (by simp) (r.append (.cons ru .nil)) ?_,rfl,q⟩
 rw [List.length_append,List.length_singleton]
 omega
noncomputable def rExtend:V->List V->Hp->VK->Prop:=λx vs H Q=>∃ l b xs zs,x=.ref l/\vs=[.ref b]/\H l=some (.lst xs)/\H b=some (.lst zs)/\xs.length+zs.length<=sizeLine/\Q .non (upd H l (.lst (xs++zs)))
theorem mW:MtM X "list.extend" rExtend:=by
 intro pins s σ H x vs v us Q I rx rv h
 obtain ⟨l,b,xs,zs,rfl,rfl,hH,hB,hz,q⟩:=h
 cases rx
 obtain ⟨u,rfl,ru⟩:=rv.one
 cases ru
 obtain ⟨z,its,n,r,hl,e⟩:=I.lstM hH
 obtain ⟨z2,its2,n2,r2,hl2,e2⟩:=I.lstM hB
 have hsz:its.toArray.size+its2.toArray.size<=sizeLine:=by rw [List.size_toArray,List.size_toArray];omega
 have hlong:¬ (!its.toArray.isEmpty && Builtin.List.listTooLong (its.toArray.size+its2.toArray.size))=true:=by
  rw [DS hsz,Bool.and_false]
  exact Bool.false_ne_true
 refine call_meets F.slot_list_extend ⟨_,e,rfl⟩ F.entry_list_extend (F.args_list_extend_2 _ _)
  (AutoSeq1.list_extend_list_list_0 l its.toArray n b its2.toArray n2 hlong (by rw [List.size_toArray];omega) (by omega)) ⟨e,e2,?_⟩
 refine ⟨.non,_,I.lset (its':=its++its2) hH e (by simp) (r.append r2) ?_,rfl,q⟩
 rw [List.length_append]
 omega
noncomputable def rPop:V->List V->Hp->VK->Prop:=λx vs H Q=>∃ l xs y,x=.ref l/\vs=[]/\H l=some (.lst xs)/\xs[xs.length - 1]?=some y/\Q y (upd H l (.lst xs.dropLast))
theorem jH:MtM X "list.pop" rPop:=by
 intro pins s σ H x vs v us Q I rx rv h
 obtain ⟨l,xs,y,rfl,rfl,hH,hy,q⟩:=h
 cases rx
 have hus:=rv.zero
 subst hus
 obtain ⟨z,its,n,r,hl,e⟩:=I.lstM hH
 obtain ⟨u,hu,ru⟩:=r.get hy
 have hy':its.toArray[its.toArray.size - 1]?=some u:=by
  show its.toArray[its.length - 1]?=some u
  rw [<- Array.getElem?_toList,<- hl]
  exact hu
 refine call_meets F.slot_list_pop ⟨_,e,rfl⟩ F.entry_list_pop (F.args_list_pop_1 _) (MeetsSeq.list_pop_last l its.toArray n u hy' (by rw [List.size_toArray];omega)) ⟨e,?_⟩
 refine ⟨y,_,I.lset (its':=its.dropLast) hH e ?_ r.dropLast ?_,ru,q⟩
 ·show its.toArray.eraseIdxIfInBounds (its.toArray.size - 1)=its.dropLast.toArray
  rw [List.size_toArray,List.eraseIdxIfInBounds_toArray,xX]
 ·rw [List.length_dropLast]
  omega
noncomputable def rPopAt:V->List V->Hp->VK->Prop:=λx vs H Q=>∃ l xs i k y,x=.ref l/\vs=[.int i]/\H l=some (.lst xs)/\-(2 ^ 63)<=i/\i < 2 ^ 63/\seqIndex? i xs.length=some k/\xs[k]?=some y/\Q y (upd H l (.lst (xs.eraseIdx k)))
theorem DU:MtM X "list.pop" rPopAt:=by
 intro pins s σ H x vs v us Q I rx rv h
 obtain ⟨l,xs,i,k,y,rfl,rfl,hH,h1,h2,hk,hy,q⟩:=h
 cases rx
 obtain ⟨u,rfl,ru⟩:=rv.one
 obtain ⟨t,rfl⟩:=ru
 obtain ⟨z,its,n,r,hl,e⟩:=I.lstM hH
 obtain ⟨w,hw,rw'⟩:=r.get hy
 refine call_meets F.slot_list_pop ⟨_,e,rfl⟩ F.entry_list_pop (F.args_list_pop_2 _ _)
  (MeetsSeq.list_pop_at l its.toArray n i t k w (fitsIndex_both h1 h2) (by rw [List.size_toArray,<- hl];exact hk) (by rw [<- Array.getElem?_toList];exact hw) (by rw [List.size_toArray];omega)) ⟨e,?_⟩
 refine ⟨y,_,I.lset (its':=its.eraseIdx k) hH e ?_ (r.eraseIdx k) ?_,rw',q⟩
 ·show its.toArray.eraseIdxIfInBounds k=(its.eraseIdx k).toArray
  rw [List.eraseIdxIfInBounds_toArray]
 ·have:=rG xs k
  omega
noncomputable def De:V->List V->Hp->VK->Prop:=λx vs H Q=>∃ l xs,x=.ref l/\vs=[]/\H l=some (.lst xs)/\Q .non (upd H l (.lst xs.reverse))
theorem pR:MtM X "list.reverse" De:=by
 intro pins s σ H x vs v us Q I rx rv h
 obtain ⟨l,xs,rfl,rfl,hH,q⟩:=h
 cases rx
 have hus:=rv.zero
 subst hus
 obtain ⟨z,its,n,r,hl,e⟩:=I.lstM hH
 refine call_meets F.slot_list_reverse ⟨_,e,rfl⟩ F.entry_list_reverse (F.args_list_reverse_1 _) (AutoSeq1.list_reverse_list_0 l its.toArray n (by rw [List.size_toArray];omega)) ⟨e,?_⟩
 refine ⟨.non,_,I.lset (its':=its.reverse) hH e (by simp) r.reverse ?_,rfl,q⟩
 rw [List.length_reverse]
 omega
noncomputable def rCat:R2:=λx y H Q=>∃ l b xs zs,x=.ref l/\y=.ref b/\H l=some (.lst xs)/\H b=some (.lst zs)/\xs.length+zs.length<=sizeLine/\∀ p,H p=none->Q (.ref p) (upd H p (.lst (xs++zs)))
theorem op_cat:OpR X (binaryOp .Add) rCat:=by
 intro pins s σ H x y v u Q I rx ry h
 obtain ⟨l,b,xs,zs,rfl,rfl,hH,hB,hz,q⟩:=h
 cases rx
 cases ry
 obtain ⟨z,its,n,r,hl,e⟩:=I.lstM hH
 obtain ⟨z2,its2,n2,r2,hl2,e2⟩:=I.lstM hB
 refine PySem.P.add_list e e2 ?_ (by rw [List.size_toArray,List.size_toArray];omega)
 have ea:its.toArray++its2.toArray=(its++its2).toArray:=by simp
 rw [ea]
 exact ⟨.ref _,_,I.lnew (t':=s.toks) (r.append r2) (by rw [List.length_append];omega),rfl,q _ I.fresh⟩
end
section
variable {prog:Program} {w:World} {A:Around} {E:Value->Shared->Prop} {s:Shared}
set_option maxRecDepth 100000 in
end
section
variable {X:Cx}
end
end L2
namespace Att
open PySem PySem.W PySem.Calls PyProof.Rows
theorem nR {P:Params} {h:Heap}:∀(ns:List Int) (vs:List Value),WellAll P h vs (ns.map WData.int)->IntsAre vs ns:=by
 intro ns
 induction ns with
 | nil =>
  intro vs w
  rw [List.map_nil] at w
  cases w
  exact .nil
 | cons n ns ih =>
  intro vs w
  rw [List.map_cons] at w
  cases w with
  | cons a b =>
   cases a
   exact .cons _ _ (ih _ b)
theorem An {l:OpenLaw} {n:Nat} (hn:l.most=some n) {P:Params} {h:Heap} {args:List WData} {vals:List Value}
  (hpre:l.row.toRowW.claim.pre args=true) (hwl:WellAll P h vals args) :
  ∃ a vs ns,vals=[Value.ref a]/\args=[WData.list (ns.map WData.int)]/\h.get? a=some {cls:=.type "list",data:=.seq vs.toArray}/\IntsAre vs ns/\ns.length<=n:=by
 have hsh:WShape.hasAll [] args [.list .int]=true:=(pre_splitW hpre).1
 have hc:l.pre.holds [] {args:=args}=true:=(pre_splitW hpre).2
 obtain ⟨d,r,rfl,h1,h2⟩:=hasAllW_cons hsh
 obtain rfl:=hasAllW_nil h2
 obtain ⟨xs,rfl,h3⟩:=hasW_list h1
 obtain ⟨ns,rfl⟩:=items_int h3
 have hlen:ns.length<=n:=by
  unfold OpenLaw.pre at hc
  have h4:(WTm.not (.lt (.lit (.int (n:Int))) (.len (.arg 0)))).holds [] {args:=[.list (ns.map .int)] }=true:=by
   have h4:=(holds_andW hc).1
   rw [hn] at h4
   exact h4
  have h5:=condW_of h4 (w_not (w_lt w_lit (w_len_list (w_arg rfl))))
  rw [List.length_map] at h5
  refine Nat.le_of_not_lt λq=>?_
  have q':(n:Int) < ((ns.length:Nat):Int):=by omega
  first
   | (rw [decide_eq_true q'] at h5;exact absurd h5 (by decide))
   | (simp at h5;omega)
 cases hwl with
 | cons w1 w2 =>
  cases w2
  cases w1 with
  | list ho hall=>exact ⟨_,_,ns,rfl,rfl,ho,nR ns _ hall,hlen⟩
theorem Av (l:OpenLaw) (args:List WData):l.row.toRowW.claim.post args (.bool true) args=true :=
 postW_of (r:=l.row.toRowW) (X:=(true == true))
  (show WShape.has [] (.bool true) .bool=true by first | rfl | decide | simp [WShape.has,WShape.arms,WShape.armsAll])
  (show (WTm.eq .res (.lit (.bool true))).value [] {args:=args,res:=some (.bool true),after:=args}=some (.bool (true == true)) from w_eq_bool (w_res rfl) w_lit) rfl
section
variable {prog:Program} {w:World} {A:Around} {E:Value->Shared->Prop} {s:Shared} {K:Frag}
end
end Att
namespace L2
open PySem PySem.Spec PyProof.Rows
theorem qS:∀{vs:List Value} {ns:List Int},IntsAre vs ns->Vals (ns.map V.int) vs
 | _,_,.nil=>.nil
 | _,_,.cons n t h=>.cons ⟨t,rfl⟩ (qS h)
noncomputable def Only (H:Hp):Prop:=∀ b,H b=none\/∃ o xs,H b=some (.frz o (.lst xs))
theorem Ea {P:Program} {w:World} {K:PySem.W.Frag} {mg mb:Str->Option Value} {CX:CXT} {k:Nat} {fa a:Addr} {fd:FuncData} {x:Str} {sp:Sp} {s₁:Shared} {vs:List Value} {ns:List Int}
  (KX:K.In s₁.heap) (hns:s₁.heap.Ns mainGlobals mg) (hb:s₁.heap.Ns builtinsNs mb) (hbb:∀ x:Str,x≠"__name__"->mb x=bootBuiltins x) (hlim:s₁.heap.NoLimit) (hg:s₁.gens=#[])
  (ha:s₁.heap.get? a=some {cls:=.type "list",data:=.seq vs.toArray}) (hi:IntsAre vs ns) (hl:ns.length<=sizeLine) (hr:cX k callerA)
  (F:∀ base:Heap,K.In base->base.Ns mainGlobals mg->mj P w K mg base CX k fa fd [x] sp) (hbind:∀(s:Shared) (u:Value),BindsTo s fd ⟨[u],[]⟩ [(x,u)])
  (hsp:∀ H:Hp,Only H->SqL K H a (ns.map V.int)->sp [.ref a] H (λv _=>v=.bl true) λ_ _ _=>False)
  (hCX:∀ H e s',CX [] H s₁ (λ_ _ _=>False) e s'->False) :
  codeAny (model P w) callerA (.call (.ref fa) ⟨[.ref a],[]⟩) (λr s'=>r=.ok (.ret (.bool true))/\OldK s₁.heap s'.heap/\s'.os=s₁.os/\AllBare s'.gens) s₁:=by
 have rv:=qS hi
 have lenV:=hi.length
 have core:∀ H:Hp,Only H->SqL K H a (ns.map V.int)->HOk P w H s₁.heap->(∀ b,H b≠none->b=a)->(H a≠none->K.lookup a=none)->
   codeAny (model P w) callerA (.call (.ref fa) ⟨[.ref a],[]⟩) (λr s'=>r=.ok (.ret (.bool true))/\OldK s₁.heap s'.heap/\s'.os=s₁.os/\AllBare s'.gens) s₁:=by
  intro H hO hS hok hA hK
  have base_of:∀{b:Addr} {o:Obj},s₁.heap.get? b=some o->H b=none->(tT s₁.heap H).get? b=some o:=λe n=>Eg e n
  have noA:∀{b:Addr} {o:Obj} {es:Array DictEntry} {ep:Nat},s₁.heap.get? b=some o->o.data=.dict es ep->H b=none:=λ{b o es ep} e d=>by
   cases q:H b with
   | none=>rfl
   | some u =>
    have e':b=a:=hA b (by rw [q];simp)
    subst e'
    rw [ha] at e;cases e
    have d':Data.seq vs.toArray _=Data.dict es ep:=d
    cases d'
  have nsK:∀{b:Addr} {m:Str->Option Value},s₁.heap.Ns b m->(tT s₁.heap H).Ns b m:=λ{b m} ⟨o,es,ep,e,d,r⟩=>⟨o,es,ep,base_of e (noA e d),d,r⟩
  have hKb:K.In (tT s₁.heap H):=λb o e=>base_of (KX b o e) (by
   cases q:H b with
   | none=>rfl
   | some u =>
    have e':b=a:=hA b (by rw [q];simp)
    subst e'
    rw [hK (by rw [q];simp)] at e;cases e)
  have hM:Mod K mg (tT s₁.heap H):=⟨hKb,nsK hns,⟨mb,nsK hb,hbb⟩,let ⟨mc,h1,h2⟩:=hlim;⟨mc,nsK h1,h2⟩⟩
  have e0:yp P w K mg (tT s₁.heap H) callerA [] s₁ H:=⟨rfl,hM,λb o e=>of_hidT e,Nat.le_of_eq (Bk _ _),trivial,λb hb=>absurd (show b∈([]:List Addr) from hb) (by simp),hok,.of_eq hg⟩
  refine codeAny_mono ((F _ hKb (nsK hns)).run callerA [] s₁ H ⟨[.ref a],[]⟩ [.ref a] [.ref a] _ _ hr e0 (hbind s₁ (.ref a)) (.cons rfl .nil) (hsp H hO hS)) λr s' h=>?_
  cases r with
  | error e=>exact (hCX H e s' h).elim
  | ok fl =>
   cases fl with
   | next=>exact False.elim h
   | brk=>exact False.elim h
   | cont=>exact False.elim h
   | ret u =>
    obtain ⟨v,H',os,bare,un,hok',r',q⟩:=h
    have q':v=.bl true:=q
    subst q'
    obtain rfl:u=Value.bool true:=r'
    refine ⟨rfl,OldK.of_keep λb o e=>?_,os,bare⟩
    cases q:H b with
    | none=>exact un.keep b o e q (by intro z;exact absurd (show b∈([]:List Addr) from z) (by simp)) (by simp)
    | some u =>
     rcases hO b with z | ⟨ob,xs,z⟩
     ·rw [q] at z;cases z
     ·have z2:=un.frzs b ob _ z
      obtain ⟨e1,_⟩:=hok b _ z
      obtain ⟨e2,_⟩:=hok' b _ z2
      rw [e] at e1;cases e1
      exact e2
 cases hk:K.lookup a with
 | some o =>
  have e:=KX a o hk
  rw [ha] at e
  cases e
  refine core (λ_=>none) (λ_=>.inl rfl) (.inr ⟨_,vs.toArray,_,hk,rfl,rfl,rfl,by rw [List.size_toArray,lenV];exact hl,by simpa using rv⟩) (λb u z=>by have z':(none:Option HO)=some u:=z;cases z') (λb z=>absurd rfl z) λz=>absurd rfl z
 | none =>
  refine core (λb=>if b=a then some (.frz {cls:=.type "list",data:=.seq vs.toArray} (.lst (ns.map V.int))) else none) (λb=>?_) (.inl (.inr ⟨{cls:=.type "list",data:=.seq vs.toArray},if_pos rfl⟩)) (λb u z=>?_) (λb z=>?_) λ_=>hk
  ·by_cases hb:b=a
   ·exact .inr ⟨_,_,if_pos hb⟩
   ·exact .inl (if_neg hb)
  ·by_cases hb:b=a
   ·have z':=(if_pos hb).symm.trans z
    cases z'
    subst hb
    exact ⟨ha,by rw [List.length_map];exact hl,vs,_,rv,ha⟩
   ·have z':=(if_neg hb).symm.trans z
    cases z'
  ·by_cases hb:b=a
   ·exact hb
   ·exact absurd (if_neg hb) z
noncomputable abbrev KOf {K:PySem.W.Frag} {h:Heap} (_:K.In h):PySem.W.Frag:=K
noncomputable def inClass (s:Stmt) (j:Nat):Stmt:=match s with
 | .ClassDef _ _ _ body _ _ _ _ _ _ _=>body.getD j (.Pass ⟨0,0,0,0⟩)
 | _=>.Pass ⟨0,0,0,0⟩
noncomputable def eY (s:Stmt):Arguments:=match s with
 | .FunctionDef _ a _ _ _ _ _ _ _ _=>a
 | _=>{posonlyargs:=[],args:=[],vararg:=none,kwonlyargs:=[],kw_defaults:=[],kwarg:=none,defaults:=[] }
noncomputable def bu (s:Stmt):List Stmt:=match s with
 | .FunctionDef _ _ b _ _ _ _ _ _ _=>b
 | _=>[]
noncomputable def ah (s:Stmt):Scope:=match s with
 | .FunctionDef _ _ _ _ _ _ sc _ _ _=>sc
 | _=>{kind:=.function,names:=[],isGenerator:=false,isCoroutine:=false}
noncomputable abbrev CX0:CXT:=λ_ _ _ _ _ _=>False
noncomputable abbrev E0:XK:=λ_ _ _=>False
theorem vy {X:Cx}:Passes CX0 X E0:=λ_ _ _ _ _ _ _ h=>h.elim
structure Fun (K:PySem.W.Frag) (x qual:Str) (st:Stmt) (f:Addr) (fd:FuncData):Prop where
 ex:∃(oc:Value) (od:Option Addr) (kV doc pm:Value) (an:Option Addr) (cdv ct:Value) (osl:Array (Option Value)),
  fd=PySem.W.fnOf x qual (eY st) (bu st) (ah st) .none kV doc pm an cdv ct/\K.lookup f=some ⟨oc,od,.func fd,osl⟩/\PySem.W.codeIn K cdv qual=true
 kp:PySem.W.keepIn K (.ref f)=true
section
variable {P:Program} {w:World} {K:PySem.W.Frag} {mg:Str->Option Value} {base:Heap}
theorem Fun.ok {x qual:Str} {st:Stmt} {f:Addr} {fd:FuncData} {N ps:List Str} {k:Nat} {sp:Sp} (F:Fun K x qual st f fd) (S:aA N ps (ah st)) (len:∀ vs H Q E,sp vs H Q E->vs.length=ps.length)
  (hbody:∀(cdv:Value) (A:Around) (outer:List Env) (s:Shared) (H:Hp) (vs:List V) (Q:VK) (E:XK),cX k (A.deeper (envOfC qual (ah st) s.heap.objs.size f cdv))->sp vs H Q E->
   ∃ t,PSs (cS CX0 P w K mg base N qual (ah st) f cdv A outer s H E).nox (bu st) t/\t {nx:=λ_ H'=>Q .non H',rt:=Q} (start N vs) H):mj P w K mg base CX0 (k+1) f fd ps sp:=by
 obtain ⟨oc,od,kV,doc,pm,an,cdv,ct,osl,rfl,lk,hcd⟩:=F.ex
 refine fn_of lk hcd S len λA outer s H vs Q E hr hsp=>?_
 obtain ⟨t,h,q⟩:=hbody cdv A outer s H vs Q E hr hsp
 exact ⟨t,h.nox,q⟩
theorem Fun.binds {x qual:Str} {st:Stmt} {f:Addr} {fd:FuncData} {ps:List Str} (F:Fun K x qual st f fd)
  (h:∀(kV doc pm:Value) (an:Option Addr) (cdv ct:Value) (us:List Value),us.length=ps.length->bindArgs (PySem.W.fnOf x qual (eY st) (bu st) (ah st) .none kV doc pm an cdv ct) ⟨us,[]⟩=pure (ps.zip us)):Binds K fd ps []:=by
 obtain ⟨oc,od,kV,doc,pm,an,cdv,ct,osl,rfl,lk,hcd⟩:=F.ex
 exact .all (h kV doc pm an cdv ct)
theorem Ep {x qual:Str} {st:Stmt} {f:Addr} {oc:Value} {od an:Option Addr} {osl:Array (Option Value)} {kV doc pm cdv ct:Value} (l:K.lookup f=some ⟨oc,od,.func (PySem.W.fnOf x qual (eY st) (bu st) (ah st) .none kV doc pm an cdv ct),osl⟩)
  (c:PySem.W.codeIn K cdv qual=true) (k:PySem.W.keepIn K (.ref f)=true):Fun K x qual st f (PySem.W.fnOf x qual (eY st) (bu st) (ah st) .none kV doc pm an cdv ct):=⟨⟨oc,od,kV,doc,pm,an,cdv,ct,osl,rfl,l,c⟩,k⟩
end
theorem zD {A:Around} {k:Nat} (hr:cX k A):A.units+1 < cLine:=Nat.lt_of_le_of_lt (Nat.add_le_add_left (by decide:1<=64) _) hr.units
theorem aQ {n:Nat} (h:n<=1000):n < sizeLine:=Nat.lt_of_le_of_lt h (by decide)
section
variable {X:Cx}
theorem pv (i:Nat) {x:Str} {pos:Pos} (hN:X.N[i]?=some x:=by rfl) (hv:Vis X.env.scope x:=by first | exact Or.inl rfl | exact Or.inr (Or.inl rfl) | exact Or.inr (Or.inr rfl)) (hd:(x == ("__debug__":Str))=false:=by decide)
  (hcd:(x == ("__classdict__":Str))=false:=by decide):PE X (.Name x pos) (tVar i):=Ds hN hv hd hcd
end
theorem bB {A B:Prop} (h:B):if false=true then A else B:=by
 rw [if_neg Bool.false_ne_true]
 exact h
theorem dI {A B:Prop} (h:A):if true=true then A else B:=by
 rw [if_pos rfl]
 exact h
theorem dB {c A B:Prop} [Decidable c] (h1:c->A) (h2:¬c->B):if c then A else B:=by
 by_cases h:c
 ·rw [if_pos h]
  exact h1 h
 ·rw [if_neg h]
  exact h2 h
theorem iteNS {c A B:Prop} [Decidable c] (hc:c) (h:B):if (!decide c)=true then A else B:=by
 rw [decide_eq_true hc]
 exact bB h
noncomputable def aI (H H':Hp):Prop:=∀ b o,H b=some o->H' b=some o
theorem aI.refl (H:Hp):aI H H:=λ_ _ h=>h
theorem aI.trans {H H1 H2:Hp} (a:aI H H1) (b:aI H1 H2):aI H H2:=λc o h=>b c o (a c o h)
theorem aI.free {H H':Hp} (e:aI H H') {l:Addr} (h:H' l=Option.none):H l=Option.none:=by
 cases q:H l with
 | none=>rfl
 | some o =>
  rw [e l o q] at h
  cases h
theorem aI.seq {K:PySem.W.Frag} {H H':Hp} {a:Addr} {xs:List V} (e:aI H H') (h:SqL K H a xs):SqL K H' a xs:=by
 rcases h with (h | ⟨o,h⟩) | h
 ·exact .inl (.inl (e _ _ h))
 ·exact .inl (.inr ⟨o,e _ _ h⟩)
 ·exact .inr h
end L2
set_option maxHeartbeats 4000000
namespace L2
open PySem PySem.Spec PyProof.Rows
noncomputable def bo (X:Cx) (scope:Scope) (cl:List (Str×Addr)) (N:List Str) (s:Shared) (H:Hp) (fp:List Addr):Cx :=
 {prog:=X.prog,w:=X.w,K:=X.K,mg:=X.mg,base:=X.base,A:=X.A,N:=N,s₀:=s,H₀:=H,env:=compEnvC scope cl s.heap.objs.size X.env,
  outer:=X.stack,stack:=X.stack,ex:=fp,fn:=λ_=>false,calm:=X.calm,pn:=[],xe:=λ_ _=>False}
noncomputable def bK (X:Cx) (x:Str) (js:List Nat):List Str:=x::js.map λj=>X.N.getD j ""
noncomputable def bI (js:List Nat) (σ:St):St:=js.map λj=>(σ[j]?).getD none
structure fi (X:Cx) (scope:Scope) (js:List Nat):Prop where
 all:∀ j∈js,∃ y,X.N[j]?=some y/\(X.env.kindOf y=some .cell\/X.env.kindOf y=some .free)/\(y,NameKind.free)∈scope.names/\
  ((relabel scope X.env).names.lookup y=some .cell\/(relabel scope X.env).names.lookup y=some .free)
theorem cR {X:Cx} {scope:Scope}:fi X scope []:=⟨λ_ h=>nomatch h⟩
theorem cI {X:Cx} {scope:Scope} {j:Nat} {js:List Nat} {y:Str} (h1:X.N[j]?=some y) (h2:X.env.kindOf y=some .cell\/X.env.kindOf y=some .free) (h3:(y,NameKind.free)∈scope.names)
  (h4:(relabel scope X.env).names.lookup y=some .cell\/(relabel scope X.env).names.lookup y=some .free) (r:fi X scope js):fi X scope (j::js) :=
 ⟨λk hk=>by
  rcases List.mem_cons.mp hk with e | e
  ·subst e;exact ⟨y,h1,h2,h3,h4⟩
  ·exact r.all k e⟩
theorem cL {env:Env}:∀{names:List (Str×NameKind)} {y:Str} {k:NameKind},
  (names.map λ(n,k)=>if (k == NameKind.free && env.scope.kind == .function && env.kindOf n == some .cell) then (n,NameKind.cell) else (n,k)).lookup y=some k->
  ∃ k',(y,k')∈names/\(k'=k\/(k=.cell/\k'=.free))
 | [],_,_,h=>by simp at h
 | (n,k0)::r,y,k,h=>by
  by_cases hc:(k0 == NameKind.free && env.scope.kind == .function && env.kindOf n == some .cell)=true
  ·rw [List.map_cons] at h
   dsimp only at h
   rw [if_pos hc] at h
   simp only [List.lookup_cons] at h
   have hf:k0=.free:=by
    rw [Bool.and_eq_true,Bool.and_eq_true] at hc
    exact beq_iff_eq.mp hc.1.1
   cases hx:y == n with
   | true =>
    rw [hx] at h
    have e:=beq_iff_eq.mp hx
    subst e
    have e2:=Option.some.inj h
    exact ⟨k0,List.mem_cons_self,.inr ⟨e2.symm,hf⟩⟩
   | false =>
    rw [hx] at h
    obtain ⟨k',m,q⟩:=cL h
    exact ⟨k',List.mem_cons_of_mem _ m,q⟩
  ·rw [List.map_cons] at h
   dsimp only at h
   rw [if_neg hc] at h
   simp only [List.lookup_cons] at h
   cases hx:y == n with
   | true =>
    rw [hx] at h
    have e:=beq_iff_eq.mp hx
    subst e
    have e2:=Option.some.inj h
    exact ⟨k0,List.mem_cons_self,.inl e2⟩
   | false =>
    rw [hx] at h
    obtain ⟨k',m,q⟩:=cL h
    exact ⟨k',List.mem_cons_of_mem _ m,q⟩
section
variable {X:Cx} {pins:List (Addr×Obj)} {σ:St} {H:Hp} {s:Shared} {scope:Scope} {cl:List (Str×Addr)} {x:Str} {js:List Nat} {fp:List Addr}
theorem comp_ok (I:Inv X pins σ H s) (hk:scope.kind=.function) (hcell:∀ y∈scope.names,y.2≠.cell)
  (hcl1:∀ y c,cl.lookup y=some c->X.env.cells.lookup y=some c) (hcl2:∀ y,(y,NameKind.free)∈scope.names->∃ c,cl.lookup y=some c)
  (hf:∀ b∈fp,iW X pins H b) (hlt:∀ b∈fp,b < s.heap.objs.size):(bo X scope cl (bK X x js) s H fp).Ok where
 mod:=I.ok.mod
 kind:=hk
 glob:=I.ok.glob
 blt:=I.ok.blt
 above:=Nat.le_refl _
 inj:=λy z c h1 h2=>I.ok.inj y z c (hcl1 y c h1) (hcl1 z c h2)
 has:=λy hy=>by
  have hy':(relabel scope X.env).names.lookup y=some .cell\/(relabel scope X.env).names.lookup y=some .free:=hy
  rcases hy' with h | h
  ·obtain ⟨k',m,q⟩:=cL h
   rcases q with q | ⟨_,q⟩
   ·exact absurd q (hcell _ m)
   ·subst q;exact hcl2 y m
  ·obtain ⟨k',m,q⟩:=cL h
   rcases q with q | ⟨q,_⟩
   ·subst q;exact hcl2 y m
   ·cases q
 cab:=λy c h _=>by cases h
 hd:=I.ok.hd
 frames:=I.ok.frames
 stk:=.inl rfl
 exf:=λb hb=>⟨Nat.ne_of_lt (hlt b hb),λy c h=>(hf b hb).2.2.2.2.1 y c (hcl1 y c h)⟩
 bs:=I.bs
 bsz:=Nat.le_trans I.ok.bsz I.sz
 noex:=λb o e hb=>by
  rcases (hf b hb).2.2.2.1 with z | z
  ·exact I.ok.noex b o e z
  ·exact absurd (Nat.lt_of_lt_of_le (Heap.lt_size e) (Nat.le_trans I.ok.bsz z)) (Nat.lt_irrefl _)
 exfs:=λb hb hz=>(List.mem_cons.mp (I.stkSub b hz)).elim (hf b hb).2.1 (hf b hb).2.2.1
 funs:=I.stack
 frf:=I.stkFree
theorem yc {h₁:Heap} {tk:Nat} (I:Inv X pins σ H s) (hk:scope.kind=.function) (hcell:∀ y∈scope.names,y.2≠.cell)
  (hcl1:∀ y c,cl.lookup y=some c->X.env.cells.lookup y=some c) (hcl2:∀ y,(y,NameKind.free)∈scope.names->∃ c,cl.lookup y=some c) (hjs:fi X scope js)
  (hf:∀ b∈fp,iW X pins H b) (hlt:∀ b∈fp,b < s.heap.objs.size) {m:Str->Option Value} (hn:h₁.Ns s.heap.objs.size m) (hkeep:∀ b o,s.heap.get? b=some o->h₁.get? b=some o) :
  Inv (bo X scope cl (bK X x js) s H fp) [] (none::bI js σ) H {s with heap:=h₁,toks:=tk} where
 ok:=comp_ok I hk hcell hcl1 hcl2 hf hlt
 os:=rfl
 bare:=I.bare
 base:=Un.kept hkeep
 loc:=by
  refine ⟨m,hn,λi y v h1 h2 h3=>?_⟩
  cases i with
  | zero =>
   have z:(some none:Option (Option V))=some (some v):=h2
   cases z
  | succ k =>
   have h1':(js.map λj=>X.N.getD j "")[k]?=some y:=h1
   have h2':(js.map λj=>(σ[j]?).getD none)[k]?=some (some v):=h2
   rw [List.getElem?_map] at h1' h2'
   cases hj:js[k]? with
   | none=>rw [hj] at h1';cases h1'
   | some j =>
    rw [hj] at h1' h2'
    have e1:X.N.getD j ""=y:=Option.some.inj h1'
    have e2:(σ[j]?).getD none=some v:=Option.some.inj h2'
    obtain ⟨y',n1,n2,n3,n4⟩:=hjs.all j (List.mem_of_getElem? hj)
    have e3:y'=y:=by rw [<- e1,List.getD_eq_getElem?_getD,n1];rfl
    subst e3
    have e4:σ[j]?=some (some v):=by
     cases q:σ[j]? with
     | none=>rw [q] at e2;cases e2
     | some a=>rw [q] at e2;exact congrArg some e2
    obtain ⟨m0,_,hl⟩:=I.loc
    obtain ⟨u,r,l⟩:=hl j y' v n1 e4 (n2.elim (λz=>Or.inr (Or.inl z)) λz=>Or.inr (Or.inr z))
    refine ⟨u,r,.inr ⟨n4,?_⟩⟩
    rcases l with ⟨l,_⟩ | ⟨_,c,hc,hi⟩
    ·exfalso
     rcases n2 with z | z <;> (rw [z] at l;cases l)
    ·obtain ⟨c',hc'⟩:=hcl2 y' n3
     have e5:=hcl1 y' c' hc'
     rw [hc] at e5
     have e6:=Option.some.inj e5
     subst e6
     obtain ⟨o,ho,hd⟩:=hi
     exact ⟨c,hc',o,hkeep c o ho,hd⟩
 cell:=λy c h=>by
  obtain ⟨v,o,ho,hd⟩:=I.cell y c (hcl1 y c h)
  exact ⟨v,o,hkeep c o ho,hd⟩
 free:=I.hok.fresh (Nat.le_refl _)
 freeC:=λy c h=>I.freeC y c (hcl1 y c h)
 pin:=λp hp=>absurd (show p∈([]:List (Addr×Obj)) from hp) (by simp)
 hok:=I.hok.kept hkeep
 len:=by
  show (none::bI js σ).length=(bK X x js).length
  simp [bI,bK]
end
noncomputable def PIf (X:Cx) (ifs:List Expr) (t:TT):Prop :=
 ∀(
  pins:List (Addr×Obj)) (s:Shared) (σ:St) (H:Hp) (Q:Bool->Hp->Prop),Inv X pins σ H s->t σ H Q->
  wpAny (model X.prog X.w) X.A (forIn ifs true λc r=>if r=true then do let ok <- isTrue c X.env (eval c X.env);pure (ForInStep.yield ok) else pure (ForInStep.yield r)) (TP X pins σ Q) X.xe s
noncomputable def ky:TT:=λ_ H Q=>Q true H
theorem dq {X:Cx}:PIf X [] ky:=λ_ _ _ H _ I h=>wpAny_tests_nil ⟨H,I,h⟩
theorem pif_one {X:Cx} {c:Expr} {t:TT} (h:PT X c t):PIf X [c] t:=λpins s σ H Q I q=>wpAny_tests_one (h pins s σ H Q I q)
noncomputable def iD (wi:TI) (tc:TT) (te:TE) (js:List Nat):TE:=fun σ H Q=>wi σ H λJ H1=>∀ D,H1 D=none->
 ∃ W:Nat->Nat->Hp->Prop,(∃ m,W 0 m (upd H1 D (.lst [])))/\∀ i m H2,W i m H2->(J.stop i H2/\Q (.ref D) H2)\/
  (J.go i H2/\∀ v H3,J.yld i H2 v H3->tc (some v::bI js σ) H3 λb H4=>if b=true then te (some v::bI js σ) H4 λy H5 =>
   ∃ ys,H5 D=some (.lst ys)/\ys.length < sizeLine/\∃ m',m' < m/\W (i+1) m' (upd H5 D (.lst (ys++[y]))) else ∃ m',m' < m/\W (i+1) m' H4)
section
variable {X:Cx} {elt iter:Expr} {x:Str} {px pos:Pos} {ifs:List Expr} {scope:Scope} {cl:List (Str×Addr)} {wi:TI} {tc:TT} {te:TE} {js:List Nat}
theorem rV {use:Option (Value->Sem Unit)} {Qv:Value->Shared->Prop} {pins:List (Addr×Obj)} {s:Shared} {σ:St} {H:Hp} {Q:VK}
  (hc:X.calm=true) (hi:PI X (.Name x px) iter wi) (hk:scope.kind=.function) (hcell:∀ y∈scope.names,y.2≠.cell) (hx:(relabel scope X.env).names.lookup x=some .local)
  (hcl1:∀ y c,cl.lookup y=some c->X.env.cells.lookup y=some c) (hcl2:∀ y,(y,NameKind.free)∈scope.names->∃ c,cl.lookup y=some c) (hjs:fi X scope js) (hnd:(bK X x js).Nodup)
  (ht:∀ s' H' fp,PIf (bo X scope cl (bK X x js) s' H' fp) ifs tc) (he:∀ s' H' fp,PE (bo X scope cl (bK X x js) s' H' fp) elt te)
  (I:Inv X pins σ H s) (h:iD wi tc te js σ H Q)
  (fin:∀(D C:Addr) (H':Hp) (s':Shared),Inv X pins σ H' s'->iW X pins H' C->(∃ m,s'.heap.Ns C m)->Q (.ref D) H'->compPost (model X.prog X.w) X.A X.xe use Qv (.ref D) C (.ok .next) s') :
  wpAny (model X.prog X.w) X.A (eval iter X.env) (λxv s₁=>wpAny (model X.prog X.w) X.A (pyIter xv) (λit s₂=>wpAny (model X.prog X.w) X.A (newList []) (λacc s₃ =>
   wpAny (model X.prog X.w) X.A (newFunctionEnv scope X.env.globals cl [] X.env.qual none .none (some X.env)) (λcenv s₄ =>
    codeAny (model X.prog X.w) X.A (.compStart (.ListComp elt [⟨.Name x px,iter,ifs,0⟩] scope pos) 0 it acc {cenv with scope:=relabel scope X.env})
     (compPost (model X.prog X.w) X.A X.xe use Qv acc cenv.locals) s₄) X.xe s₃) X.xe s₂) X.xe s₁) X.xe s:=by
 refine thn (hi pins s σ H _ I h) λv s1 h1=>thn h1 λitv s2 h2=>?_
 obtain ⟨it,fp,tn,J,H2,e,I2,T,st2,f2,hW⟩:=h2
 subst e
 obtain ⟨W,⟨m0,w0⟩,turn⟩:=hW s2.heap.objs.size (I2.hok.fresh (Nat.le_refl _))
 have hlt2:∀ b∈fp,b < s2.heap.objs.size:=λb hb=>let ⟨_,e,_⟩:=T.obj _ _ st2 b hb;Heap.lt_size e
 have I3:Inv X pins σ (upd H2 s2.heap.objs.size (.lst [])) {s2 with heap:=s2.heap.push {cls:=.type "list",data:=.seq ([]:List Value).toArray} } :=
  I2.lnew (t':=s2.toks) (its:=[]) .nil (Nat.zero_le _)
 refine wpAny_newObj_type ?_
 have k23:∀ b o,s2.heap.get? b=some o->(s2.heap.push {cls:=.type "list",data:=.seq ([]:List Value).toArray}).get? b=some o:=λb o e=>Heap.get?_push_of_some _ e
 have sz3:(s2.heap.push {cls:=.type "list",data:=.seq ([]:List Value).toArray}).objs.size=s2.heap.objs.size+1:=Heap.size_push ..
 generalize hs3:({s2 with heap:=s2.heap.push {cls:=.type "list",data:=.seq ([]:List Value).toArray} }:Shared)=s3 at I3
 have hs3':s3.heap=s2.heap.push {cls:=.type "list",data:=.seq ([]:List Value).toArray}:=by rw [<- hs3]
 have hlt3:∀ b∈fp,b < s3.heap.objs.size:=λb hb=>by rw [hs3',sz3];exact Nat.lt_succ_of_lt (hlt2 b hb)
 have f3:∀ b∈fp,iW X pins (upd H2 s2.heap.objs.size (.lst [])) b:=λb hb=>⟨by rw [au (Nat.ne_of_lt (hlt2 b hb))];exact (f2 b hb).1,(f2 b hb).2⟩
 refine wpAny_newFunctionEnv hcell (by intro y hy;simp at hy) (λh₁ hns hsb=>?_) hk
 have k34:∀ b o,s3.heap.get? b=some o->h₁.get? b=some o:=λb o e=>hsb.extBut b o (Nat.ne_of_lt (Heap.lt_size e)) (Heap.get?_push_of_some _ e)
 have I4:=yc (x:=x) (js:=js) (tk:=s3.toks+([]:List (Str×Value)).length) I3 hk hcell hcl1 hcl2 hjs f3 hlt3 hns k34
 have st4:tn 0 h₁:=T.keep 0 _ _ st2 λb hb o e=>k34 b o (by rw [hs3'];exact k23 b o e)
 have stat:∀{H':Hp},(∀ b∈fp,H' b=none)->∀ b∈fp,iW (bo X scope cl (bK X x js) s3 (upd H2 s2.heap.objs.size (.lst [])) fp) [] H' b:=λhn b hb =>
  ⟨hn b hb,Nat.ne_of_lt (hlt3 b hb),λhz=>(List.mem_cons.mp (I3.stkSub b hz)).elim (f2 b hb).2.1 (f2 b hb).2.2.1,.inl hb,λy c q=>(f2 b hb).2.2.2.2.1 y c (hcl1 y c q),λp hp=>absurd (show p∈([]:List (Addr×Obj)) from hp) (by simp)⟩
 have back:∀{σ':St} {H':Hp} {s':Shared},Inv (bo X scope cl (bK X x js) s3 (upd H2 s2.heap.objs.size (.lst [])) fp) [] σ' H' s'->Inv X pins σ H' s':=λ{σ' H' s'} J' =>
  I3.call' (ch:=fp) J'.os J'.base J'.hok J'.bare λb hb=>⟨(f2 b hb).2.2.2.1,(f2 b hb).2.1,(f2 b hb).2.2.2.2.1,(f2 b hb).2.2.2.2.2⟩
 have loop:codeAny (model X.prog X.w) X.A (.compLoop (.ListComp elt [⟨.Name x px,iter,ifs,0⟩] scope pos) 0 (.ref it) (.ref s2.heap.objs.size) (compEnvC scope cl s3.heap.objs.size X.env))
   (compPost (model X.prog X.w) X.A X.xe use Qv (.ref s2.heap.objs.size) s3.heap.objs.size) {s3 with heap:=h₁,toks:=s3.toks+([]:List (Str×Value)).length}:=by
  refine codeAny_compLoop_tests (λn s'=>∃ i o H',Inv (bo X scope cl (bK X x js) s3 (upd H2 s2.heap.objs.size (.lst [])) fp) [] (o::bI js σ) H' s'/\tn i s'.heap/\(∀ b∈fp,H' b=none)/\W i n H') ?_ m0
   ⟨0,none,_,I4,st4,λb hb=>(f3 b hb).1,w0⟩
  rintro n s5 ⟨i,o,H5,I5,st5,fr5,w5⟩
  rcases turn i n H5 w5 with ⟨stop,q⟩ | ⟨go,step⟩
  ·refine thn (T.done (bo X scope cl (bK X x js) s3 (upd H2 s2.heap.objs.size (.lst [])) fp) rfl rfl rfl hc i [] s5 _ H5 _ I5 (stat fr5) st5 stop) λr s6 zz=>?_
   obtain ⟨hr,I6⟩:=zz
   subst hr
   exact fin _ _ H5 s6 (back I6) (I3.fpOk (Nat.le_refl _) I6.free) (let ⟨m,hm,_⟩:=I6.loc;⟨m,hm⟩) q
  ·refine thn (T.item (bo X scope cl (bK X x js) s3 (upd H2 s2.heap.objs.size (.lst [])) fp) rfl rfl rfl hc i [] s5 _ H5 _ I5 (stat fr5) st5 go) λr s6 zz=>?_
   obtain ⟨u,hr,h6⟩:=zz
   subst hr
   show wpAny _ _ (assign (.Name x px) _ u) _ _ s6
   intro Γ p hΓ
   have h6':=h6 Γ p hΓ
   obtain ⟨v,H6,I6,r6,y6,st6,fr6⟩:=h6'
   refine (?_:wpAny _ _ _ _ _ s6) Γ p hΓ
   have I6':=I6.pinned (stat fr6) (T.obj _ _ st6)
   have hg:PG (bo X scope cl (bK X x js) s3 (upd H2 s2.heap.objs.size (.lst [])) fp) (.Name x px) (rQ 0):=aV (i:=0) hnd rfl (Or.inl hx) (.inr hx)
   refine wpAny_mono (hg _ s6 _ H6 v u (fun σ' H'=>σ'=some v::bI js σ/\H'=H6) I6' r6 ⟨rfl,rfl⟩) (λ_ s7 q7=>?_) (λ_ _ f=>False.elim f)
   obtain ⟨σ7,H7,I7,e7,e8⟩:=q7
   subst e7 e8
   refine wpAny_mono (ht s3 _ fp _ s7 _ H7 _ I7 (step v H7 y6)) (λok s8 q8=>?_) (λ_ _ f=>False.elim f)
   obtain ⟨H8,I8,q8⟩:=q8
   have again:∀{s9:Shared} {σ9:St} {H9:Hp} {m':Nat},Inv (bo X scope cl (bK X x js) s3 (upd H2 s2.heap.objs.size (.lst [])) fp) ([]++pK fp s6.heap) (some v::bI js σ) H9 s9->m' < n->W (i+1) m' H9->
     ∃ m,m < n/\∃ i o H',Inv (bo X scope cl (bK X x js) s3 (upd H2 s2.heap.objs.size (.lst [])) fp) [] (o::bI js σ) H' s9/\tn i s9.heap/\(∀ b∈fp,H' b=none)/\W i m H':=λ{s9 σ9 H9 m'} I9 hm w9=>by
    refine ⟨m',hm,i+1,some v,H9,I9.unpinned,T.keep _ _ _ st6 λb hb o e=>(I9.pin (b,o) (List.mem_append_right _ (List.mem_append_right _ (fH hb e)))).1,λb hb=>?_,w9⟩
    obtain ⟨o,e,d⟩:=T.obj _ _ st6 b hb
    exact (I9.pin (b,o) (List.mem_append_right _ (List.mem_append_right _ (fH hb e)))).2.1
   cases ok with
   | false =>
    rw [if_neg Bool.false_ne_true] at q8 ⊢
    obtain ⟨m',hm,w9⟩:=q8
    exact again (σ9:=[]) I8 hm w9
   | true =>
    rw [if_pos rfl] at q8 ⊢
    refine wpAny_mono (he s3 _ fp _ s8 _ H8 _ I8 q8) (λy s9 q9=>?_) (λ_ _ f=>False.elim f)
    obtain ⟨yv,H9,I9,r9,ys,hD,hl,m',hm,w9⟩:=q9
    refine wpAny_mono (aY (X:=bo X scope cl (bK X x js) s3 (upd H2 s2.heap.objs.size (.lst [])) fp) _ s9 _ H9 (.ref s2.heap.objs.size) [yv] (.ref s2.heap.objs.size) [y] (λ_ H'=>H'=upd H9 s2.heap.objs.size (.lst (ys++[yv]))) I9 rfl (.cons r9 .nil) ⟨_,ys,yv,rfl,rfl,hD,hl,rfl⟩) (λ_ s10 q10=>?_) (λ_ _ f=>False.elim f)
    obtain ⟨_,H10,I10,_,e10⟩:=q10
    subst e10
    exact again (σ9:=[]) I10 hm w9
 exact codeAny_compStart_list loop (T.self _ 0 _ _ _ st4 loop)
theorem pe_comp (hc:X.calm=true) (hi:PI X (.Name x px) iter wi) (hk:scope.kind=.function) (hcell:∀ y∈scope.names,y.2≠.cell) (hnames:∀ y∈scope.names,y.2=.local->scope.names.lookup y.1=some .local) (hx:(relabel scope X.env).names.lookup x=some .local)
  (hclos:closureFor scope X.env=pure cl) (hcl1:∀ y c,cl.lookup y=some c->X.env.cells.lookup y=some c) (hcl2:∀ y,(y,NameKind.free)∈scope.names->∃ c,cl.lookup y=some c) (hjs:fi X scope js) (hnd:(bK X x js).Nodup)
  (ht:∀ s' H' fp,PIf (bo X scope cl (bK X x js) s' H' fp) ifs tc) (he:∀ s' H' fp,PE (bo X scope cl (bK X x js) s' H' fp) elt te)
  (hs:∀ x,foldedSetIterable iter X.env x=pure x:=by intro _;rfl):PE X (.ListComp elt [⟨.Name x px,iter,ifs,0⟩] scope pos) (iD wi tc te js):=by
 intro pins s σ H Q I h
 rw [eval_ListComp]
 refine wpAny_comprehension_free (use:=none) rfl hs hclos hk hnames (rV hc hi hk hcell hx hcl1 hcl2 hjs hnd ht he I h λD C H' s' I' fC hC q=>?_)
 obtain ⟨m,hm⟩:=hC
 refine ⟨m,hm,λh' sb=>?_⟩
 obtain ⟨f0,f1,f2,f3,f4,f5⟩:=fC
 exact ⟨.ref D,H',I'.turned (t':=s'.toks) (λb o hb e=>(sb.2 b hb).trans e) f0 f1 f3 f4 f5,rfl,q⟩
noncomputable def qV (i:Nat) (te:TE):TS:=λD σ H=>te σ H λv H1=>D.nx (σ.set i (some v)) H1
theorem ps_setC {y:Str} {i:Nat} {py spos:Pos} (hN:X.N.Nodup) (hy:X.N[i]?=some y) (hyl:Loc X.env.scope y) (hyf:X.fn y=true\/X.env.scope.names.lookup y=some .local)
  (hsw:swapsWith (.ListComp elt [⟨.Name x px,iter,ifs,0⟩] scope pos) (some (.Name y py)) spos.line X.env=pure true)
  (hc:X.calm=true) (hi:PI X (.Name x px) iter wi) (hk:scope.kind=.function) (hcell:∀ y∈scope.names,y.2≠.cell) (hnames:∀ y∈scope.names,y.2=.local->scope.names.lookup y.1=some .local) (hx:(relabel scope X.env).names.lookup x=some .local)
  (hclos:closureFor scope X.env=pure cl) (hcl1:∀ y c,cl.lookup y=some c->X.env.cells.lookup y=some c) (hcl2:∀ y,(y,NameKind.free)∈scope.names->∃ c,cl.lookup y=some c) (hjs:fi X scope js) (hnd:(bK X x js).Nodup)
  (ht:∀ s' H' fp,PIf (bo X scope cl (bK X x js) s' H' fp) ifs tc) (he:∀ s' H' fp,PE (bo X scope cl (bK X x js) s' H' fp) elt te)
  (hs:∀ x,foldedSetIterable iter X.env x=pure x:=by intro _;rfl) :
  PS X (.Assign [.Name y py] (.ListComp elt [⟨.Name x px,iter,ifs,0⟩] scope pos) spos) (qV i (iD wi tc te js)):=by
 intro pins s σ H D I h
 rw [exec_Assign_Name_used _ _ _ _ hsw]
 refine wpAny_bind (wpAny_standAt (wpAny_bind ?_))
 show wpAny _ _ (do let _ <- comprehension (.ListComp elt [⟨.Name x px,iter,ifs,0⟩] scope pos) scope X.env _ (newList []) false (eval iter X.env) (some (assign (.Name y py) X.env))) _ _ s
 refine wpAny_bind (wpAny_mono (wpAny_comprehension_free (use:=some (assign (.Name y py) X.env)) (Q:=λ_ s'=>SP X pins D .next s') rfl hs hclos hk hnames
  (rV hc hi hk hcell hx hcl1 hcl2 hjs hnd ht he I h λD' C H' s' I' fC hC q=>?_)) (λ_ s' hq=>wpAny_pure (wpAny_pure hq)) λ_ _ e=>e)
 obtain ⟨m,o,es,ep,ho,hd,hr⟩:=hC
 obtain ⟨f0,f1,f2,f3,f4,f5⟩:=fC
 have Ip:Inv X (pins++[(C,o)]) σ H' s':=I'.pins_of λp hp=>(List.mem_append.mp hp).elim (λz=>I'.pin p (List.mem_append_right _ z)) λz=>by
  have e:p=(C,o):=by simpa using z
  subst e
  exact ⟨ho,f0,f1,f2,λv z=>by rw [hd] at z;cases z⟩
 have hg:PG X (.Name y py) (rQ i):=aV hN hy hyl hyf
 refine thn (hg _ s' σ H' (.ref D') (.ref D') (fun σ' H''=>σ'=σ.set i (some (.ref D'))/\H''=H') Ip rfl ⟨rfl,rfl⟩) λ_ s'' q''=>?_
 obtain ⟨σ'',H'',I'',e1,e2⟩:=q''
 subst e1 e2
 have hp:=(I''.pin (C,o) (by simp)).1
 refine ⟨m,⟨o,es,ep,hp,hd,hr⟩,λh' sb=>?_⟩
 exact ⟨_,_,(I''.unpinned).turned (t':=s''.toks) (λb o hb e=>(sb.2 b hb).trans e) f0 f1 f3 f4 f5,q⟩
end
structure aD (K:PySem.W.Frag) (mg:Str->Option Value) (x:Str) (st:Stmt):Prop where
 ex:∃(f:Addr) (fd:FuncData),Fun K x x st f fd/\mg x=some (.ref f)
theorem aW {K:PySem.W.Frag} {h:Heap} {mg:Str->Option Value} {x:Str} {st:Stmt} {f:Addr} {oc kV doc pm cdv ct:Value} {od an:Option Addr} {osl:Array (Option Value)} (X:K.In h) (G:h.Ns mainGlobals mg)
  (a:PySem.W.nsIn K mainGlobals x=some (some (.ref f)))
  (l:K.lookup f=some ⟨oc,od,.func (PySem.W.fnOf x x (eY st) (bu st) (ah st) .none kV doc pm an cdv ct),osl⟩)
  (c:PySem.W.codeIn K cdv x=true) (k:PySem.W.keepIn K (.ref f)=true):aD K mg x st :=
 ⟨_,_,Ep l c k,PySem.W.mg_of X G a⟩
structure Def (P:Program) (w:World) (K:PySem.W.Frag) (mg:Str->Option Value) (base:Heap) (n:Nat) (x:Str) (ps:List Str) (sp:Sp):Prop where
 ex:∃(f:Addr) (fd:FuncData),mj P w K mg base CX0 n f fd ps sp/\Binds K fd ps []/\PySem.W.keepIn K (.ref f)=true/\mg x=some (.ref f)
section
variable {P:Program} {w:World} {K:PySem.W.Frag} {mg:Str->Option Value} {base:Heap}
theorem aN {x:Str} {st:Stmt} {N ps:List Str} {k:Nat} {sp:Sp} (T:aD K mg x st) (S:aA N ps (ah st))
  (bd:∀(kV doc pm:Value) (an:Option Addr) (cdv ct:Value) (us:List Value),us.length=ps.length->bindArgs (PySem.W.fnOf x x (eY st) (bu st) (ah st) .none kV doc pm an cdv ct) ⟨us,[]⟩=pure (ps.zip us))
  (len:∀ vs H Q E,sp vs H Q E->vs.length=ps.length)
  (body:∀(f:Addr) (cdv:Value) (A:Around) (outer:List Env) (s:Shared) (H:Hp) (vs:List V) (Q:VK) (E:XK),cX k (A.deeper (envOfC x (ah st) s.heap.objs.size f cdv))->sp vs H Q E->
   ∃ t,PSs (cS CX0 P w K mg base N x (ah st) f cdv A outer s H E).nox (bu st) t/\t {nx:=λ_ H'=>Q .non H',rt:=Q} (start N vs) H) :
  Def P w K mg base (k+1) x ps sp:=by
 obtain ⟨f,fd,F,m⟩:=T.ex
 exact ⟨f,fd,F.ok S len (body f),F.binds bd,F.kp,m⟩
end
section
variable {X:Cx} {n:Nat} {x:Str} {ps:List Str} {sp:Sp} {e a b:Expr} {es:List Expr} {t:TA} {ta tb:TE} {p pos:Pos}
theorem aH (D:Def X.prog X.w X.K X.mg X.base n x ps sp) (hr:cX n X.A) (hg:Gl X x) (ha:PA X (e::es) t) (hdb:(x == ("__debug__":Str))=false:=by decide)
  (he:starEach (e::es) X.env=(false,eval e X.env)::starEach es X.env:=by rfl) (hpl:(backTo pos (starEach es X.env)).any (·.1)=false:=by rfl) :
  PE X (.Call (.Name x p) (e::es) [] pos) (oO sp [] E0 t):=by
 obtain ⟨f,fd,F,b,kp,m⟩:=D.ex
 exact tH F hr hg m kp b .nil vy ha hdb he hpl
theorem bE:OpR X (binaryOp .Mult) (rI IntMulOk λi j=>.int (i*j)):=opI λ_ _ _ _ _ _ _ hc q=>PyProof.Rows.mul_int q hc
noncomputable def CDivK (_ j:Int):Prop:=j≠0/\j.natAbs.log2 < 9000
theorem jG:OpR X (binaryOp .FloorDiv) (rI CDivK λi j=>.int (i.fdiv j)):=opI λ_ _ _ _ _ _ _ hc q=>PyProof.Rows.floordiv_int hc.1 q (.inl (PyProof.noPylong_of_log2 hc.2))
theorem jQ:ft X (.builtin "isinstance") (λxs H Q=>∃(y:V) (c:V) (cv t:Value) (k:Bool),xs=[y,c]/\(∀ u,RelV c u->u=cv)/\jg X.K H y t/\PySem.W.kitOne X.K t cv=some k/\Q (.bl k) H):=by
 intro pins s σ H xs us Q I r h
 obtain ⟨y,c,cv,t,k,rfl,hc,ty,kt,q⟩:=h
 obtain ⟨u,w',rfl,r1,r2⟩:=vals2 r
 have e:=hc _ r2
 subst e
 exact Bi I r1 ty kt λtk=>⟨.bl k,H,I.tok tk,rfl,q⟩
end
open PySem.Calls PySem.W PySem.Builtin.Getset_descriptor
section
variable {prog:Program} {w:World} {A:Around} {E:Value->Shared->Prop} {s:Shared} {K:Frag} {x D:Addr}
end
section
variable {P:Program} {w:World} {H:Hp} {h:Heap} {a:Addr} {o:HO}
theorem cf.there (x:cf P w H h a o):∃ ob,h.get? a=some ob:=by
 cases o with
 | lst xs=>obtain ⟨_,_,_,_,e⟩:=x;exact ⟨_,e⟩
 | tup xs=>obtain ⟨_,_,_,⟨_,e,_⟩⟩:=x;exact ⟨_,e⟩
 | dK kvs=>obtain ⟨_,_,_,_,o,_,_,e,_⟩:=x;exact ⟨_,e⟩
 | dT kvs=>obtain ⟨_,_,_,_,o,_,_,e,_⟩:=x;exact ⟨_,e⟩
 | set S n=>obtain ⟨o,_,_,_,e,_⟩:=x;exact ⟨_,e⟩
 | ins C dx fs=>obtain ⟨_,_,_,e,_⟩:=x;exact ⟨_,e⟩
 | own y=>exact x
 | xd fs=>obtain ⟨_,⟨_,_,_,e,_⟩,_⟩:=x;exact ⟨_,e⟩
 | rng lo hi=>obtain ⟨_,_,_,e⟩:=x;exact ⟨_,e⟩
 | frz ob u=>obtain ⟨e,_⟩:=x;exact ⟨_,e⟩
 | tbl ps=>exact ⟨_,(show h.get? a=some _ from x)⟩
 | met f y=>exact ⟨_,(show h.get? a=some _ from x)⟩
 | ext φ=>obtain ⟨_,e,_⟩:=x;exact e
end
noncomputable def Flies (P:Program) (w:World) (outer:List Env) (H:Hp) (s:Shared) (ea:Addr) (C:Value) (H':Hp) (s':Shared):Prop:=∃(t:Addr) (B:Heap),
 s'.os=s.os/\AllBare s'.gens/\Un (frs outer) [] H H' s.heap s'.heap/\HOk P w H' s'.heap/\Heap.FlyingW B outer ea C (.ref t) s'.heap/\H' ea=none/\s.heap.get? ea=none/\
 ∀ b o,s'.heap.get? b=some o->b ∉ frs outer->((∃ u,H' b=some u)\/∃ o',s.heap.get? b=some o')->B.get? b=some o
noncomputable def CXr (P:Program) (w:World):CXT:=λouter H s E e s'=>∃(ea:Addr) (C:Value) (H':Hp),e=.ref ea/\Flies P w outer H s ea C H' s'/\E C none H'
theorem passr {P:Program} {w:World} {X:Cx}:Passes (CXr P w) X E0:=λ_ _ _ _ _ _ _ ⟨_,_,_,_,_,h⟩=>h.elim
section
variable {P:Program} {w:World} {K:PySem.W.Frag} {mg:Str->Option Value} {base:Heap} {N:List Str} {qual:Str} {scope:Scope} {f:Addr} {cd:Value} {A:Around} {outer:List Env} {s:Shared} {H:Hp} {E:XK}
theorem sU {pins:List (Addr×Obj)} {σ:St} {H1:Hp} {s₂:Shared} {h':Heap} {ea C:Addr} {vs:List Value} (I:Inv (cS (CXr P w) P w K mg base N qual scope f cd A outer s H E) pins σ H1 s₂)
  (hx:Heap.MadeExcOf s₂.heap h' ea (.ref C) vs) (q:E (.ref C) none H1):(cS (CXr P w) P w K mg base N qual scope f cd A outer s H E).xe (.ref ea) {s₂ with heap:=h' }:=by
 have hin:∀ en∈(envOfC qual scope s.heap.objs.size f cd::outer),∀ b,en.frame=some b->b∈frs (envOfC qual scope s.heap.objs.size f cd::outer):=λen he b hb=>List.mem_filterMap.mpr ⟨en,he,hb⟩
 show wpAny (model P w) (A.deeper (envOfC qual scope s.heap.objs.size f cd)) (leaving (envOfC qual scope s.heap.objs.size f cd) (.ref ea)) _ _ _
 refine wpAny_leaves_madeW (base:=PySem.W.hideAll s₂.heap (frs (envOfC qual scope s.heap.objs.size f cd::outer))) (h:=s₂.heap) I.ok.frames rfl (λb o z=>PySem.W.of_hideAll _ z) (PySem.W.funFrames_hide I.stack hin) hx λh'' t fl _ _ up=>?_
 have keepB:∀ b o,s₂.heap.get? b=some o->b ∉ frs (envOfC qual scope s.heap.objs.size f cd::outer)->h''.get? b=some o:=λb o e n=>fl.1 b o (PySem.W.hideAll_get _ e n)
 have notF:∀ b o,s.heap.get? b=some o->b ∉ frs outer->b ∉ frs (envOfC qual scope s.heap.objs.size f cd::outer):=λb o e n z =>
  (List.mem_cons.mp (I.stkSub b z)).elim (λz=>absurd (Nat.lt_of_lt_of_le (Heap.lt_size e) I.ok.above) (by rw [z];exact Nat.lt_irrefl _)) n
 have trk:∀ b u,H1 b=some u->b ∉ frs (envOfC qual scope s.heap.objs.size f cd::outer):=λb u e z=>by
  have:=I.stkFree b z
  rw [e] at this;cases this
 have ntrk:∀ b,s₂.heap.get? b=none->H1 b=none:=λb e=>by
  cases z:H1 b with
  | none=>rfl
  | some u=>obtain ⟨ob,e2⟩:=(I.hok b u z).there;rw [e] at e2;cases e2
 have hthere:∀ b o,s.heap.get? b=some o->∃ o',s₂.heap.get? b=some o':=λb o e=>I.base.there b o e (λz=>nomatch z)
 refine ⟨ea,.ref C,H1,rfl,⟨t,_,I.os,I.bare,⟨?_,?_,λb o e n z=>I.base.free b o e n z,?_,I.base.tups,I.base.frzs,I.base.tbls⟩,?_,fl,ntrk _ hx.new,?_,?_⟩,q⟩
 ·exact λb o e n hb z=>keepB b o (I.base.keep b o e n hb z) (notF b o e hb)
 ·intro b o e n hb z
  obtain ⟨sl,e1⟩:=I.base.slot b o e n hb z
  obtain ⟨_,o',e2,nf⟩:=I.ok.funs.mem hb
  have e3:some o'=some o:=e2.symm.trans e
  cases e3
  obtain ⟨sl',e4⟩:=up b _ (hx.keeps b _ e1) nf
  exact ⟨sl',e4⟩
 ·intro b o e z
  by_cases hb:b∈frs outer
  ·obtain ⟨sl,e1⟩:=I.base.slot b o e (I.ok.frf b hb) hb z
   obtain ⟨_,o',e2,nf⟩:=I.ok.funs.mem hb
   have e3:some o'=some o:=e2.symm.trans e
   cases e3
   obtain ⟨sl',e4⟩:=up b _ (hx.keeps b _ e1) nf
   exact ⟨_,e4⟩
  ·obtain ⟨o',e1⟩:=hthere b o e
   exact ⟨o',keepB b o' e1 (notF b o e hb)⟩
 ·intro b u e
  exact (I.hok b u e).stay (λc v hc e'=>keepB c v e' (hc.elim (λz=>by subst z;exact trk _ _ e) λz=>trk _ _ z)) (λ_ z=>z) λ_ _ z=>z
 ·cases z:s.heap.get? ea with
  | none=>rfl
  | some o=>obtain ⟨o',e⟩:=hthere ea o z;rw [hx.new] at e;cases e
 ·intro b o e n hb
  have key:∃ o2,s₂.heap.get? b=some o2/\b ∉ frs (envOfC qual scope s.heap.objs.size f cd::outer):=by
   rcases hb with ⟨u,hu⟩ | ⟨o',ho⟩
   ·obtain ⟨ob,e2⟩:=(I.hok b u hu).there
    exact ⟨ob,e2,trk b u hu⟩
   ·obtain ⟨o2,e2⟩:=hthere b o' ho
    exact ⟨o2,e2,notF b o' ho n⟩
  obtain ⟨o2,e2,n2⟩:=key
  have e3:=keepB b o2 e2 n2
  rw [e] at e3
  cases e3
  exact PySem.W.hideAll_get _ e2 n2
end
abbrev bmV:List Value:=[.type "ValueError",.type "Exception",.type "BaseException",.type "object"]
theorem exc_obj {K:Frag} {h:Heap} {C:Addr} {bmB:List Value} {newId:String} (X:K.In h) (q:excIn K C bmB newId=true) :
  ∃ bm N nm qn bs hd sn sub ab col dd k0 k1 k2 k3 k5 mN,h.get? C=some (excClassObj nm qn C N bs bm hd sn sub ab col dd k0 k1 k2 k3 k5 newId)/\h.Ns N mN/\mN "__init__"=none/\OwnTail h bmB bm:=by
 unfold excIn at q
 split at q
 ·rename_i d0 c0 sl0 lk
  split at q
  ·rename_i C1 bm1 j0 j1 j2 j3 n1 j5 em es
   simp only [Bool.not_eq_true',beq_iff_eq,Bool.and_eq_true] at q
   obtain ⟨⟨⟨⟨⟨e1,e2⟩,nodel⟩,tl⟩,ok⟩,ni⟩:=q
   subst e1 e2
   obtain ⟨nm1,bs1,mro1,ns1,qn1,hd1,sn1,sub1,ab1,col1,del1⟩:=c0
   dsimp only at em nodel ok ni
   subst em nodel
   have esl:sl0=#[j0,j1,j2,j3,some (.builtin n1),j5]:=by
    obtain ⟨l0⟩:=sl0
    simp only at es
    rw [es]
   subst esl
   exact ⟨_,_,_,_,_,_,_,_,_,_,_,_,_,_,_,_,_,X _ _ lk,.of_isNs (isNs_of_in X ok),nsMap_none_of_in X ok ni,tail_of_in X tl⟩
  ·cases q
 ·cases q
noncomputable def tRaise (C:Addr) (E:XK) (ta:TA):TS:=λ_ σ H=>ta σ H λvs H1=>vs.length<=sizeLine/\E (.ref C) none H1
section
variable {P:Program} {w:World} {K:Frag} {mg:Str->Option Value} {base:Heap} {N:List Str} {qual:Str} {scope:Scope} {f:Addr} {cd:Value} {A:Around} {outer:List Env} {s:Shared} {H:Hp} {E:XK}
theorem Dm {x:Str} {C:Addr} {e₀:Expr} {es:List Expr} {ta:TA} {np cpos pos:Pos} (hg:Gl (cS (CXr P w) P w K mg base N qual scope f cd A outer s H E) x) (hm:mg x=some (.ref C)) (q:excIn K C bmV "ValueError.__new__"=true)
  (ha:PA (cS (CXr P w) P w K mg base N qual scope f cd A outer s H E) (e₀::es) ta) (hdb:(x == ("__debug__":Str))=false:=by decide)
  (he:starEach (e₀::es) (envOfC qual scope s.heap.objs.size f cd)=(false,eval e₀ (envOfC qual scope s.heap.objs.size f cd))::starEach es (envOfC qual scope s.heap.objs.size f cd):=by rfl)
  (hpl:(backTo cpos (starEach (e₀::es) (envOfC qual scope s.heap.objs.size f cd))).any (·.1)=false:=by rfl) :
  PS (cS (CXr P w) P w K mg base N qual scope f cd A outer s H E) (.Raise (some (.Call (.Name x np) (e₀::es) [] cpos)) none pos) (tRaise C E ta):=by
 intro pins s₁ σ H1 D I h
 obtain ⟨bm,N1,nm,qn,bs,hd,sn,sub,ab,col,dd,k0,k1,k2,k3,k5,mN,gC,nN,ni,T⟩:=exc_obj I.mod.kin q
 refine wpAny_Raise_call_subT (C:=C) (nm:=nm) (q:=qn) (N:=N1) (bs:=bs) (bm:=bm) (hdct:=hd) (sn:=sn) (sub:=sub) (ab:=ab) (col:=col) (dd:=dd) (k0:=k0) (k1:=k1) (k2:=k2) (k3:=k3) (k5:=k5) F.excBase_ValueError (mN:=mN)
  (T.hasType F.excBase_ValueError.hasBase) (I.ok.hd rfl) hpl ni (kg I hg hm ⟨rfl,?_⟩ hdb)
 have hA:=ha cpos pins s₁ σ H1 _ I h
 have he':starEach (e₀::es) (cS (CXr P w) P w K mg base N qual scope f cd A outer s H E).env=(false,eval e₀ (cS (CXr P w) P w K mg base N qual scope f cd A outer s H E).env)::starEach es (cS (CXr P w) P w K mg base N qual scope f cd A outer s H E).env:=he
 rw [he'] at hA ⊢
 refine Calls.evalArgs_plain (thn hA λus s₂ z=>?_)
 obtain ⟨vs,H2,I2,r,z,q2⟩:=z
 exact ⟨rfl,by rw [<- r.length];exact z,I2.bk _ _ gC,nN.keeps I2.bk,T.keeps I2.bk,λh' e hx=>sU I2 hx q2⟩
end
structure wH (P:Program) (w:World) (K:Frag) (mg:Str->Option Value) (base:Heap) (n:Nat) (x:Str) (ps:List Str) (sp:Sp):Prop where
 ex:∃(f:Addr) (fd:FuncData),mj P w K mg base (CXr P w) n f fd ps sp/\Binds K fd ps []/\keepIn K (.ref f)=true/\mg x=some (.ref f)
theorem zK {P:Program} {w:World} {K:Frag} {mg:Str->Option Value} {base:Heap} {x:Str} {st:Stmt} {N ps:List Str} {k:Nat} {sp:Sp} (T:aD K mg x st) (S:aA N ps (ah st))
  (bd:∀(kV doc pm:Value) (an:Option Addr) (cdv ct:Value) (us:List Value),us.length=ps.length->bindArgs (fnOf x x (eY st) (bu st) (ah st) .none kV doc pm an cdv ct) ⟨us,[]⟩=pure (ps.zip us))
  (len:∀ vs H Q E,sp vs H Q E->vs.length=ps.length)
  (body:∀(f:Addr) (cdv:Value) (A:Around) (outer:List Env) (s:Shared) (H:Hp) (vs:List V) (Q:VK) (E:XK),cX k (A.deeper (envOfC x (ah st) s.heap.objs.size f cdv))->sp vs H Q E->
   ∃ t,PSs (cS (CXr P w) P w K mg base N x (ah st) f cdv A outer s H E) (bu st) t/\t {nx:=λ_ H'=>Q .non H',rt:=Q} (start N vs) H) :
  wH P w K mg base (k+1) x ps sp:=by
 obtain ⟨f,fd,F,m⟩:=T.ex
 obtain ⟨oc,od,kV,doc,pm,an,cdv,ct,osl,rfl,lk,hcd⟩:=id F.ex
 exact ⟨f,_,fn_of lk hcd S len λA outer s H vs Q E hr h=>body f cdv A outer s H vs Q E hr h,F.binds bd,F.kp,m⟩
theorem zg {X:Cx} {n:Nat} {x:Str} {ps:List Str} {sp:Sp} {e:Expr} {es:List Expr} {t:TA} {p pos:Pos} (D:wH X.prog X.w X.K X.mg X.base n x ps sp) (hr:cX n X.A) (hg:Gl X x) (ha:PA X (e::es) t)
  (hdb:(x == ("__debug__":Str))=false:=by decide) (he:starEach (e::es) X.env=(false,eval e X.env)::starEach es X.env:=by rfl) (hpl:(backTo pos (starEach es X.env)).any (·.1)=false:=by rfl) :
  PE X (.Call (.Name x p) (e::es) [] pos) (oO sp [] E0 t):=by
 obtain ⟨f,fd,F,b,kp,m⟩:=D.ex
 exact tH F hr hg m kp b .nil passr ha hdb he hpl
structure wO (K:Frag) (D:Addr):Prop where
 cl:∃ cd,clsIn K D=some cd
 ty:typeIn K (.ref D)=some (.type "type")
 hb:mroIn K D (.type "BaseException")=some true
section
variable {X:Cx} {pins:List (Addr×Obj)} {σ:St} {H H':Hp} {s s':Shared}
theorem Inv.caught {ea:Addr} {C:Value} (I:Inv X pins σ H s) {t:Addr} {B:Heap} {h6:Heap} {tk:Nat} (ho:s'.os=s.os) (hg:AllBare s'.gens) (un:Un (frs X.stack) [] H H' s.heap s'.heap) (hok:HOk X.prog X.w H' s'.heap)
  (cov:∀ b o,s'.heap.get? b=some o->b ∉ frs X.stack->((∃ u,H' b=some u)\/∃ o',s.heap.get? b=some o')->B.get? b=some o) (st:B.StaysIn h6) (up:s'.heap.UpToSlots h6):Inv X pins σ H' {s' with heap:=h6,toks:=tk}:=by
 have fr:=I.stack
 have frf:∀ b u,H' b=some u->b ∉ frs X.stack:=λb u e z=>by
  obtain ⟨_,o,e2,_⟩:=fr.mem z
  have q:=un.free b o e2 (I.stkFree b z) (by simp)
  rw [e] at q;cases q
 have slotK:∀ b o,s.heap.get? b=some o->b∈frs X.stack->∃ sl,h6.get? b=some {o with slots:=sl}:=λb o e hb=>by
  obtain ⟨_,o',e2,nf⟩:=fr.mem hb
  have e3:some o'=some o:=e2.symm.trans e
  cases e3
  obtain ⟨sl,e4⟩:=un.slot b _ e (I.stkFree b hb) hb (by simp)
  obtain ⟨sl',e5⟩:=up b _ e4 nf
  exact ⟨sl',e5⟩
 have u6:Un (frs X.stack) [] H H' s.heap h6:=by
  refine ⟨λb o e n hb hx=>st b o (cov b o (un.keep b o e n hb hx) hb (.inr ⟨o,e⟩)),λb o e n hb hx=>slotK b o e hb,un.free,λb o e hx=>?_,un.tups,un.frzs,un.tbls⟩
  by_cases hb:b∈frs X.stack
  ·obtain ⟨sl,z⟩:=slotK b o e hb
   exact ⟨_,z⟩
  ·obtain ⟨o',z⟩:=un.there b o e hx
   exact ⟨o',st b o' (cov b o' z hb (.inr ⟨o,e⟩))⟩
 have k6:HOk X.prog X.w H' h6:=λb u e=>(hok b u e).stay (λc z hc q=>by
  have tr:∃ v,H' c=some v:=hc.elim (λk=>⟨u,by rw [k];exact e⟩) λk=>⟨_,k⟩
  obtain ⟨v,hv⟩:=tr
  exact st c z (cov c z q (frf c v hv) (.inl ⟨v,hv⟩))) (λ_ z=>z) λ_ _ z=>z
 exact I.call' (s':={s' with heap:=h6,toks:=tk}) (ch:=[]) ho u6 k6 hg λb hb=>nomatch hb
end
section
variable {X:Cx}
theorem uc {env:Env}:∀(names:List (Str×NameKind)) (acc:List (Str×Addr)),(∀ y,(y,NameKind.free)∈names->∃ c,env.cells.lookup y=some c)->
  ∃ cl:List (Str×Addr),(forIn names acc (λx r=>match x with
    | (name,kind)=>if (kind == NameKind.free)=true then do let a <- cellOf env name;pure (ForInStep.yield ((name,a)::r)) else pure (ForInStep.yield r)):Sem _)=pure cl/\
   (∀ y c,cl.lookup y=some c->acc.lookup y=some c\/env.cells.lookup y=some c)/\(∀ y,(y,NameKind.free)∈names->∃ c,cl.lookup y=some c)/\∀ y,(∃ c,acc.lookup y=some c)->∃ c,cl.lookup y=some c
 | [],acc,_=>⟨acc,rfl,λ_ _ h=>.inl h,(λ_ h=>nomatch h),λ_ h=>h⟩
 | (nm,kd)::r,acc,h=>by
  by_cases hk:kd=.free
  ·subst hk
   obtain ⟨c,hc⟩:=h nm List.mem_cons_self
   obtain ⟨cl,e,p1,p2,p3⟩:=uc r ((nm,c)::acc) λy hy=>h y (List.mem_cons_of_mem _ hy)
   refine ⟨cl,?_,λy d hd=>?_,λy hy=>?_,λy hy=>?_⟩
   ·rw [List.forIn_cons]
    have z:cellOf env nm=pure c:=by unfold cellOf;rw [hc]
    simp only [z,beq_self_eq_true,if_true]
    exact e
   ·rcases p1 y d hd with q | q
    ·rw [List.lookup_cons] at q
     cases hy:y == nm with
     | true =>
      rw [hy] at q
      have e1:=beq_iff_eq.mp hy
      subst e1
      cases q
      exact .inr hc
     | false=>rw [hy] at q;exact .inl q
    ·exact .inr q
   ·rcases List.mem_cons.mp hy with q | q
    ·cases q
     exact p3 nm ⟨c,by rw [List.lookup_cons,beq_self_eq_true]⟩
    ·exact p2 y q
   ·obtain ⟨d,hd⟩:=hy
    refine p3 y ?_
    rw [List.lookup_cons]
    cases y == nm with
    | true=>exact ⟨c,rfl⟩
    | false=>exact ⟨d,hd⟩
  ·obtain ⟨cl,e,p1,p2,p3⟩:=uc r acc λy hy=>h y (List.mem_cons_of_mem _ hy)
   refine ⟨cl,?_,p1,λy hy=>?_,p3⟩
   ·rw [List.forIn_cons]
    have z:(kd == NameKind.free)=false:=by simpa using hk
    simp only [z,Bool.false_eq_true,if_false]
    exact e
   ·rcases List.mem_cons.mp hy with q | q
    ·cases q;exact absurd rfl hk
    ·exact p2 y q
theorem tZ {scope:Scope} {env:Env} (h:∀ y,(y,NameKind.free)∈scope.names->∃ c,env.cells.lookup y=some c) :
  ∃ cl,closureFor scope env=pure cl/\(∀ y c,cl.lookup y=some c->env.cells.lookup y=some c)/\∀ y,(y,NameKind.free)∈scope.names->∃ c,cl.lookup y=some c:=by
 obtain ⟨cl,e,p1,p2,_⟩:=uc (env:=env) scope.names [] h
 refine ⟨cl,?_,λy c hc=>(p1 y c hc).elim (λz=>by cases z) λz=>z,p2⟩
 unfold closureFor
 show (forIn scope.names [] _ >>= λs=>pure s)=pure cl
 rw [bind_pure]
 exact e
theorem oI {scope:Scope} {js:List Nat} {pins:List (Addr×Obj)} {σ:St} {H:Hp} {s:Shared} (I:Inv X pins σ H s) (hf:∀ y,(y,NameKind.free)∈scope.names->X.env.kindOf y=some .cell\/X.env.kindOf y=some .free) :
  ∀ y,(y,NameKind.free)∈scope.names->∃ c,X.env.cells.lookup y=some c:=λy hy=>I.ok.has y (hf y hy)
variable {elt iter:Expr} {x:Str} {px pos:Pos} {ifs:List Expr} {scope:Scope} {wi:TI} {tc:TT} {te:TE} {js:List Nat}
theorem eT (hc:X.calm=true) (hi:PI X (.Name x px) iter wi) (hk:scope.kind=.function) (hcell:∀ y∈scope.names,y.2≠.cell) (hnames:∀ y∈scope.names,y.2=.local->scope.names.lookup y.1=some .local) (hx:(relabel scope X.env).names.lookup x=some .local)
  (hf:∀ p∈scope.names,p.2=.free->X.env.kindOf p.1=some .cell\/X.env.kindOf p.1=some .free) (hjs:fi X scope js) (hnd:(bK X x js).Nodup)
  (ht:∀ cl s' H' fp,PIf (bo X scope cl (bK X x js) s' H' fp) ifs tc) (he:∀ cl s' H' fp,PE (bo X scope cl (bK X x js) s' H' fp) elt te)
  (hs:∀ x,foldedSetIterable iter X.env x=pure x:=by intro _;rfl):PE X (.ListComp elt [⟨.Name x px,iter,ifs,0⟩] scope pos) (iD wi tc te js):=by
 intro pins s σ H Q I h
 obtain ⟨cl,e,p1,p2⟩:=tZ (oI (js:=js) I λy hy=>hf (y,.free) hy rfl)
 exact pe_comp hc hi hk hcell hnames hx e p1 p2 hjs hnd (ht cl) (he cl) hs pins s σ H Q I h
theorem lM {y:Str} {i:Nat} {py spos:Pos} (hN:X.N.Nodup) (hy:X.N[i]?=some y) (hyl:Loc X.env.scope y) (hyf:X.fn y=true\/X.env.scope.names.lookup y=some .local)
  (hsw:swapsWith (.ListComp elt [⟨.Name x px,iter,ifs,0⟩] scope pos) (some (.Name y py)) spos.line X.env=pure true)
  (hc:X.calm=true) (hi:PI X (.Name x px) iter wi) (hk:scope.kind=.function) (hcell:∀ y∈scope.names,y.2≠.cell) (hnames:∀ y∈scope.names,y.2=.local->scope.names.lookup y.1=some .local) (hx:(relabel scope X.env).names.lookup x=some .local)
  (hf:∀ p∈scope.names,p.2=.free->X.env.kindOf p.1=some .cell\/X.env.kindOf p.1=some .free) (hjs:fi X scope js) (hnd:(bK X x js).Nodup)
  (ht:∀ cl s' H' fp,PIf (bo X scope cl (bK X x js) s' H' fp) ifs tc) (he:∀ cl s' H' fp,PE (bo X scope cl (bK X x js) s' H' fp) elt te)
  (hs:∀ x,foldedSetIterable iter X.env x=pure x:=by intro _;rfl) :
  PS X (.Assign [.Name y py] (.ListComp elt [⟨.Name x px,iter,ifs,0⟩] scope pos) spos) (qV i (iD wi tc te js)):=by
 intro pins s σ H D I h
 obtain ⟨cl,e,p1,p2⟩:=tZ (oI (js:=js) I λy hy=>hf (y,.free) hy rfl)
 exact ps_setC hN hy hyl hyf hsw hc hi hk hcell hnames hx e p1 p2 hjs hnd (ht cl) (he cl) hs pins s σ H D I h
end
theorem oJ:∀{ns:List Int} {n:Int},n∈ns->WData.weight (.int n)<=WData.weightAll (ns.map WData.int)
 | [],_,h=>nomatch h
 | m::r,n,h=>by
  show _<=WData.weight (.int m)+1+WData.weightAll (r.map WData.int)
  rcases List.mem_cons.mp h with e | e
  ·subst e;omega
  ·have:=oJ (ns:=r) e
   omega
theorem wy (n:Int):Builtin.Int.intBits n=WData.weight (.int n):=by
 show _=if n == 0 then 0 else n.natAbs.log2+1
 unfold Builtin.Int.intBits
 by_cases h:n=0
 ·subst h;rfl
 ·simp [h]
theorem uU {ns:List Int} (h:WData.layableAll [.list (ns.map .int)]=true):∀ n∈ns,Builtin.Int.intBits n<=1048576:=λn hn=>by
 have h1:WData.layable (.list (ns.map .int))=true:=by
  simpa [WData.layableAll] using h
 have h2:WData.weight (.list (ns.map .int))<=2 ^ 20:=by
  unfold WData.layable at h1
  rw [Bool.and_eq_true,Bool.and_eq_true] at h1
  exact of_decide_eq_true h1.2
 have h3:WData.weightAll (ns.map WData.int)<=2 ^ 20:=h2
 have h4:=oJ hn
 rw [wy]
 omega
theorem zY {l:OpenLaw} {n k:Nat} {q:Program} {loose:List Str} {XP:(Str->Option Value)->Heap->Prop} {YP:World->Heap->Prop} {d:DefRec} {K:Params->Frag} {CX:CXT} {sp:Frag->Sp} {x:Str}
  (hn:l.most=some n) (hn2:n<=sizeLine) (hdf:d.params.defaults=[]) (hr:cX k callerA) (hY:∀(w:World) (h:Heap),YP w h->(K w.params).In h)
  (F:∀(w:World) (mg:Str->Option Value) (fa:Addr) (h:Heap),(K w.params).In h->h.Ns mainGlobals mg->mg d.name=some (.ref fa)->
   ∃ fd:FuncData,(∀(s:Shared) (u:Value),BindsTo s fd ⟨[u],[]⟩ [(x,u)])/\∀ base:Heap,(K w.params).In base->base.Ns mainGlobals mg->mj l.prog w (K w.params) mg base CX k fa fd [x] (sp (K w.params)))
  (hsp:∀(K:Frag) (H:Hp) (a:Addr) (ns:List Int),ns.length<=n->(∀ m∈ns,Builtin.Int.intBits m<=1048576)->Only H->SqL K H a (ns.map V.int)->sp K [.ref a] H (λv _=>v=.bl true) λ_ _ _=>False)
  (hCX:∀(H:Hp) (s:Shared) (e:Value) (s':Shared),CX [] H s (λ_ _ _=>False) e s'->False):WalkO q loose XP YP l.row.toRowW d [] (λf vs=>PySem.call f vs):=by
 intro w s₀ s₁ mg mb G Y fa o pm cd doc dV kV ho hd hcd hD hmg hg args vals as hpre hlay hrd hwl hlo
 obtain rfl:dV=.none:=Dflts.none hD hdf
 obtain rfl:kV=.none:=Dflts.noKw hD
 obtain ⟨a,vs,ns,rfl,rfl,hobj,hints,hlen⟩:=Att.An hn hpre hwl
 have KX:=hY w _ Y
 obtain ⟨fd,hb,hF⟩:=F w mg fa _ KX G.T.g hmg
 have c:=Ea KX G.T.g G.T.b G.T.builtins G.T.nolimit hg hobj hints (Nat.le_trans hlen hn2) hr hF hb (λH hO hS=>hsp (K w.params) H a ns hlen (uU hlay) hO hS) λH e s'=>hCX H s₁ e s'
 refine enter_call (codeAny_mono c λr s' hq=>?_)
 obtain ⟨rfl,h2,h3,h4⟩:=hq
 exact ⟨.inl ⟨.bool true,.bool true,[],rfl,λ_=>rfl,.bool true,Att.Av l _,λ_=>⟨List.Pairwise.nil,λ_ hm=>(nomatch hm)⟩⟩,h2,h3,h4⟩
section
variable {κ:Type} [DecidableEq κ]
noncomputable def ee (kvs:List (κ×V)) (k:κ):Option V:=(kvs.find? λkv=>decide (kv.1=k)).map (·.2)
noncomputable def putK (kvs:List (κ×V)) (k:κ) (v:V):List (κ×V) :=
 if (kvs.any λkv=>decide (kv.1=k))=true then kvs.map (λkv=>if kv.1=k then (kv.1,v) else kv) else kvs++[(k,v)]
theorem cY {p:κ×V} {r:List (κ×V)} {k:κ} (e:p.1=k):ee (p::r) k=some p.2:=by simp [ee,List.find?_cons,e]
theorem cZ {p:κ×V} {r:List (κ×V)} {k:κ} (e:¬p.1=k):ee (p::r) k=ee r k:=by simp [ee,List.find?_cons,e]
theorem jn (k:κ):∀ kvs:List (κ×V),(kvs.any λkv=>decide (kv.1=k))=(ee kvs k).isSome
 | []=>rfl
 | p::r=>by
  rw [List.any_cons]
  by_cases e:p.1=k
  ·simp only [cY e,decide_eq_true e,Bool.true_or,Option.isSome_some]
  ·rw [cZ e,decide_eq_false e,Bool.false_or];exact jn k r
theorem uk (k j:κ) (y:V):∀ kvs:List (κ×V),ee (kvs.map λkv=>if kv.1=k then (kv.1,y) else kv) j=(ee kvs j).map λx=>if j=k then y else x
 | []=>rfl
 | p::r=>by
  have ih:=uk k j y r
  rw [List.map_cons]
  by_cases h:p.1=k
  ·rw [if_pos h]
   by_cases e:p.1=j
   ·rw [cY (p:=(p.1,y)) e,cY e,Option.map_some,if_pos (e.symm.trans h)]
   ·rw [cZ (p:=(p.1,y)) e,cZ e,ih]
  ·rw [if_neg h]
   by_cases e:p.1=j
   ·rw [cY (p:=p) e,cY e,Option.map_some,if_neg (λz=>h (e.trans z))]
   ·rw [cZ (p:=p) e,cZ e,ih]
theorem qT (k j:κ) (y:V):∀ kvs:List (κ×V),ee kvs k=none->ee (kvs++[(k,y)]) j=if j=k then some y else ee kvs j
 | [],_=>by
  by_cases e:k=j
  ·rw [if_pos e.symm];exact cY (p:=(k,y)) e
  ·rw [if_neg (λz=>e z.symm)];exact cZ (p:=(k,y)) e
 | p::r,hn=>by
  rw [List.cons_append]
  have hk:¬p.1=k:=λz=>by rw [cY z] at hn;cases hn
  rw [cZ hk] at hn
  have ih:=qT k j y r hn
  by_cases e:p.1=j
  ·rw [cY e,cY e,if_neg (λz=>hk (e.trans z))]
  ·rw [cZ e,cZ e,ih]
theorem iA (kvs:List (κ×V)) (k j:κ) (y:V):ee (putK kvs k y) j=if j=k then some y else ee kvs j:=by
 unfold putK
 by_cases a:(kvs.any λkv=>decide (kv.1=k))=true
 ·rw [if_pos a,uk]
  rw [jn] at a
  by_cases e:j=k
  ·obtain ⟨x,hx⟩:=Option.isSome_iff_exists.mp a
   rw [if_pos e,e,hx,Option.map_some,if_pos rfl]
  ·rw [if_neg e]
   cases ee kvs j with
   | none=>rfl
   | some x=>rw [Option.map_some,if_neg e]
 ·rw [if_neg a]
  refine qT k j y kvs ?_
  rw [jn] at a
  cases q:ee kvs k with
  | none=>rfl
  | some x=>rw [q] at a;exact (a rfl).elim
theorem jI (kvs:List (κ×V)) (k:κ) (v:V):(putK kvs k v).length<=kvs.length+1:=by
 unfold putK
 split
 ·rw [List.length_map];omega
 ·rw [List.length_append,List.length_cons,List.length_nil];omega
theorem Di {kvs:List (κ×V)} {k:κ} (v:V) (h:ee kvs k=none):putK kvs k v=kvs++[(k,v)]:=by
 unfold putK
 rw [jn,h]
 exact if_neg (by decide)
theorem kq.isSome_eq {o:Option V} {u:Option Value} (r:kq o u):o.isSome=u.isSome:=by
 cases o with
 | none=>cases u with
  | none=>rfl
  | some _=>exact (show False from r).elim
 | some _=>cases u with
  | none=>exact (show False from r).elim
  | some _=>rfl
theorem KV.val {kvs:List (κ×V)} {vs:List (κ×Value)} (r:KV kvs vs) (k:κ):kq (ee kvs k) (valueAt vs k):=by
 unfold KV at r
 induction r with
 | nil=>exact True.intro
 | @cons p q ps qs h t ih =>
  obtain ⟨h1,h2⟩:=h
  by_cases e:p.1=k
  ·have e':q.1=k:=h1.symm.trans e
   have b:valueAt (q::qs) k=some q.2:=by simp [valueAt,List.find?_cons,e']
   rw [cY e,b];exact h2
  ·have e':¬q.1=k:=λz=>e (h1.trans z)
   have b:valueAt (q::qs) k=valueAt qs k:=by simp [valueAt,List.find?_cons,e']
   rw [cZ e,b];exact ih
theorem KV.any {kvs:List (κ×V)} {vs:List (κ×Value)} (r:KV kvs vs) (k:κ):(kvs.any λkv=>decide (kv.1=k))=vs.any λkv=>decide (kv.1=k):=by
 unfold KV at r
 induction r with
 | nil=>rfl
 | cons h t ih=>rw [List.any_cons,List.any_cons,ih,h.1]
theorem KV.repl {kvs:List (κ×V)} {vs:List (κ×Value)} (r:KV kvs vs) (k:κ) {y:V} {u:Value} (ry:RelV y u) :
  KV (kvs.map λkv=>if kv.1=k then (kv.1,y) else kv) (vs.map λkv=>if kv.1=k then (kv.1,u) else kv):=by
 unfold KV at r ⊢
 induction r with
 | nil=>exact .nil
 | @cons p q ps qs h t ih =>
  rw [List.map_cons,List.map_cons]
  refine .cons ?_ ih
  obtain ⟨h1,h2⟩:=h
  by_cases e:p.1=k
  ·rw [if_pos e,if_pos (h1.symm.trans e)];exact ⟨h1,ry⟩
  ·rw [if_neg e,if_neg (λz=>e (h1.trans z))];exact ⟨h1,h2⟩
theorem KV.put {kvs:List (κ×V)} {vs:List (κ×Value)} (r:KV kvs vs) (k:κ) {y:V} {u:Value} (ry:RelV y u):KV (putK kvs k y) (stored vs k u):=by
 unfold putK stored
 rw [r.any k]
 by_cases e:(vs.any λkv=>decide (kv.1=k))=true
 ·rw [if_pos e,if_pos e];exact r.repl k ry
 ·rw [if_neg e,if_neg e];exact Paired.snoc r ⟨rfl,ry⟩
theorem KV.length {kvs:List (κ×V)} {vs:List (κ×Value)} (r:KV kvs vs):kvs.length=vs.length:=Paired.length r
end
theorem vX {P:Program} {w:World} {k:Key} {u:Value} (r:RelV (kV k) u):(cH P w).is k u=true:=by
 cases k with
 | inl i=>obtain ⟨t,e⟩:=(show ∃ t,u=Value.int i t from r);subst e;exact vS P w i t
 | inr x=>obtain ⟨t,e⟩:=(show ∃ t,u=Value.str x t from r);subst e;exact vR P w x t
theorem rM {P:Program} {w:World}:∀{ks:List Key} {us:List Value},Vals (ks.map kV) us->ItemsAre (cH P w) ks us
 | [],_,r=>by rw [List.map_nil] at r;cases r;exact .nil
 | k::ks,_,r=>by
  rw [List.map_cons] at r
  cases r with
  | cons h t=>exact .cons (vX h) (rM t)
noncomputable abbrev KT (H:Hp):List (List Key×V)->List (List Key×Addr×Value)->Prop:=Paired λp q=>p.1=q.1/\H q.2.1=some (.tup (p.1.map kV))/\RelV p.2 q.2.2
theorem KT.val {H:Hp} {kvs:List (List Key×V)} {xs:List (List Key×Addr×Value)} (r:KT H kvs xs) (k:List Key):kq (ee kvs k) ((atKey xs k).map (·.2)):=by
 induction r with
 | nil=>exact True.intro
 | @cons p q ps qs h t ih =>
  obtain ⟨h1,_,h2⟩:=h
  by_cases e:p.1=k
  ·have e':q.1=k:=h1.symm.trans e
   have b:atKey (q::qs) k=some q.2:=by simp [atKey,List.find?_cons,e']
   rw [cY e,b];exact h2
  ·have e':¬q.1=k:=λz=>e (h1.trans z)
   have b:atKey (q::qs) k=atKey qs k:=by simp [atKey,List.find?_cons,e']
   rw [cZ e,b];exact ih
theorem KT.repl {H:Hp} {kvs:List (List Key×V)} {xs:List (List Key×Addr×Value)} (r:KT H kvs xs) (k:List Key) {y:V} {u:Value} (ry:RelV y u) :
  KT H (kvs.map λkv=>if kv.1=k then (kv.1,y) else kv) (xs.map (putAt k u)):=by
 induction r with
 | nil=>exact .nil
 | @cons p q ps qs h t ih =>
  rw [List.map_cons,List.map_cons]
  refine .cons ?_ ih
  obtain ⟨h1,h2,h3⟩:=h
  unfold putAt
  by_cases e:p.1=k
  ·rw [if_pos e,if_pos (h1.symm.trans e)];exact ⟨h1,h2,ry⟩
  ·rw [if_neg e,if_neg (λz=>e (h1.trans z))];exact ⟨h1,h2,h3⟩
theorem KT.put {H:Hp} {kvs:List (List Key×V)} {xs:List (List Key×Addr×Value)} (r:KT H kvs xs) (k:List Key) {b:Addr} {y:V} {u:Value} (hb:H b=some (.tup (k.map kV))) (ry:RelV y u) :
  KT H (putK kvs k y) (storedH xs k b u):=by
 have e:(kvs.any λkv=>decide (kv.1=k))=(atKey xs k).isSome:=by
  rw [jn,(r.val k).isSome_eq,Option.isSome_map]
 unfold putK storedH
 rw [e]
 by_cases q:(atKey xs k).isSome=true
 ·rw [if_pos q,if_pos q];exact r.repl k ry
 ·rw [if_neg q,if_neg q];exact Paired.snoc r ⟨rfl,hb,ry⟩
theorem KT.keeps {H H':Hp} {kvs:List (List Key×V)} {xs:List (List Key×Addr×Value)} (r:KT H kvs xs) (ht:∀ b ys,H b=some (.tup ys)->H' b=some (.tup ys)):KT H' kvs xs :=
 Paired.mapP r λ_ _ z=>⟨z.1,ht _ _ z.2.1,z.2.2⟩
section
variable {P:Program} {w:World} {H:Hp} {h:Heap} {a:Addr}
theorem rd_of {u:HO} (ok:HOk P w H h) (e:Rd H a u):cf P w H h a u:=e.ok ok
theorem zJ {kvs:List (Key×V)} (ok:HOk P w H h) (e:Rd H a (.dK kvs)):kvs.length<=sizeLine/\(a == sysModules)=false/\∃ vs,KV kvs vs/\h.DictOf (cH P w) a vs :=
 show cf P w H h a (.dK kvs) from rd_of ok e
theorem dk_of {kvs:List (Key×V)} (ok:HOk P w H h) (e:H a=some (.dK kvs)):kvs.length<=sizeLine/\(a == sysModules)=false/\∃ vs,KV kvs vs/\h.DictOf (cH P w) a vs:=zJ ok (.inl e)
theorem tR {ks:List Key} (ok:HOk P w H h) (e:H a=some (.tup (ks.map kV))):(tupleKind (cH P w)).is h ks a:=by
 obtain ⟨_,its,r,o,h1,h2,n,h3⟩:=(show cf P w H h a (.tup (ks.map kV)) from ok a _ e)
 exact ⟨o,its.toArray,n,h1,h2,h3,by simpa using rM r⟩
theorem zH {kvs:List (List Key×V)} (ok:HOk P w H h) (e:Rd H a (.dT kvs)):kvs.length<=sizeLine/\(a == sysModules)=false/\
  ∃ xs,KT H kvs xs/\h.DictOfH (tupleKind (cH P w)) a xs:=by
 obtain ⟨z,y,xs,r,o,es,ep,h1,h2,h3,h4,h5⟩:=(show cf P w H h a (.dT kvs) from rd_of ok e)
 refine ⟨z,y,xs,r,o,es,ep,h1,h2,h3,h4,λx hx=>?_,h5⟩
 have all:∀{l:List (List Key×V)} {m:List (List Key×Addr×Value)},KT H l m->∀ x∈m,(tupleKind (cH P w)).is h x.1 x.2.1:=by
  intro l m q
  induction q with
  | nil=>intro x hx;exact nomatch hx
  | @cons p q ps qs hq t ih =>
   intro x hx
   rcases List.mem_cons.mp hx with e | hx
   ·subst e
    exact tR ok (by rw [<- hq.1];exact hq.2.1)
   ·exact ih x hx
 exact all r x hx
theorem dt_of {kvs:List (List Key×V)} (ok:HOk P w H h) (e:H a=some (.dT kvs)):kvs.length<=sizeLine/\(a == sysModules)=false/\
  ∃ xs,KT H kvs xs/\h.DictOfH (tupleKind (cH P w)) a xs:=zH ok (.inl e)
end
noncomputable def jk (H:Hp) (a:Addr) (y:V) (r:Option V):Prop :=
 (∃ kvs k,Rd H a (.dK kvs)/\y=kV k/\r=ee kvs k)\/∃ kvs k b,Rd H a (.dT kvs)/\y=.ref b/\H b=some (.tup (k.map kV))/\r=ee kvs k
noncomputable def EX (H:Hp) (a:Addr) (y v:V) (H':Hp):Prop :=
 (∃ kvs k,H a=some (.dK kvs)/\y=kV k/\kvs.length < sizeLine/\H'=upd H a (.dK (putK kvs k v)))\/
 ∃ kvs k b,H a=some (.dT kvs)/\y=.ref b/\H b=some (.tup (k.map kV))/\kvs.length < sizeLine/\H'=upd H a (.dT (putK kvs k v))
theorem jk.k {H:Hp} {a:Addr} {kvs:List (Key×V)} {k:Key} (e:H a=some (.dK kvs)):jk H a (kV k) (ee kvs k):=.inl ⟨kvs,k,.inl e,rfl,rfl⟩
theorem jk.t {H:Hp} {a b:Addr} {kvs:List (List Key×V)} {k:List Key} (e:H a=some (.dT kvs)) (eb:H b=some (.tup (k.map kV))):jk H a (.ref b) (ee kvs k):=.inr ⟨kvs,k,b,.inl e,rfl,eb,rfl⟩
theorem EX.t {H:Hp} {a b:Addr} {kvs:List (List Key×V)} {k:List Key} {v:V} (e:H a=some (.dT kvs)) (eb:H b=some (.tup (k.map kV))) (hl:kvs.length < sizeLine) :
  EX H a (.ref b) v (upd H a (.dT (putK kvs k v))):=.inr ⟨kvs,k,b,e,rfl,eb,hl,rfl⟩
section
variable {X:Cx} {pins:List (Addr×Obj)} {σ:St} {H:Hp} {s:Shared} {a:Addr} {y v:V} {u r:Value} {o:Option V} {A:Around} {E:Value->Shared->Prop}
theorem Inv.big (I:Inv X pins σ H s):sysModules < s.heap.objs.size:=by
 have h:mainGlobals < s.heap.objs.size:=(I.mod.glob.keeps I.bk).lt
 exact Nat.lt_trans (by decide) h
theorem Bp {Q:Value->Shared->Prop} (hu:A.units+1 < cLine) (I:Inv X pins σ H s) (g:jk H a y (some v)) (ry:RelV y u) (h:∀ w' s',Inv X pins σ H s'->RelV v w'->Q w' s') :
  wpAny (model X.prog X.w) A (getItem (.ref a) u) Q E s:=by
 rcases g with ⟨kvs,k,e,ey,l⟩ | ⟨kvs,k,b,e,ey,eb,l⟩
 ·subst ey
  obtain ⟨z,hd,vs,rel,dd⟩:=zJ I.hok e
  obtain ⟨w',hw,rw'⟩:=kq.some_of (v:=v) (o:=valueAt vs k) (by rw [l];exact rel.val k)
  exact wpAny_getItem_of (vX ry) dd.mapOf hw (h w' _ (I.tok _) rw')
 ·subst ey
  cases (show u=Value.ref b from ry)
  obtain ⟨z,hd,xs,rel,dd⟩:=zH I.hok e
  obtain ⟨w',hw,rw'⟩:=kq.some_of (v:=v) (o:=(atKey xs k).map (·.2)) (by rw [l];exact rel.val k)
  obtain ⟨p,hp,hp2⟩:=Option.map_eq_some_iff.mp hw
  refine wpAny_getItem_heap (tupleKind_room_in1 hu) (tR I.hok eb) dd hp ?_
  rw [hp2]
  exact h w' _ (I.tok _) rw'
theorem d_notIn {Q:Value->Shared->Prop} (hu:A.units+1 < cLine) (I:Inv X pins σ H s) (g:jk H a y o) (ry:RelV y u) (h:∀ s',Inv X pins σ H s'->Q (.bool (!o.isSome)) s') :
  wpAny (model X.prog X.w) A (compareOp .NotIn u (.ref a)) Q E s:=by
 rcases g with ⟨kvs,k,e,ey,l⟩ | ⟨kvs,k,b,e,ey,eb,l⟩
 ·subst ey
  obtain ⟨z,hd,vs,rel,dd⟩:=zJ I.hok e
  refine wpAny_notIn_of (vX ry) hd dd.mapOf ?_
  rw [<- (rel.val k).isSome_eq,<- l]
  exact h _ (I.tok _)
 ·subst ey
  cases (show u=Value.ref b from ry)
  obtain ⟨z,hd,xs,rel,dd⟩:=zH I.hok e
  refine wpAny_notIn_heap (tupleKind_room_in1 hu) (tR I.hok eb) hd dd ?_
  have q:=(rel.val k).isSome_eq
  rw [Option.isSome_map] at q
  rw [<- q,<- l]
  exact h _ (I.tok _)
theorem tX {h':Heap} {t':Nat} {ob:HO} (I:Inv X pins σ H s) (mu:Mut (H a)) (hs:Heap.SameBut a s.heap h') (he:∃ q,h'.get? a=some q) (new:cf X.prog X.w (upd H a ob) h' a ob) :
  Inv X pins σ (upd H a ob) {s with heap:=h',toks:=t' } :=
 I.write (x:=a) (e:=a) mu (.inl rfl) (λb q hb z=>(hs.2 b hb).trans z) he new
theorem Ez {P:Program} {w:World} {H':Hp} {h':Heap} {kvs:List (Key×V)} {vs:List (Key×Value)} (z:kvs.length<=sizeLine) (hd:(a == sysModules)=false) (rel:KV kvs vs) (dd:h'.DictOf (cH P w) a vs) :
  cf P w H' h' a (.dK kvs):=⟨z,hd,vs,rel,dd⟩
theorem Bo {H':Hp} {Q:Unit->Shared->Prop} (hu:A.units+1 < cLine) (I:Inv X pins σ H s) (g:EX H a y v H') (ry:RelV y u) (rv:RelV v r) (h:∀ s',Inv X pins σ H' s'->Q () s') :
  wpAny (model X.prog X.w) A (setItem (.ref a) u r) Q E s:=by
 rcases g with ⟨kvs,k,e,ey,l,eH⟩ | ⟨kvs,k,b,e,ey,eb,l,eH⟩
 ·subst ey eH
  obtain ⟨z,hd,vs,rel,dd⟩:=dk_of I.hok e
  have hz:vs.length<=sizeLine:=by rw [<- rel.length];exact z
  have hl:(putK kvs k v).length<=sizeLine:=by have:=jI kvs k v;omega
  refine wpAny_setItem_pairs (hsz:=hz) (vX ry) dd λh' dd' hs=>h _ ?_
  have he:∃ q,h'.get? a=some q:=let ⟨q,_,_,hq,_⟩:=dd';⟨q,hq⟩
  exact tX I (by rw [e];exact True.intro) hs he (Ez hl hd (rel.put k rv) dd')
 ·subst ey eH
  cases (show u=Value.ref b from ry)
  obtain ⟨z,hd,xs,rel,dd⟩:=dt_of I.hok e
  have hz:xs.length<=sizeLine:=by rw [<- Paired.length rel];exact z
  have hl:(putK kvs k v).length<=sizeLine:=by have:=jI kvs k v;omega
  refine wpAny_setItem_heap (hsz:=hz) (tupleKind_room_in1 hu) (tR I.hok eb) dd λh' dd' hs=>h _ ?_
  obtain ⟨q,es,ep,hq,h2,h3,h4,_,h5⟩:=dd'
  refine tX I (by rw [e];exact True.intro) hs ⟨q,hq⟩ ⟨hl,hd,_,(rel.put k eb rv).keeps λc ys ec=>?_,q,es,ep,hq,h2,h3,h4,h5⟩
  rw [au (pP ec e (λz=>nomatch z))]
  exact ec
end
section
variable {X:Cx} {pins:List (Addr×Obj)} {σ:St} {H:Hp} {s:Shared} {a:Addr} {kvs:List (Key×V)} {k:Key} {u:Value} {A:Around} {E:Value->Shared->Prop}
end
noncomputable def NoSl (i:Expr):Prop:=∀ ov iv,subscripted i false ov iv=operate [ov,iv] (getItem ov iv)
theorem subD_of {prog:Program} {w:World} {A:Around} {E:Value->Shared->Prop} {s:Shared} {env:Env} {value slice:Expr} {pos:Pos} {T id:String} {Q:Value->Shared->Prop}
  (hl:typeLookup (.type T) "__getitem__"=pure (some (.builtin id))) (hs:NoSl slice)
  (h:wpAny (model prog w) A (eval value env) (λo s₁=>wpAny (model prog w) A (eval slice env) (λi s₂=>s₂.TypeIs o T/\wpAny (model prog w) A (getItem o i) Q E s₂) E s₁) E s) :
  wpAny (model prog w) A (eval (.Subscript value slice pos) env) Q E s:=by
 refine Subscript_ (wpAny_mono h (λo s₁ h₁=>wpAny_mono h₁ (λi s₂ h₂=>?_) λ_ _ x=>x) λ_ _ x=>x)
 obtain ⟨hT,h₂⟩:=h₂
 unfold subscriptTail
 refine wpAny_bind ?_
 rw [getitemInPython_of_ne hT.not_modules]
 refine wpAny_bind (wpAny_specialOf hT hl ?_)
 have fin:wpAny (model prog w) A (subscripted slice false o i) (λr s₃=>wpAny (model prog w) A (letTemporaryGo value o r >>= λ_=>pure r) Q E s₃) E s₂:=by
  rw [hs o i]
  exact wpAny_operating (wpAny_mono h₂ (λr s₃ h₃=>wpAny_bind (wpAny_letTemporaryGo (wpAny_pure h₃))) λ_ _ x=>x)
 first
  | exact wpAny_pure (wpAny_bind fin)
  | exact wpAny_bind (wpAny_pure (wpAny_bind fin))
  | exact wpAny_bind fin
theorem wk {X:Cx} {pins:List (Addr×Obj)} {σ:St} {H:Hp} {s:Shared} {a:Addr} {y:V} {o:Option V} (I:Inv X pins σ H s) (g:jk H a y o):s.TypeIs (.ref a) "dict":=by
 rcases g with ⟨kvs,k,e,_,_⟩ | ⟨kvs,k,b,e,_,_,_⟩
 ·obtain ⟨_,_,vs,_,dd⟩:=zJ I.hok e
  exact dd.typeIs
 ·obtain ⟨_,_,xs,_,dd⟩:=zH I.hok e
  exact dd.typeIs
noncomputable def tDGet (td ty:TE):TE:=fun σ H Q=>td σ H λx H1=>ty σ H1 λy H2=>∃ a v,x=.ref a/\jk H2 a y (some v)/\Q v H2
noncomputable def tDNotIn (ty td:TE):TE:=fun σ H Q=>ty σ H λy H1=>td σ H1 λx H2=>∃ a o,x=.ref a/\jk H2 a y o/\Q (.bl (!o.isSome)) H2
noncomputable def sDPut (td ty tv:TE):TS:=λD σ H=>tv σ H λv H1=>td σ H1 λx H2=>ty σ H2 λy H3=>∃ a H4,x=.ref a/\EX H3 a y v H4/\D.nx σ H4
section
variable {X:Cx} {o i e value:Expr} {pos pos' tpos:Pos} {td ty tv:TE}
theorem oz (hu:X.A.units+1 < cLine) (ho:PE X o td) (hi:PE X i ty) (hs:NoSl i):PE X (.Subscript o i pos) (tDGet td ty):=by
 intro pins s σ H Q I h
 refine subD_of PySem.F.slot_dict_getitem.lookup hs (thn (ho pins s σ H _ I h) λu s1 zz=>?_)
 obtain ⟨x,H1,I1,rx,q1⟩:=zz
 refine thn (hi pins s1 σ H1 _ I1 q1) λiv s2 zz=>?_
 obtain ⟨y,H2,I2,ry,a,v,ex,g,q2⟩:=zz
 subst ex
 obtain rfl:u=Value.ref a:=rx
 exact ⟨wk I2 g,Bp hu I2 g ry λw' s3 I3 rw'=>⟨v,H2,I3,rw',q2⟩⟩
theorem Aw (hu:X.A.units+1 < cLine) (hi:PE X i ty) (ho:PE X o td):PC X .NotIn i o (tDNotIn ty td):=by
 intro pins s σ H Q I h
 refine thn (hi pins s σ H _ I h) λiv s1 zz=>?_
 obtain ⟨y,H1,I1,ry,q1⟩:=zz
 refine thn (ho pins s1 σ H1 _ I1 q1) λu s2 zz=>?_
 obtain ⟨x,H2,I2,rx,a,ov,ex,g,q2⟩:=zz
 subst ex
 obtain rfl:u=Value.ref a:=rx
 exact d_notIn hu I2 g ry λs3 I3=>⟨.bl (!ov.isSome),H2,I3,rfl,q2⟩
theorem ps_dput (hu:X.A.units+1 < cLine) (ho:PE X o td) (hi:PE X i ty) (hv:PE X value tv) (hs:swapsWith value (some (.Subscript o i pos')) pos.line X.env=pure false) :
  PS X (.Assign [.Subscript o i pos'] value pos) (sDPut td ty tv):=by
 intro pins s σ H D I h
 refine wpAny_Assign_Subscript (thn (hv pins s σ H _ I h) λr s1 zz=>?_) hs
 obtain ⟨v,H1,I1,rv,q1⟩:=zz
 refine thn (ho pins s1 σ H1 _ I1 q1) λu s2 zz=>?_
 obtain ⟨x,H2,I2,rx,q2⟩:=zz
 refine thn (hi pins s2 σ H2 _ I2 q2) λiv s3 zz=>?_
 obtain ⟨y,H3,I3,ry,a,H4,ex,g,q3⟩:=zz
 subst ex
 obtain rfl:u=Value.ref a:=rx
 exact Bo hu I3 g ry rv λs4 I4=>⟨σ,H4,I4,q3⟩
end
theorem wj {P:Program} {w:World} {H:Hp} (h:Heap) (hb:sysModules < h.objs.size):cf P w H (h.push {cls:=.type "dict",data:=.dict #[] }) h.objs.size (.dK []) :=
 ⟨Nat.zero_le _,beq_eq_false_iff_ne.mpr (Ne.symm (Nat.ne_of_lt hb)),[],.nil,Heap.DictOf.new h⟩
theorem Ey {P:Program} {w:World} {H:Hp} (h:Heap) (hb:sysModules < h.objs.size):cf P w H (h.push {cls:=.type "dict",data:=.dict #[] }) h.objs.size (.dT []) :=
 ⟨Nat.zero_le _,beq_eq_false_iff_ne.mpr (Ne.symm (Nat.ne_of_lt hb)),[],.nil,_,#[],0,Heap.get?_push_size _ rfl,⟨rfl,rfl,rfl⟩,rfl,rfl,List.nodup_nil⟩
noncomputable def Cd:TE:=λ_ H Q=>∀ p,H p=none->Q (.ref p) (upd H p (.dK []))
noncomputable def tDNewT:TE:=λ_ H Q=>∀ p,H p=none->Q (.ref p) (upd H p (.dT []))
section
variable {X:Cx} {pos:Pos}
theorem Dv:PE X (.Dict [] [] pos) Cd:=λpins s σ H Q I h =>
 wpAny_Dict_empty ⟨.ref s.heap.objs.size,_,I.laid (a:=s.heap.objs.size) (o:=.dK []) (t':=s.toks) (λ_ _ q=>Heap.get?_push_of_some _ q) (Nat.le_refl _) (wj s.heap I.big),rfl,h _ (I.hok.fresh (Nat.le_refl _))⟩
theorem Du:PE X (.Dict [] [] pos) tDNewT:=λpins s σ H Q I h =>
 wpAny_Dict_empty ⟨.ref s.heap.objs.size,_,I.laid (a:=s.heap.objs.size) (o:=.dT []) (t':=s.toks) (λ_ _ q=>Heap.get?_push_of_some _ q) (Nat.le_refl _) (Ey s.heap I.big),rfl,h _ (I.hok.fresh (Nat.le_refl _))⟩
end
noncomputable def xa:List (TE×TE)->St->Hp->(List (V×V)->Hp->Prop)->Prop
 | [],_,H,Q=>Q [] H
 | (tk,tv)::r,σ,H,Q=>tk σ H λx H1=>tv σ H1 λy H2=>xa r σ H2 λps H3=>Q ((x,y)::ps) H3
noncomputable abbrev VV:List (V×V)->List (Value×Value)->Prop:=Paired λp q=>RelV p.1 q.1/\RelV p.2 q.2
noncomputable def PPs (X:Cx) (pos:Pos) (keys:List (Option Expr)) (values:List Expr) (trs:List (TE×TE)):Prop :=
 ∀(
  pins:List (Addr×Obj)) (s:Shared) (σ:St) (H:Hp) (Q:List (V×V)->Hp->Prop),Inv X pins σ H s->xa trs σ H Q->
  wpAny (model X.prog X.w) X.A (evalPairs (pairTrees keys values X.env pos)) (λvs s'=>∃ ps H',Inv X pins σ H' s'/\VV ps vs/\Q ps H') X.xe s
theorem pps_nil {X:Cx} {pos:Pos}:PPs X pos [] [] []:=λpins s σ H Q I h=>pairTrees_nil_walk ⟨[],H,I,.nil,h⟩
theorem Dp {X:Cx} {pos:Pos} {k v:Expr} {ks:List (Option Expr)} {vs:List Expr} {tk tv:TE} {trs:List (TE×TE)} (hk:PE X k tk) (hv:PE X v tv) (hr:PPs X pos ks vs trs) :
  PPs X pos (some k::ks) (v::vs) ((tk,tv)::trs):=λpins s σ H Q I h =>
 pairTrees_cons_walk (thn (hk pins s σ H _ I h) λu s1 ⟨x,H1,I1,rx,q1⟩=>thn (hv pins s1 σ H1 _ I1 q1) λw2 s2 ⟨y,H2,I2,ry,q2⟩ =>
  thn (hr pins s2 σ H2 _ I2 q2) λws s3 ⟨ps,H3,I3,rel,q3⟩=>⟨(x,y)::ps,H3,I3,.cons ⟨rx,ry⟩ rel,q3⟩)
noncomputable def bG (kvs more:List (Key×V)):List (Key×V):=more.foldl (λacc kv=>putK acc kv.1 kv.2) kvs
theorem KV.merge:∀{more:List (Key×V)} {rs:List (Key×Value)} {kvs:List (Key×V)} {vs:List (Key×Value)},KV more rs->KV kvs vs->KV (bG kvs more) (merged vs rs):=by
 intro more rs kvs vs r
 unfold KV at r
 induction r generalizing kvs vs with
 | nil=>intro q;exact q
 | @cons p q ps qs h t ih =>
  intro r0
  have e:KV (putK kvs p.1 p.2) (stored vs q.1 q.2):=by
   have:=r0.put p.1 h.2
   rw [<- h.1];exact this
  exact ih e
theorem kB:∀(more kvs:List (Key×V)),(bG kvs more).length<=kvs.length+more.length
 | [],kvs=>by show kvs.length<=kvs.length+0;omega
 | p::r,kvs=>by
  have h1:=kB r (putK kvs p.1 p.2)
  have h2:=jI kvs p.1 p.2
  show (bG (putK kvs p.1 p.2) r).length<=_
  rw [List.length_cons];omega
theorem qr {P:Program} {w:World}:∀{kvs:List (Key×V)} {ws:List (Value×Value)},VV (kvs.map λkv=>(kV kv.1,kv.2)) ws->∃ rs,Carries (cH P w) ws rs/\KV kvs rs
 | [],_,r=>by rw [List.map_nil] at r;cases r;exact ⟨[],True.intro,.nil⟩
 | p::kvs,_,r=>by
  rw [List.map_cons] at r
  cases r with
  | @cons a b as bs h t =>
   obtain ⟨rs,c,q⟩:=qr (P:=P) (w:=w) t
   obtain ⟨b1,b2⟩:=b
   exact ⟨(p.1,b2)::rs,⟨vX h.1,rfl,c⟩,.cons ⟨rfl,h.2⟩ q⟩
noncomputable def tDisp (trs:List (TE×TE)):TE:=fun σ H Q=>∀ p,H p=none->xa trs σ (upd H p (.dK [])) λps H2=>H2 p=some (.dK [])/\∃ kvs:List (Key×V),ps=kvs.map (λkv=>(kV kv.1,kv.2))/\kvs.length<=15/\Q (.ref p) (upd H2 p (.dK (bG [] kvs)))
theorem pe_disp {X:Cx} {pos:Pos} {keys:List (Option Expr)} {values:List Expr} {trs:List (TE×TE)} (h:PPs X pos keys values trs) (hall:keys.all (·.isSome)=true) (hl:keys.length=values.length) (h0:keys≠[])
  (h15:keys.length<=15):PE X (.Dict keys values pos) (tDisp trs):=by
 intro pins s σ H Q I q
 have hn:=I.hok.fresh (Nat.le_refl s.heap.objs.size)
 have I1:=I.laid (a:=s.heap.objs.size) (o:=.dK []) (h':=s.heap.push {cls:=.type "dict",data:=.dict #[] }) (t':=s.toks) (λ_ _ q=>Heap.get?_push_of_some _ q) (Nat.le_refl _) (wj s.heap I.big)
 refine wpAny_Dict_walk (knd:=cH X.prog X.w) hall hl h0 h15 (thn (h pins _ σ _ _ I1 (q _ hn)) λws s2 zz=>?_)
 obtain ⟨ps,H2,I2,rel,e,kvs,ep,lk,q2⟩:=zz
 subst ep
 obtain ⟨rs,c,rk⟩:=qr (P:=X.prog) (w:=X.w) rel
 obtain ⟨z,hd,vs0,r0,dd⟩:=dk_of I2.hok e
 cases r0
 refine ⟨rs,c,dd,λh' dd' hs=>⟨.ref s.heap.objs.size,_,?_,rfl,q2⟩⟩
 have hz:(bG [] kvs).length<=sizeLine:=by
  have h1:=kB kvs []
  rw [List.length_nil] at h1
  rw [sizeLine_eq];omega
 have he:∃ q,h'.get? s.heap.objs.size=some q:=let ⟨q,_,_,hq,_⟩:=dd';⟨q,hq⟩
 exact tX I2 (by rw [e];exact True.intro) hs he (Ez hz hd (rk.merge .nil) dd')
section
variable {X:Cx} {pins:List (Addr×Obj)} {σ:St} {H:Hp} {s:Shared} {a:Addr} {y d:V} {u r:Value} {o:Option V} {A:Around} {E:Value->Shared->Prop}
end
section
variable {X:Cx} {o e f:Expr} {apos cpos:Pos} {td ty tx:TE}
end
section
variable {X:Cx} {pins:List (Addr×Obj)} {σ:St} {H:Hp} {s:Shared} {a:Addr} {kvs:List (Key×V)} {A:Around} {E:Value->Shared->Prop}
end
section
variable {X:Cx} {pins:List (Addr×Obj)} {σ:St} {H:Hp} {s:Shared} {a:Addr} {y:V} {u:Value} {A:Around} {E:Value->Shared->Prop}
end
section
variable {prog:Program} {w:World} {A:Around} {E:Value->Shared->Prop} {s:Shared} {R:Result->Shared->Prop} {l it S:Addr} {items:Array Value}
end
structure aT (P:Program) (w:World) (K:PySem.W.Frag) (mg:Str->Option Value) (base:Heap) (C:Addr) (m:Str) (k:Nat) (ps:List Str) (sp:Sp):Prop where
 cl:Cls K C
 ex:∃(f:Addr) (fd:FuncData),Meth K C m f/\mj P w K mg base CX0 k f fd ps sp/\Binds K fd ps []
section
variable {X:Cx} {o e:Expr} {es:List Expr} {ta te:TE} {t:TA} {m x:Str} {k:Nat} {p pos apos p2 pos2:Pos} {C:Addr}
noncomputable def Cc (X:Cx) (k:Nat) (m:Str) (ta:TE) (t:TA):TE:=fun σ H Q=>ta σ H λx H1=>∃(a C dx:Addr) (fs:List (Str×V)) (ps:List Str) (sp:Sp),x=.ref a/\H1 a=some (.ins C dx fs)/\fs.lookup m=none/\
 aT X.prog X.w X.K X.mg X.base C m k ps sp/\t σ H1 λvs H2=>sp (.ref a::vs) H2 Q E0
theorem dA {pl:Sem Bool} (he:PE X o ta) (hr:cX k X.A)
  (ht:eval (.Call (.Attribute o m apos) [] [] pos) X.env=(do
   let ov <- eval o X.env
   standAt apos.atName
   let (f,first) <- holding [ov] (getMethod ov m pl)
   callWith pos f first (backTo pos (starEach [] X.env)) (backToKw pos (keywordEach [] X.env))):=by rfl) :
  PE X (.Call (.Attribute o m apos) [] [] pos) (Cc X k m ta nM):=by
 intro pins s σ H Q I h
 refine PySem.W.methodCall_KW (pl:=pl) (thn (he pins s σ H _ I h) λu s1 zz=>?_) ht
 obtain ⟨y,H1,I1,ry,a,C,dx,fs,ps,sp,ey,ea,lo,M,q⟩:=zz
 subst ey
 have eu:u=Value.ref a:=ry
 subst eu
 obtain ⟨f,fd,hm,G,hb⟩:=M.ex
 refine qa I1 ea M.cl hm lo ?_
 exact PySem.W.callWith_K0 (first:=[.ref a]) I1.kIn hm.kp (sP (us:=[.ref a]) (vs:=[.ref a]) G hr hb .nil vy I1 (.cons rfl .nil) q)
theorem pM {pl:Sem Bool} (he:PE X o ta) (hr:cX k X.A) (ha:PA X (e::es) t)
  (hst:starEach (e::es) X.env=(false,eval e X.env)::starEach es X.env:=by rfl) (hpl:(backTo pos (starEach es X.env)).any (·.1)=false:=by rfl)
  (ht:eval (.Call (.Attribute o m apos) (e::es) [] pos) X.env=(do
   let ov <- eval o X.env
   standAt apos.atName
   let (f,first) <- holding [ov] (getMethod ov m pl)
   callWith pos f first (backTo pos (starEach (e::es) X.env)) (backToKw pos (keywordEach [] X.env))):=by rfl) :
  PE X (.Call (.Attribute o m apos) (e::es) [] pos) (Cc X k m ta t):=by
 intro pins s σ H Q I h
 refine PySem.W.methodCall_KW (pl:=pl) (thn (he pins s σ H _ I h) λu s1 zz=>?_) ht
 obtain ⟨y,H1,I1,ry,a,C,dx,fs,ps,sp,ey,ea,lo,M,q⟩:=zz
 subst ey
 have eu:u=Value.ref a:=ry
 subst eu
 obtain ⟨f,fd,hm,G,hb⟩:=M.ex
 refine qa I1 ea M.cl hm lo ?_
 refine PySem.W.callWith_K (first:=[.ref a]) (h₀:=X.base) I.ok.mod.kin hm.kp (thn (ha pos pins s1 σ H1 _ I1 q) λus s2 zz=>?_) hst hpl
 obtain ⟨vs,H2,I2,r2,q2⟩:=zz
 refine ⟨I2.kIn,?_⟩
 refine sP (us:=.ref a::us) (vs:=.ref a::vs) (dvs:=[]) G hr hb .nil vy I2 (.cons rfl r2) ?_
 rw [List.append_nil]
 exact q2
structure Mk0 (K:PySem.W.Frag) (C:Addr):Prop where
 makes:PySem.W.makesIn K C=true
 init:PySem.W.findIn K (.ref C) "__init__"=some (some (.builtin "object.__init__"))
 kp:PySem.W.keepIn K (.ref C)=true
noncomputable def tMakeN (C:Addr):TE:=λ_ H Q=>∀ a dx,H a=none->H dx=none->dx≠a->Q (.ref a) (upd (upd H dx (.own a)) a (.ins C dx []))
theorem vw (M:Mk0 X.K C) (hg:Gl X x) (hm:X.mg x=some (.ref C)) (hdb:(x == ("__debug__":Str))=false:=by decide):PE X (.Call (.Name x p) [] [] pos) (tMakeN C):=by
 intro pins s σ H Q I h
 refine wpAny_Call_Name_kw (kg I hg hm ?_ hdb)
 refine PySem.W.callWith_K0 I.kIn M.kp (wpAny_call ?_)
 have Y:=PySem.W.makes_of (M:=model X.prog X.w) I.kIn M.makes
 refine Bc I.kIn M.makes M.init (λself=>PySem.W.Looks.of_pure (PySem.W.oi_bind self)) ?_
 have I2:=Inv.made (C:=C) I
 have e2:((s.heap.push PySem.W.emptyDict).push (PySem.W.instObj C s.heap.objs.size)).get? (s.heap.objs.size+1)=some (PySem.W.instObj C s.heap.objs.size):=by
  have z:=Heap.get?_push_size (s.heap.push PySem.W.emptyDict) (o:=PySem.W.instObj C s.heap.objs.size) rfl
  rwa [Heap.size_push] at z
 have t1:PySem.W.Looks (model X.prog X.w) ((s.heap.push PySem.W.emptyDict).push (PySem.W.instObj C s.heap.objs.size)) (typeOf (.ref (s.heap.objs.size+1))) (.ref C):=(PySem.W.Looks.ld e2).andThen .now
 have t2:PySem.W.Looks (model X.prog X.w) ((s.heap.push PySem.W.emptyDict).push (PySem.W.instObj C s.heap.objs.size)) (isInstance (.ref (s.heap.objs.size+1)) (.type "object")) true :=
  t1.andThen (Y.top.keeps λb q z=>Heap.get?_push_of_some _ (Heap.get?_push_of_some _ z))
 have z:=h (s.heap.objs.size+1) s.heap.objs.size (I.hok.fresh (Nat.le_succ _)) (I.hok.fresh (Nat.le_refl _)) (Nat.ne_of_lt (Nat.lt_succ_self _))
 refine codeAny_call_builtin PySem.W.oi_plain PySem.W.entry_oi (PySem.W.check_slot (i:="object.__init__") (owner:="object") (n:="__init__") (self:=.ref (s.heap.objs.size+1)) (rest:=[]) (kw:=[]) PySem.W.oi_kind PySem.W.oi_split t2 (PySem.W.oi_args _) ?_)
 rw [PySem.W.oi_run]
 exact wpAny_pure (And.intro rfl ⟨V.ref (s.heap.objs.size+1),_,I2,rfl,z⟩)
end
end L2
namespace Mine
open PySem
inductive W5 where
 | more | less | greater | lesser | leads
noncomputable def W5.str:W5->Str
 | .more=>"more" | .less=>"less" | .greater=>"greater" | .lesser=>"lesser" | .leads=>"leads"
inductive Tr where
 | never | always | lp | lq
 | no (t:Tr)
 | fold (w:W5) (a b:Tr)
noncomputable def Tr.size:Tr->Nat
 | .no t=>t.size+1
 | .fold _ a b=>a.size+b.size+1
 | _=>1
theorem Tr.size_pos:∀ t:Tr,1<=t.size
 | .never | .always | .lp | .lq=>Nat.le_refl _
 | .no _=>Nat.le_add_left _ _
 | .fold _ _ _=>Nat.le_add_left _ _
noncomputable def W5.worth (w:W5) (n a b:Int):Int:=match w with
 | .more=>min (a+b) n
 | .less=>max (a+b - n) 0
 | .greater=>max a b
 | .lesser=>min a b
 | .leads=>min (n - a+b) n
structure Alg (α:Type) where
 leaf:Tr->α
 no:α->α
 fold:W5->α->α->α
noncomputable def Alg.val {α:Type} (G:Alg α):Tr->α
 | .no t=>G.no (G.val t)
 | .fold w a b=>G.fold w (G.val a) (G.val b)
 | t=>G.leaf t
noncomputable def Tr.post:Tr->List Tr
 | .no t=>t.post++[.no t]
 | .fold w a b=>a.post++b.post++[.fold w a b]
 | t=>[t]
theorem eS:∀ t:Tr,t.post.length=t.size
 | .no t=>by simp [Tr.post,Tr.size,eS t]
 | .fold w a b=>by simp [Tr.post,Tr.size,eS a,eS b];omega
 | .never=>rfl
 | .always=>rfl
 | .lp=>rfl
 | .lq=>rfl
noncomputable def Alg.step {α:Type} (G:Alg α):List α->Tr->Option (List α)
 | a::R,.no _=>some (G.no a::R)
 | b::a::R,.fold w _ _=>some (G.fold w a b::R)
 | [],.no _=>none
 | [],.fold _ _ _=>none
 | [_],.fold _ _ _=>none
 | R,t=>some (G.leaf t::R)
noncomputable def Alg.run {α:Type} (G:Alg α):List α->List Tr->Option (List α)
 | R,[]=>some R
 | R,t::r=>(G.step R t).bind λR'=>G.run R' r
theorem lJ {α:Type} (G:Alg α):∀(t:Tr) (R:List α) (r:List Tr),G.run R (t.post++r)=G.run (G.val t::R) r
 | .no t,R,r=>by
  show G.run R (t.post++[.no t]++r)=_
  rw [List.append_assoc,lJ G t R]
  cases R <;> rfl
 | .fold w a b,R,r=>by
  show G.run R (a.post++b.post++[.fold w a b]++r)=_
  rw [List.append_assoc,List.append_assoc,lJ G a R,lJ G b _]
  cases R <;> rfl
 | .never,R,r=>by cases R with
  | nil=>rfl
  | cons a R=>cases R <;> rfl
 | .always,R,r=>by cases R with
  | nil=>rfl
  | cons a R=>cases R <;> rfl
 | .lp,R,r=>by cases R with
  | nil=>rfl
  | cons a R=>cases R <;> rfl
 | .lq,R,r=>by cases R with
  | nil=>rfl
  | cons a R=>cases R <;> rfl
theorem run_all {α:Type} (G:Alg α) (t:Tr):G.run [] t.post=some [G.val t]:=by
 have h:=lJ G t [] []
 rw [List.append_nil] at h
 rw [h]
 rfl
noncomputable def gG (n x y:Int):Alg Int where
 leaf:=λt=>match t with
  | .always=>n
  | .lp=>x
  | .lq=>y
  | _=>0
 no:=λa=>n - a
 fold:=λw a b=>w.worth n a b
noncomputable abbrev Tr.worth (n x y:Int) (t:Tr):Int:=(gG n x y).val t
end Mine
namespace L2
open PySem PySem.Spec PyProof.Rows
mutual
noncomputable def Dat (K:PySem.W.Frag) (H:Hp):PyData->V->Prop
 | .none,v=>v=.non
 | .bool b,v=>v=.bl b
 | .int i,v=>v=.int i
 | .str x,v=>v=.str x
 | .tuple ds,v=>∃ a xs,v=.ref a/\SqT K H a xs/\DatAll K H ds xs
 | .list _,_=>False
 | .dict _,_=>False
noncomputable def DatAll (K:PySem.W.Frag) (H:Hp):List PyData->List V->Prop
 | [],xs=>xs=[]
 | d::ds,xs=>∃ x r,xs=x::r/\Dat K H d x/\DatAll K H ds r
end
structure Tst (H H':Hp):Prop where
 t:∀ b xs,H b=some (.tup xs)->H' b=some (.tup xs)
 f:∀ b o u,H b=some (.frz o u)->H' b=some (.frz o u)
theorem aI.ts {H H':Hp} (e:aI H H'):Tst H H':=⟨λb xs h=>e b _ h,λb o u h=>e b _ h⟩
theorem dF {H:Hp} {l:Addr} {xs:List V} {o:HO} (e:H l=some (.lst xs)):Tst H (upd H l o) :=
 ⟨λb ys h=>by rw [au (pP h e (by intro z;cases z))];exact h,λb o u h=>by rw [au (pP h e (by intro z;cases z))];exact h⟩
theorem SqT.ts {K:PySem.W.Frag} {H H':Hp} {a:Addr} {xs:List V} (h:SqT K H a xs) (e:Tst H H'):SqT K H' a xs:=by
 rcases h with (h | ⟨o,h⟩) | h
 ·exact .inl (.inl (e.t _ _ h))
 ·exact .inl (.inr ⟨o,e.f _ _ _ h⟩)
 ·exact .inr h
mutual
theorem Dat.ts {K:PySem.W.Frag} {H H':Hp} (e:Tst H H'):∀{d:PyData} {v:V},Dat K H d v->Dat K H' d v
 | .none,_,h=>h
 | .bool _,_,h=>h
 | .int _,_,h=>h
 | .str _,_,h=>h
 | .tuple _,_,⟨a,xs,h1,h2,h3⟩=>⟨a,xs,h1,h2.ts e,DatAll.ts e h3⟩
 | .list _,_,h=>h
 | .dict _,_,h=>h
theorem DatAll.ts {K:PySem.W.Frag} {H H':Hp} (e:Tst H H'):∀{ds:List PyData} {xs:List V},DatAll K H ds xs->DatAll K H' ds xs
 | [],_,h=>h
 | _::_,_,⟨x,r,h1,h2,h3⟩=>⟨x,r,h1,Dat.ts e h2,DatAll.ts e h3⟩
end
theorem DatAll.len {K:PySem.W.Frag} {H:Hp}:∀{ds:List PyData} {xs:List V},DatAll K H ds xs->xs.length=ds.length
 | [],_,h=>by subst h;rfl
 | _::_,_,⟨x,r,h1,_,h3⟩=>by subst h1;simp [h3.len]
theorem DatAll.get {K:PySem.W.Frag} {H:Hp}:∀{ds:List PyData} {xs:List V} {i:Nat} {d:PyData},DatAll K H ds xs->ds[i]?=some d->∃ x,xs[i]?=some x/\Dat K H d x
 | [],_,_,_,_,e=>by cases e
 | _::_,_,0,_,⟨x,r,h1,h2,_⟩,e=>by subst h1;cases e;exact ⟨x,rfl,h2⟩
 | _::_,_,i+1,_,⟨x,r,h1,_,h3⟩,e=>by
  subst h1
  obtain ⟨y,e1,e2⟩:=h3.get (i:=i) (by simpa using e)
  exact ⟨y,by simpa using e1,e2⟩
theorem DatAll.get' {K:PySem.W.Frag} {H:Hp} {ds:List PyData} {xs:List V} {i:Nat} {x:V} (h:DatAll K H ds xs) (e:xs[i]?=some x):∃ d,ds[i]?=some d/\Dat K H d x:=by
 have hl:=h.len
 have hi:=(List.getElem?_eq_some_iff.mp e).1
 have hd:ds[i]?=some (ds[i]'(by omega)):=List.getElem?_eq_getElem (by omega)
 obtain ⟨y,e1,e2⟩:=h.get hd
 rw [e] at e1
 cases e1
 exact ⟨_,hd,e2⟩
theorem DatAll.append {K:PySem.W.Frag} {H:Hp}:∀{ds es:List PyData} {xs ys:List V},DatAll K H ds xs->DatAll K H es ys->DatAll K H (ds++es) (xs++ys)
 | [],_,_,_,h,g=>by subst h;exact g
 | _::_,_,_,_,⟨x,r,h1,h2,h3⟩,g=>by subst h1;exact ⟨x,_,rfl,h2,h3.append g⟩
theorem DatAll.snoc {K:PySem.W.Frag} {H:Hp} {ds:List PyData} {xs:List V} {d:PyData} {x:V} (h:DatAll K H ds xs) (g:Dat K H d x):DatAll K H (ds++[d]) (xs++[x]):=h.append ⟨x,[],rfl,g,rfl⟩
mutual
theorem Dat.reads {X:Cx} {pins:List (Addr×Obj)} {σ:St} {H:Hp} {s:Shared} (I:Inv X pins σ H s):∀(d:PyData) {v:V} {u:Value},Dat X.K H d v->RelV v u->∃ as,Reads s.heap u d as
 | .none,_,_,h,r=>by
  cases (show _=V.non from h)
  cases (show _=Value.none from r)
  exact ⟨[],.none⟩
 | .bool b,_,_,h,r=>by
  cases (show _=V.bl b from h)
  cases (show _=Value.bool b from r)
  exact ⟨[],.bool b⟩
 | .int i,_,_,h,r=>by
  cases (show _=V.int i from h)
  obtain ⟨t,q⟩:=(show ∃ t,_=Value.int i t from r)
  cases q
  exact ⟨[],.int i t⟩
 | .str x,_,_,h,r=>by
  cases (show _=V.str x from h)
  obtain ⟨t,q⟩:=(show ∃ t,_=Value.str x t from r)
  cases q
  exact ⟨[],.str x t⟩
 | .tuple ds,_,_,⟨a,xs,h1,h2,h3⟩,r=>by
  cases h1
  cases (show _=Value.ref a from r)
  obtain ⟨its,rv,⟨o,ho,hc,n,hd⟩,_⟩:=I.tuple h2
  obtain ⟨as,ra⟩:=DatAll.reads I ds h3 rv
  exact ⟨as,.tuple ho hc hd (by simpa using ra)⟩
 | .list _,_,_,h,_=>False.elim h
 | .dict _,_,_,h,_=>False.elim h
theorem DatAll.reads {X:Cx} {pins:List (Addr×Obj)} {σ:St} {H:Hp} {s:Shared} (I:Inv X pins σ H s):∀(ds:List PyData) {xs:List V} {us:List Value},DatAll X.K H ds xs->Vals xs us->∃ as,ReadsAll s.heap us ds as
 | [],_,_,h,r=>by
  cases (show _=([]:List V) from h)
  cases r
  exact ⟨[],.nil⟩
 | d::ds,_,_,⟨x,t,h1,h2,h3⟩,r=>by
  cases h1
  cases r with
  | cons r1 r2 =>
   obtain ⟨as,a1⟩:=Dat.reads I d h2 r1
   obtain ⟨bs,b1⟩:=DatAll.reads I ds h3 r2
   exact ⟨as++bs,.cons a1 b1⟩
end
noncomputable def yq (K:PySem.W.Frag) (H:Hp) (d:PyData) (v:V):Prop:=Dat K H d v\/∃ ds a xs,d=.list ds/\v=.ref a/\SqL K H a xs/\DatAll K H ds xs
theorem yq.reads {X:Cx} {pins:List (Addr×Obj)} {σ:St} {H:Hp} {s:Shared} {d:PyData} {v:V} {u:Value} (I:Inv X pins σ H s) (h:yq X.K H d v) (r:RelV v u):∃ as,Reads s.heap u d as:=by
 rcases h with h | ⟨ds,a,xs,rfl,rfl,h2,h3⟩
 ·exact Dat.reads I d h r
 ·cases (show _=Value.ref a from r)
  obtain ⟨its,rv,⟨o,n,ho,hc,_,hd⟩,_⟩:=I.list h2
  obtain ⟨as,ra⟩:=DatAll.reads I ds h3 rv
  exact ⟨a::as,.list ho hc hd (by simpa using ra)⟩
section
variable {X:Cx}
noncomputable def rEqD (K:PySem.W.Frag):R2:=λx y H Q=>∃ d e,yq K H d x/\yq K H e y/\SeqAt.shaped d=true/\SeqAt.shaped e=true/\Q (.bl (PyData.eqv d e)) H
theorem Dz (hu:X.A.units+64 < cLine):OpR X (compareOp .Eq) (rEqD X.K):=by
 intro pins s σ H x y v u Q I rx ry h
 obtain ⟨d,e,hd,he,sd,se,q⟩:=h
 obtain ⟨as,ra⟩:=hd.reads I rx
 obtain ⟨bs,rb⟩:=he.reads I ry
 exact eq_dataH ra rb sd se hu ⟨.bl _,H,I,rfl,q⟩
theorem gF:ft X (.builtin "isinstance") (λxs H Q=>∃(a:Addr) (ys:List V) (c:V) (cv:Value) (k:Bool),xs=[.ref a,c]/\(∀ u,RelV c u->u=cv)/\SqT X.K H a ys/\PySem.W.kitOne X.K (.type "tuple") cv=some k/\Q (.bl k) H):=by
 intro pins s σ H xs us Q I r h
 obtain ⟨a,ys,c,cv,k,rfl,hc,hq,kt,q⟩:=h
 obtain ⟨u,w',rfl,r1,r2⟩:=vals2 r
 have e:=hc _ r2
 subst e
 cases (show u=Value.ref a from r1)
 obtain ⟨its,rv,⟨o,h1,h2,_⟩,_⟩:=I.tuple hq
 exact PySem.W.kia_one PySem.W.kitx_tuple I.kIn ⟨o,h1,h2⟩ kt (λz=>nomatch z) λtk=>⟨.bl k,H,I.tok tk,rfl,q⟩
theorem EJ {bs:List Bool}:∀{us:List Value},Vals (bs.map V.bl) us->LSm.BoolsAre us bs:=by
 induction bs with
 | nil=>intro us r;cases r;exact .nil
 | cons b r ih =>
  intro us q
  cases q with
  | cons a t =>
   cases (show _=Value.bool b from a)
   exact .cons b (ih t)
theorem qt (hc:X.calm=true):ft X (.builtin "all") (λxs H Q=>∃(l:Addr) (bs:List Bool),xs=[.ref l]/\SqL X.K H l (bs.map V.bl)/\Q (.bl (bs.all id)) H):=by
 intro pins s σ H xs us Q I r h
 obtain ⟨l,bs,rfl,hq,q⟩:=h
 obtain ⟨u,rfl,rx⟩:=vals1 r
 cases rx
 obtain ⟨its,rv,pl,_⟩:=I.list hq
 have hl:=pl.isList
 have hb:=EJ rv
 have hlt:l < s.heap.objs.size:=by obtain ⟨_,e,_⟩:=hl;exact Heap.lt_size e
 refine call_all_walk (wpAny_pyIter_list hl ?_)
 refine ⟨s.heap.objs.size,[s.heap.objs.size,l],[s.heap.objs.size],its.toArray.size,_,_,λi=>(bs[i]?).getD true,rfl,Walks.list (A:=X.A.in1) (I.ok.hd hc) _ l (Nat.ne_of_lt hlt) its.toArray,
  ⟨⟨_,Heap.get?_push_size _ rfl,rfl,rfl⟩,hl.push _⟩,λi v s' Q' E' hP hQ=>?_,λh' tk hk=>?_⟩
 ·obtain ⟨b,e,rfl⟩:=hb.get i v (by simpa using hP)
  simp only [e,Option.getD_some] at hQ
  exact wpAny_truthy_bool hQ
 ·have e:((List.range its.toArray.size).all λi=>(bs[i]?).getD true)=bs.all id:=by
   rw [List.size_toArray,hb.length];exact LSm.range_all bs
  rw [e]
  exact ⟨.bl _,H,I.kept (t':=tk) (LSm.kept_iter hk),rfl,q⟩
end
section
variable {X:Cx} {K:PySem.W.Frag}
theorem ix_tupK (e:X.K=K):IxR X (rIxT K):=e ▸ az
theorem Ed (e:X.K=K):IxR X (rIxL K):=e ▸ bL
theorem Bv (e:X.K=K):ft X (.builtin "isinstance") (λxs H Q=>∃(y:V) (c:V) (cv t:Value) (k:Bool),xs=[y,c]/\(∀ u,RelV c u->u=cv)/\jg K H y t/\PySem.W.kitOne K t cv=some k/\Q (.bl k) H):=e ▸ jQ
end
theorem zG {α:Type} [DecidableEq α] {f:α->PyData} (h:∀ a b,PyData.eqv (f a) (f b)=decide (a=b)):∀ L M:List α,PyData.eqvAll (L.map f) (M.map f)=decide (L=M)
 | [],[]=>by simp [PyData.eqvAll]
 | [],_::_=>by simp [PyData.eqvAll]
 | _::_,[]=>by simp [PyData.eqvAll]
 | a::r,b::t=>by
  simp only [List.map_cons,PyData.eqvAll,h a b,zG h r t]
  by_cases h1:a=b <;> by_cases h2:r=t <;> simp [h1,h2]
structure fL (K:PySem.W.Frag) (mg:Str->Option Value) (x:Str) (ns:List Int):Prop where
 ex:∃ a,mg x=some (.ref a)/\∀ H,SqT K H a (ns.map V.int)
theorem jR {K:PySem.W.Frag} {h:Heap} {mg:Str->Option Value} {x:Str} {a:Addr} {od:Option Addr} {its:Array Value} {n:Nat} {osl:Array (Option Value)} {ns:List Int} (X:K.In h) (G:h.Ns mainGlobals mg)
  (e:PySem.W.nsIn K mainGlobals x=some (some (.ref a))) (l:K.lookup a=some ⟨.type "tuple",od,.seq its n,osl⟩) (hz:its.size<=sizeLine) (v:Vals (ns.map V.int) its.toList):fL K mg x ns :=
 ⟨a,PySem.W.mg_of X G e,λ_=>.inr ⟨_,its,n,l,rfl,rfl,hz,v⟩⟩
theorem Ae {K:PySem.W.Frag} {h:Heap} {mg:Str->Option Value} {x:Str} {v:Value} {n:Int} (X:K.In h) (G:h.Ns mainGlobals mg) (e:PySem.W.nsIn K mainGlobals x=some (some v)) (q:∃ t,v=.int n t):∃ t,mg x=some (.int n t):=by
 obtain ⟨t,rfl⟩:=q
 exact ⟨t,PySem.W.mg_of X G e⟩
end L2
namespace Mine
namespace Lo
noncomputable def gc (a b:Int):Int:=(Int.gcd a b:Nat)
theorem rP (a b:Int):0<=gc a b:=Int.natCast_nonneg _
theorem xV {a b:Int} (h:b≠0):0 < gc a b:=by
 have:=Int.gcd_pos_of_ne_zero_right a h
 unfold gc;omega
theorem tU {a:Int} (h:0<=a):gc a 0=a:=by
 unfold gc;rw [Int.gcd_zero_right];omega
theorem Bn (a b:Int):gc a.natAbs b.natAbs=gc a b:=by
 unfold gc Int.gcd;simp
theorem tV (g l:Int):gc l (g.fmod l)=gc g l:=by
 unfold gc
 congr 1
 rw [Int.fmod_def]
 rw [Int.gcd_comm g l]
 have:g - l*g.fdiv l=g+l*(-(g.fdiv l)):=by rw [Int.mul_neg];omega
 rw [this]
 exact Int.gcd_add_mul_left_right ..
theorem dY (a b:Int):gc a b∣a:=Int.gcd_dvd_left ..
theorem eX (a b:Int):gc a b∣b:=Int.gcd_dvd_right ..
noncomputable def sg (t b:Int):Int:=if b < 0 then -(gc t b) else gc t b
noncomputable def vU (t b:Int):Int:=t.fdiv (sg t b)
noncomputable def vV (t b:Int):Int:=b.fdiv (sg t b)
theorem qZ {t b:Int} (h:b≠0):sg t b≠0:=by
 have:=xV (a:=t) h
 unfold sg;split <;> omega
theorem uR (t b:Int):sg t b∣t:=by
 unfold sg;split
 ·exact Int.neg_dvd.mpr (dY t b)
 ·exact dY t b
theorem uS (t b:Int):sg t b∣b:=by
 unfold sg;split
 ·exact Int.neg_dvd.mpr (eX t b)
 ·exact eX t b
theorem zu (t b:Int):sg t b*vU t b=t:=by
 unfold vU
 rw [Int.fdiv_eq_ediv_of_dvd (uR t b)]
 exact Int.mul_ediv_cancel' (uR t b)
theorem zA (t b:Int):sg t b*vV t b=b:=by
 unfold vV
 rw [Int.fdiv_eq_ediv_of_dvd (uS t b)]
 exact Int.mul_ediv_cancel' (uS t b)
theorem xW (f t b:Int):gc (f*t) (f*b)=f.natAbs*gc t b:=by
 unfold gc
 rw [Int.gcd_mul_left]
 rfl
theorem iR {s x n:Int} (hs:s≠0) (e:s*x=n):x.natAbs<=n.natAbs:=by
 rw [<- e,Int.natAbs_mul]
 have:1<=s.natAbs:=by omega
 exact Nat.le_mul_of_pos_left _ this
theorem zt {t b:Int} (hb:b≠0):(vU t b).natAbs<=t.natAbs:=iR (qZ hb) (zu t b)
theorem zw {t b:Int} (hb:b≠0):(vV t b).natAbs<=b.natAbs:=iR (qZ hb) (zA t b)
theorem gc_le {t b:Int} (hb:b≠0):(gc t b).natAbs<=b.natAbs:=by
 have h:=Int.gcd_dvd_right (a:=t) (b:=b)
 have:=Nat.le_of_dvd (by omega) (Int.natAbs_dvd_natAbs.mpr h)
 unfold gc;exact this
theorem sg_le {t b:Int} (hb:b≠0):(sg t b).natAbs<=b.natAbs:=by
 have:=gc_le (t:=t) hb
 unfold sg;split <;> omega
theorem low_gc {t b:Int} (hb:b≠0):gc (vU t b) (vV t b)=1:=by
 have h1:=zu t b
 have h2:=zA t b
 have h3:=xW (sg t b) (vU t b) (vV t b)
 rw [h1,h2] at h3
 have h4:=xV (a:=t) hb
 have h5:((sg t b).natAbs:Int)=gc t b:=by
  unfold sg;split <;> omega
 rw [h5] at h3
 have h6:gc t b*gc (vU t b) (vV t b)=gc t b*1:=by rw [<- h3,Int.mul_one]
 exact Int.eq_of_mul_eq_mul_left (by omega) h6
end Lo
namespace Ln
end Ln
open PySem L2
noncomputable abbrev bits (x:Int):Nat:=Builtin.Int.intBits x
theorem zT {x:Int} {m:Nat} (h:x.natAbs < 2 ^ m):bits x<=m:=intBits_le_iff.mpr h
theorem cM (i:Int):(if i < 0 then -i else i)=(i.natAbs:Int):=by split <;> omega
structure Scr (K:PySem.W.Frag) (H:Hp) (a:Addr) (ns:List Int):Prop where
 sq:(∃ o,H a=some (.frz o (.lst (ns.map V.int))))\/∃(o:Obj) (its:Array Value) (n:Nat),K.lookup a=some o/\o.cls=.type "list"/\o.dict=none/\o.data=.seq its n/\its.size<=sizeLine/\Vals (ns.map V.int) its.toList
 few:ns.length<=63
 bit:∀ n∈ns,bits n<=1048576
theorem Scr.l {K:PySem.W.Frag} {H:Hp} {a:Addr} {ns:List Int} (S:Scr K H a ns):SqL K H a (ns.map V.int):=S.sq.elim (λh=>.inl (.inr h)) .inr
theorem Scr.ts {K:PySem.W.Frag} {H H':Hp} {a:Addr} {ns:List Int} (S:Scr K H a ns) (e:Tst H H'):Scr K H' a ns:=⟨S.sq.elim (λ⟨o,h⟩=>.inl ⟨o,e.f _ _ _ h⟩) .inr,S.few,S.bit⟩
theorem scr_of {K:PySem.W.Frag} {H:Hp} {a:Addr} {ns:List Int} (O:Only H) (h:SqL K H a (ns.map V.int)) (few:ns.length<=63) (bit:∀ n∈ns,bits n<=1048576):Scr K H a ns:=by
 refine ⟨?_,few,bit⟩
 rcases h with (h | h) | h
 ·exfalso
  rcases O a with z | ⟨o,xs,z⟩
  ·rw [h] at z;cases z
  ·rw [h] at z;cases z
 ·exact .inl h
 ·exact .inr h
theorem ao {H:Hp} {p:Addr} (h:H p=none) (o:HO):aI H (upd H p o):=λb u q=>by rw [au (aw q h)];exact q
theorem aU {H H':Hp} {l:Addr} (e:aI H H') (h:H l=none) (o:HO):aI H (upd H' l o):=λb u q=>by rw [au (aw q h)];exact e b u q
noncomputable def frD (p q:Int):PyData:=.tuple [.int p,.int q]
section
variable {K:PySem.W.Frag} {H H':Hp} {a:Addr} {v e:V} {p q m h:Int} {s:St4} {L:List St4}
end
theorem fr_lay (p q:Int):(frD p q).canLay0=true:=by simp [frD,PyData.canLay0,PyData.canLayAll0]
theorem Er (p q:Int):(frD p q).depth=1:=by simp [frD,PyData.depth,PyData.depthAll]
theorem mZ (p q:Int):SeqAt.shaped (frD p q)=true:=by simp [SeqAt.shaped,fr_lay,Er]
mutual
theorem wg:∀ d:PyData,d.canLay0=true->PyData.eqv d d=true
 | .none,_=>by simp [PyData.eqv]
 | .bool _,_=>by simp [PyData.eqv]
 | .int _,_=>by simp [PyData.eqv]
 | .str _,_=>by simp [PyData.eqv]
 | .list xs,h=>by simp only [PyData.eqv];exact jN xs (by simpa [PyData.canLay0] using h)
 | .tuple xs,h=>by simp only [PyData.eqv];exact jN xs (by simpa [PyData.canLay0] using h)
 | .dict _,h=>by simp [PyData.canLay0] at h
theorem jN:∀ xs:List PyData,PyData.canLayAll0 xs=true->PyData.eqvAll xs xs=true
 | [],_=>by simp [PyData.eqvAll]
 | x::xs,h=>by
  have h':x.canLay0=true/\PyData.canLayAll0 xs=true:=by simpa [PyData.canLayAll0] using h
  simp [PyData.eqvAll,wg x h'.1,jN xs h'.2]
end
theorem xY {d:PyData} (h:SeqAt.shaped d=true):PyData.eqv d d=true:=wg d (SeqAt.canLay_of_shaped h)
noncomputable def fixO:HO->Bool
 | .tup _=>true
 | .ins _ _ _=>true
 | .own _=>true
 | .frz _ _=>true
 | _=>false
noncomputable def Kp (H H':Hp):Prop:=∀ b o,H b=some o->fixO o=true->H' b=some o
theorem Kp.trans {H H1 H2:Hp} (a:Kp H H1) (b:Kp H1 H2):Kp H H2:=λc o h f=>b c o (a c o h f) f
theorem Kp.of {H H':Hp} (e:aI H H'):Kp H H':=λb o h _=>e b o h
theorem kp_new {H:Hp} {p:Addr} (h:H p=none) (o:HO):Kp H (upd H p o):=Kp.of (λb u z=>by rw [au (aw z h)];exact z)
theorem gQ {H:Hp} {l:Addr} {o u:HO} (h:H l=some o) (f:fixO o=false):Kp H (upd H l u):=λb z hb fz=>by
 rw [au (pP hb h λe=>by rw [e,f] at fz;cases fz)]
 exact hb
theorem fX {K:PySem.W.Frag} {t:Value}:PySem.W.kitOne K t t=some true:=by unfold PySem.W.kitOne;rw [if_pos (beq_self_eq_true t)]
noncomputable def SB (c:V) (H H':Hp):Prop:=∀ b o,H b=some o->V.ref b≠c->H' b=some o
theorem SB.refl (c:V) (H:Hp):SB c H H:=λ_ _ h _=>h
theorem SB.trans {c:V} {H H1 H2:Hp} (a:SB c H H1) (b:SB c H1 H2):SB c H H2:=λd o h n=>b d o (a d o h n) n
theorem SB.of {c:V} {H H':Hp} (e:aI H H'):SB c H H':=λb o h _=>e b o h
theorem SB.kp {c:V} {H H':Hp} (e:SB c H H') (hc:∀ a o,c=.ref a->H a=some o->fixO o=false):Kp H H':=λb o h f=>e b o h λz=>by
 rw [hc b o z.symm h] at f
 cases f
theorem jv {a:Addr} (H:Hp) (u:HO):SB (.ref a) H (upd H a u):=λb o h n=>by
 rw [au λz=>n (by rw [z])]
 exact h
inductive Tu (H:Hp):Addr->Tr->Prop where
 | never {a}:H a=some (.tup [.str "never"])->Tu H a .never
 | always {a}:H a=some (.tup [.str "always"])->Tu H a .always
 | lp {a}:H a=some (.tup [.str "p"])->Tu H a .lp
 | lq {a}:H a=some (.tup [.str "q"])->Tu H a .lq
 | no {a b t}:H a=some (.tup [.str "not",.ref b])->Tu H b t->Tu H a (.no t)
 | fold {a b d w x y}:H a=some (.tup [.str (W5.str w),.ref b,.ref d])->Tu H b x->Tu H d y->Tu H a (.fold w x y)
theorem Tu.to {H H':Hp} {a:Addr} {t:Tr} (h:Tu H a t) (e:Kp H H'):Tu H' a t:=by
 induction h with
 | never h=>exact .never (e _ _ h rfl)
 | always h=>exact .always (e _ _ h rfl)
 | lp h=>exact .lp (e _ _ h rfl)
 | lq h=>exact .lq (e _ _ h rfl)
 | no h _ ih=>exact .no (e _ _ h rfl) ih
 | fold h _ _ i1 i2=>exact .fold (e _ _ h rfl) i1 i2
structure CCs where
 (ne al le no mo ls gr lr ld:Addr)
noncomputable def CCs.fold (c:CCs):W5->Addr
 | .more=>c.mo | .less=>c.ls | .greater=>c.gr | .lesser=>c.lr | .leads=>c.ld
noncomputable def lX (x:V):List (Str×V):=[("name",x)]
noncomputable def qi (x:V):List (Str×V):=[("part",x)]
noncomputable def qJ (x y:V):List (Str×V):=[("one",x),("other",y)]
inductive Ob (c:CCs) (H:Hp):Addr->Tr->Prop where
 | never {a dx}:H a=some (.ins c.ne dx [])->Ob c H a .never
 | always {a dx}:H a=some (.ins c.al dx [])->Ob c H a .always
 | lp {a dx}:H a=some (.ins c.le dx (lX (.str "p")))->Ob c H a .lp
 | lq {a dx}:H a=some (.ins c.le dx (lX (.str "q")))->Ob c H a .lq
 | no {a dx b t}:H a=some (.ins c.no dx (qi (.ref b)))->Ob c H b t->Ob c H a (.no t)
 | fold {a dx b d w x y}:H a=some (.ins (c.fold w) dx (qJ (.ref b) (.ref d)))->Ob c H b x->Ob c H d y->Ob c H a (.fold w x y)
theorem Ob.to {c:CCs} {H H':Hp} {a:Addr} {t:Tr} (h:Ob c H a t) (e:Kp H H'):Ob c H' a t:=by
 induction h with
 | never h=>exact .never (e _ _ h rfl)
 | always h=>exact .always (e _ _ h rfl)
 | lp h=>exact .lp (e _ _ h rfl)
 | lq h=>exact .lq (e _ _ h rfl)
 | no h _ ih=>exact .no (e _ _ h rfl) ih
 | fold h _ _ i1 i2=>exact .fold (e _ _ h rfl) i1 i2
inductive cC {α β:Type} (R:α->β->Prop):List α->List β->Prop where
 | nil:cC R [] []
 | cons {a b as bs}:R a b->cC R as bs->cC R (a::as) (b::bs)
theorem cC.imp {α β:Type} {R R':α->β->Prop} (f:∀ a b,R a b->R' a b) {as:List α} {bs:List β} (h:cC R as bs):cC R' as bs:=by
 induction h with
 | nil=>exact .nil
 | cons r _ ih=>exact .cons (f _ _ r) ih
theorem cC.app {α β:Type} {R:α->β->Prop} {as cs:List α} {bs ds:List β} (h:cC R as bs) (k:cC R cs ds):cC R (as++cs) (bs++ds):=by
 induction h with
 | nil=>exact k
 | cons r _ ih=>exact .cons r ih
theorem cC.rev {α β:Type} {R:α->β->Prop} {as:List α} {bs:List β} (h:cC R as bs):cC R as.reverse bs.reverse:=by
 induction h with
 | nil=>exact .nil
 | cons r _ ih=>rw [List.reverse_cons,List.reverse_cons];exact ih.app (.cons r .nil)
theorem cC.len {α β:Type} {R:α->β->Prop} {as:List α} {bs:List β} (h:cC R as bs):as.length=bs.length:=by
 induction h with
 | nil=>rfl
 | cons _ _ ih=>rw [List.length_cons,List.length_cons,ih]
theorem cC.get {α β:Type} {R:α->β->Prop} {as:List α} {bs:List β} (h:cC R as bs):∀(i:Nat) (a:α),as[i]?=some a->∃ b,bs[i]?=some b/\R a b:=by
 induction h with
 | nil=>intro i a z;cases z
 | cons r _ ih =>
  intro i x z
  cases i with
  | zero=>cases z;exact ⟨_,rfl,r⟩
  | succ i=>exact ih i x z
theorem cC.last {α β:Type} {R:α->β->Prop} {as:List α} {bs:List β} (h:cC R as bs) (n:as≠[]):∃ as' a bs' b,as=as'++[a]/\bs=bs'++[b]/\R a b/\cC R as' bs':=by
 have h':=h.rev
 have n':as.reverse≠[]:=λz=>n (List.reverse_eq_nil_iff.mp z)
 have e1:as=as.reverse.reverse:=(List.reverse_reverse _).symm
 have e2:bs=bs.reverse.reverse:=(List.reverse_reverse _).symm
 rw [e1,e2]
 revert h' n'
 generalize as.reverse=u
 generalize bs.reverse=v
 intro h' n'
 cases h' with
 | nil=>exact absurd rfl n'
 | cons r k=>exact ⟨_,_,_,_,List.reverse_cons,List.reverse_cons,r,k.rev⟩
theorem iG {α:Type} (ys:List α) (a:α):(ys++[a])[(ys++[a]).length - 1]?=some a:=by simp
noncomputable abbrev ObV (c:CCs) (H:Hp) (v:V) (t:Tr):Prop:=∃ a,v=.ref a/\Ob c H a t
theorem ObV.to {c:CCs} {H H':Hp} (e:Kp H H') (v:V) (t:Tr) (h:ObV c H v t):ObV c H' v t:=by
 obtain ⟨a,r,o⟩:=h
 exact ⟨a,r,o.to e⟩
noncomputable def Tr.kids:Tr->List Tr
 | .no t=>[t]
 | .fold _ a b=>[a,b]
 | _=>[]
noncomputable def bH (ts:List Tr):Nat:=(ts.map Tr.size).sum
theorem jT (a b:List Tr):bH (a++b)=bH a+bH b:=by simp [bH]
theorem rJ (t:Tr):bH t.kids+1=t.size:=by cases t <;> simp [bH,Tr.kids,Tr.size]
theorem Dq (t:Tr):t.post.reverse=t::(t.kids.reverse.flatMap λx=>x.post.reverse):=by
 cases t <;> simp [Tr.post,Tr.kids]
inductive Pc where
 | w (x:Str)
 | t (t:Tr)
noncomputable def Tr.pieces:Tr->List Pc
 | .never=>[.w "never"]
 | .always=>[.w "always"]
 | .lp=>[.w "p"]
 | .lq=>[.w "q"]
 | .no t=>[.w "not",.t t]
 | .fold w a b=>[.w "(",.t a,.w w.str,.t b,.w ")"]
inductive PcV (c:CCs) (H:Hp):V->Pc->Prop where
 | w (x:Str):PcV c H (.str x) (.w x)
 | t {a:Addr} {t:Tr}:Ob c H a t->PcV c H (.ref a) (.t t)
theorem je (i j:Int):(if j < i then j else i)=min i j:=by
 rw [Int.min_def];split <;> split <;> omega
theorem kP (i j:Int):(if j > i then j else i)=max i j:=by
 rw [Int.max_def];split <;> split <;> omega
end Mine
namespace L2
open PySem PySem.Spec PyProof.Rows
structure aR (K:PySem.W.Frag) (C:Addr) (m qual:Str) (st:Stmt):Prop where
 cl:Cls K C
 ex:∃(f:Addr) (fd:FuncData),Meth K C m f/\Fun K m qual st f fd
section
variable {P:Program} {w:World} {K:PySem.W.Frag} {mg:Str->Option Value} {base:Heap}
theorem bj {C:Addr} {m qual:Str} {st:Stmt} {N ps:List Str} {k:Nat} {sp:Sp} (T:aR K C m qual st) (S:aA N ps (ah st))
  (bd:∀(kV doc pm:Value) (an:Option Addr) (cdv ct:Value) (us:List Value),us.length=ps.length->bindArgs (PySem.W.fnOf m qual (eY st) (bu st) (ah st) .none kV doc pm an cdv ct) ⟨us,[]⟩=pure (ps.zip us))
  (len:∀ vs H Q E,sp vs H Q E->vs.length=ps.length)
  (body:∀(f:Addr) (cdv:Value) (A:Around) (outer:List Env) (s:Shared) (H:Hp) (vs:List V) (Q:VK) (E:XK),cX k (A.deeper (envOfC qual (ah st) s.heap.objs.size f cdv))->sp vs H Q E->
   ∃ t,PSs (cS CX0 P w K mg base N qual (ah st) f cdv A outer s H E).nox (bu st) t/\t {nx:=λ_ H'=>Q .non H',rt:=Q} (start N vs) H) :
  aT P w K mg base C m (k+1) ps sp:=by
 obtain ⟨f,fd,hm,G⟩:=T.ex
 exact ⟨T.cl,f,fd,hm,G.ok S len (body f),G.binds bd⟩
structure MkF (K:PySem.W.Frag) (mg:Str->Option Value) (x:Str) (C:Addr) (qual:Str) (st:Stmt):Prop where
 cl:Cls K C
 mg_:mg x=some (.ref C)
 ex:∃(f:Addr) (fd:FuncData),Mk K C f/\Fun K "__init__" qual st f fd
structure qw (P:Program) (w:World) (K:PySem.W.Frag) (mg:Str->Option Value) (base:Heap) (x:Str) (C:Addr) (k:Nat) (ps:List Str) (sp:Sp):Prop where
 mg_:mg x=some (.ref C)
 ex:∃(f:Addr) (fd:FuncData),Mk K C f/\mj P w K mg base CX0 k f fd ps sp/\Binds K fd ps []
theorem DV {C:Addr} {x qual:Str} {st:Stmt} {N ps:List Str} {k:Nat} {sp:Sp} (T:MkF K mg x C qual st) (S:aA N ps (ah st))
  (bd:∀(kV doc pm:Value) (an:Option Addr) (cdv ct:Value) (us:List Value),us.length=ps.length->bindArgs (PySem.W.fnOf "__init__" qual (eY st) (bu st) (ah st) .none kV doc pm an cdv ct) ⟨us,[]⟩=pure (ps.zip us))
  (len:∀ vs H Q E,sp vs H Q E->vs.length=ps.length)
  (body:∀(f:Addr) (cdv:Value) (A:Around) (outer:List Env) (s:Shared) (H:Hp) (vs:List V) (Q:VK) (E:XK),cX k (A.deeper (envOfC qual (ah st) s.heap.objs.size f cdv))->sp vs H Q E->
   ∃ t,PSs (cS CX0 P w K mg base N qual (ah st) f cdv A outer s H E).nox (bu st) t/\t {nx:=λ_ H'=>Q .non H',rt:=Q} (start N vs) H) :
  qw P w K mg base x C (k+1) ps sp:=by
 obtain ⟨f,fd,hm,G⟩:=T.ex
 exact ⟨T.mg_,f,fd,hm,G.ok S len (body f),G.binds bd⟩
end
section
variable {X:Cx} {x:Str} {C:Addr} {k:Nat} {ps:List Str} {sp:Sp} {e:Expr} {es:List Expr} {t:TA} {p pos:Pos}
theorem pL (M:qw X.prog X.w X.K X.mg X.base x C k ps sp) (hr:cX (k+1) X.A) (hg:Gl X x) (ha:PA X (e::es) t) (hdb:(x == ("__debug__":Str))=false:=by decide)
  (he:starEach (e::es) X.env=(false,eval e X.env)::starEach es X.env:=by rfl) (hpl:(backTo pos (starEach es X.env)).any (·.1)=false:=by rfl) :
  PE X (.Call (.Name x p) (e::es) [] pos) (tMake C sp [] E0 t):=by
 obtain ⟨f,fd,hm,G,hb⟩:=M.ex
 exact pe_make hm G hr hg M.mg_ hb .nil vy ha hdb he hpl
end
end L2
namespace Mine
open PySem L2
noncomputable def CCs.of (c:CCs):Tr->Addr
 | .never=>c.ne
 | .always=>c.al
 | .lp=>c.le
 | .lq=>c.le
 | .no _=>c.no
 | .fold w _ _=>c.fold w
theorem ke (x:V):(lX x).lookup ("name":Str)=some x:=by unfold lX;rw [List.lookup_cons,beq_self_eq_true]
theorem rE (x:V):(qi x).lookup ("part":Str)=some x:=by unfold qi;rw [List.lookup_cons,beq_self_eq_true]
theorem vW (x y:V):(qJ x y).lookup ("one":Str)=some x:=by unfold qJ;rw [List.lookup_cons,beq_self_eq_true]
theorem pW (x y:V):(qJ x y).lookup ("other":Str)=some y:=by
 unfold qJ
 rw [List.lookup_cons,show (("other":Str) == ("one":Str))=false by decide +kernel]
 show List.lookup ("other":Str) [("other",y)]=some y
 rw [List.lookup_cons,beq_self_eq_true]
noncomputable abbrev NoF (m:Str):Prop:=m≠"name"/\m≠"part"/\m≠"one"/\m≠"other"
theorem fJ {m a:Str} {x:V} {r:List (Str×V)} (h:m≠a) (k:r.lookup m=none):((a,x)::r).lookup m=none:=by
 rw [List.lookup_cons,beq_eq_false_iff_ne.mpr h]
 exact k
theorem Ob.cls {c:CCs} {H:Hp} {a:Addr} {t:Tr} (h:Ob c H a t):∃ dx fs,H a=some (.ins (c.of t) dx fs)/\∀ m,NoF m->fs.lookup m=none:=by
 cases h with
 | never h=>exact ⟨_,_,h,λm _=>rfl⟩
 | always h=>exact ⟨_,_,h,λm _=>rfl⟩
 | lp h=>exact ⟨_,_,h,λm n=>fJ n.1 rfl⟩
 | lq h=>exact ⟨_,_,h,λm n=>fJ n.1 rfl⟩
 | no h _=>exact ⟨_,_,h,λm n=>fJ n.2.1 rfl⟩
 | fold h _ _=>exact ⟨_,_,h,λm n=>fJ n.2.2.1 (fJ n.2.2.2 rfl)⟩
structure Fx (K:PySem.W.Frag) (c:CCs):Prop where
 cl:∀ t,Cls K (c.of t)
 ha:∀ t,PySem.W.findIn K (.ref (c.of t)) "__class__"=some (some (.builtin "object.__class__"))
 hm:∀ t,PySem.W.mroIn K (c.of t) (.type "object")=some true
 ks:∀ t,PySem.W.kitOne K (.ref (c.of t)) (.type "str")=some false
 hn:PySem.W.specialIn K (.builtin "object.__class__") "__get__"=some (some (.builtin "getset_descriptor.__get__"))
 tk:PySem.W.takesIn K (.builtin "object.__class__")=some true
 nName:fh K c.le "name"
 nPart:fh K c.no "part"
 nOne:∀ w,fh K (c.fold w) "one"
 nOther:∀ w,fh K (c.fold w) "other"
theorem Fx.ty {K:PySem.W.Frag} {c:CCs} (T:Fx K c) {H:Hp} {a:Addr} {t:Tr} (h:Ob c H a t):jg K H (.ref a) (.ref (c.of t)):=by
 obtain ⟨dx,fs,e,_⟩:=h.cls
 exact .ins e (T.cl t) (T.ha t) T.hn T.tk (T.hm t)
noncomputable def Tr.word:Tr->Str
 | .never=>"never"
 | .always=>"always"
 | .lp=>"p"
 | .lq=>"q"
 | .no _=>"not"
 | .fold u _ _=>u.str
noncomputable def sF (c:CCs) (t:Tr):Sp:=λvs H Q _=>∃ a,vs=[.ref a]/\Ob c H a t/\∀ l us,H l=none->cC (ObV c H) us t.kids->Q (.ref l) (upd H l (.lst us))
noncomputable def lD (c:CCs) (t:Tr):Sp:=λvs H Q _=>∃ a,vs=[.ref a]/\Ob c H a t/\∀ l us,H l=none->cC (PcV c H) us t.pieces->Q (.ref l) (upd H l (.lst us))
noncomputable def eB (c:CCs) (t:Tr):Sp:=λvs H Q _=>∃ a:Addr,vs=[.ref a]/\Ob c H a t/\Q (.str t.word) H
noncomputable def gJ (w:W5):Sp:=λvs H Q _=>∃(a:Addr) (n x y:Int),vs=[.ref a,.int n,.int x,.int y]/\Q (.int (w.worth n x y)) H
noncomputable def iY (c:CCs) (t:Tr):Sp:=λvs H Q _=>∃(a l:Addr) (n x y:Int) (R R':List Int),vs=[.ref a,.ref l,.int n,.int x,.int y]/\Ob c H a t/\H l=some (.lst (R.reverse.map V.int))/\R.length<=1000/\(gG n x y).step R t=some R' /\
 ∀ H',SB (.ref l) H H'->H' l=some (.lst (R'.reverse.map V.int))->Q .non H'
noncomputable def oQ (c:CCs) (t:Tr):Sp:=λvs H Q _=>∃ a,vs=[.ref a]/\Ob c H a t/\t.size<=1000/\∀ l us H',aI H H'->H l=none->H' l=some (.lst us)->cC (ObV c H') us t.post->Q (.ref l) H'
noncomputable def Cm (c:CCs) (t:Tr):Sp:=λvs H Q _=>∃(a:Addr) (n x y:Int),vs=[.ref a,.int n,.int x,.int y]/\Ob c H a t/\t.size<=1000/\∀ H',aI H H'->Q (.int (t.worth n x y)) H'
noncomputable def jS (C:Addr) (fl:V->List (Str×V)):Sp:=λvs H Q _=>∃(a dx:Addr) (x:V),vs=[.ref a,x]/\H a=some (.ins C dx [])/\Q .non (upd H a (.ins C dx (fl x)))
noncomputable def sG (C:Addr):Sp:=λvs H Q _=>∃(a dx:Addr) (x y:V),vs=[.ref a,x,y]/\H a=some (.ins C dx [])/\Q .non (upd H a (.ins C dx (qJ x y)))
theorem Dj (x y:V):jc "other" y (jc "one" x [])=qJ x y:=by
 show (if ("one":Str)="other" then [(("one":Str),y)] else (("one":Str),x)::jc "other" y [])=_
 rw [if_neg (by decide +kernel)]
 rfl
noncomputable def W5.cls:W5->Str
 | .more=>"More" | .less=>"Less" | .greater=>"Greater" | .lesser=>"Lesser" | .leads=>"Leads"
theorem is_pp:decide (V.str "p"=V.str "p")=true:=decide_eq_true rfl
theorem is_qp:decide (V.str "q"=V.str "p")=false:=decide_eq_false (λz=>absurd (V.str.inj z) (by decide +kernel))
theorem eQ (a:Int) (R:List Int):R.reverse.map V.int++[V.int a]=(a::R).reverse.map V.int:=by rw [List.reverse_cons,List.map_append];rfl
theorem lC {R:List Int} (h:R.length<=1000):(R.reverse.map V.int).length < sizeLine:=by
 rw [List.length_map,List.length_reverse]
 exact Nat.lt_of_le_of_lt h (by decide)
theorem iF {α:Type} {G:Alg α} {R R':List α} {t:Tr} (h:G.step R t=some R') (k:t.kids=[]):R'=G.leaf t::R:=by
 cases t with
 | no t=>cases k
 | fold w a b=>cases k
 | _=>cases R with
  | nil=>exact (Option.some.inj h).symm
  | cons a R=>cases R <;> exact (Option.some.inj h).symm
theorem yE {α:Type} {G:Alg α} {R R':List α} {t:Tr} (h:G.step R (.no t)=some R'):∃ b R1,R=b::R1/\R'=G.no b::R1:=by
 cases R with
 | nil=>cases h
 | cons b R1=>cases R1 <;> exact ⟨b,_,rfl,(Option.some.inj h).symm⟩
theorem qX {α:Type} {G:Alg α} {R R':List α} {w:W5} {t t':Tr} (h:G.step R (.fold w t t')=some R'):∃ b2 b1 R1,R=b2::b1::R1/\R'=G.fold w b1 b2::R1:=by
 cases R with
 | nil=>cases h
 | cons b R1=>cases R1 with
  | nil=>cases h
  | cons b' R1=>exact ⟨b,b',R1,rfl,(Option.some.inj h).symm⟩
theorem jo {H:Hp} {l p:Addr} {o:HO} (h:upd H l o p=none):H p=none:=by
 by_cases e:p=l
 ·subst e;rw [ae] at h;cases h
 ·rw [au e] at h;exact h
theorem jU {H:Hp} {C z dz:Addr} {fs:List (Str×V)} (hz:H z=none) (hd:H dz=none) (ne:dz≠z):aI H (upd (upd (upd H dz (.own z)) z (.ins C dz [])) z (.ins C dz fs)):=λb o h=>by
 rw [au (aw h hz),au (aw h hz),au (aw h hd)]
 exact h
theorem Bd {c:CCs} {H:Hp} {z dz b d:Addr} {u:W5} {t t':Tr} {Q:VK} (hz:H z=none) (hd:H dz=none) (ne:dz≠z) (o:Ob c H b t) (o':Ob c H d t') (q:∀ e H',aI H H'->Ob c H' e (.fold u t t')->Q (.ref e) H') :
  Q (.ref z) (upd (upd (upd H dz (.own z)) z (.ins (c.fold u) dz [])) z (.ins (c.fold u) dz (qJ (.ref b) (.ref d)))):=by
 have sm:=jU (C:=c.fold u) (fs:=qJ (.ref b) (.ref d)) hz hd ne
 exact q z _ sm (.fold ae (o.to (Kp.of sm)) (o'.to (Kp.of sm)))
theorem wd:∀ ts:List Tr,(ts.flatMap λx=>x.post.reverse).length=bH ts
 | []=>rfl
 | t::r=>by
  rw [List.flatMap_cons,List.length_append,List.length_reverse,eS,wd r]
  simp [bH]
theorem Am (ts:List Tr):bH ts.reverse=bH ts:=by simp [bH]
theorem rF:∀ ts:List Tr,ts.length<=bH ts
 | []=>Nat.le_refl _
 | t::r=>by
  have h:=rF r
  have p:=t.size_pos
  have e:bH (t::r)=t.size+bH r:=by simp [bH]
  rw [e,List.length_cons];omega
theorem jJ (t:Tr):t.kids.length<=2:=by cases t <;> simp [Tr.kids]
theorem Cg {α:Type} {G:Alg α} {R R':List α} {t:Tr} (h:G.step R t=some R'):R'.length<=R.length+1:=by
 cases t with
 | no t=>obtain ⟨b,R1,rfl,rfl⟩:=yE h;simp
 | fold w x y=>obtain ⟨b,b',R1,rfl,rfl⟩:=qX h;simp
 | _=>rw [iF h rfl];simp
theorem CO {α:Type} {G:Alg α} {R Z:List α} {t:Tr} {r:List Tr} (h:G.run R (t::r)=some Z):∃ R',G.step R t=some R'/\G.run R' r=some Z:=by
 unfold Alg.run at h
 cases e:G.step R t with
 | none=>rw [e] at h;cases h
 | some R'=>rw [e] at h;exact ⟨R',rfl,h⟩
theorem zI {α:Type} {xs:List α} {i:Nat} {x:α} (h:xs[i]?=some x):xs.drop i=x::xs.drop (i+1):=by
 obtain ⟨hi,e⟩:=List.getElem?_eq_some_iff.mp h
 rw [List.drop_eq_getElem_cons hi,e]
theorem ite_yes {a b:Str} {A B:Prop} (h:a=b) (k:A):if decide (V.str a=V.str b)=true then A else B:=by
 rw [decide_eq_true (congrArg V.str h),if_pos rfl]
 exact k
theorem ite_no {a b:Str} {A B:Prop} (h:a≠b) (k:B):if decide (V.str a=V.str b)=true then A else B:=by
 rw [decide_eq_false (λz=>h (V.str.inj z)),if_neg Bool.false_ne_true]
 exact k
theorem jK {x:V} {xs:List V} {A B:Prop} (h:inV x xs=true) (k:A):if (if false=true then !inV x xs else inV x xs)=true then A else B:=by
 rw [if_neg Bool.false_ne_true,h,if_pos rfl]
 exact k
theorem jL {x:V} {xs:List V} {A B:Prop} (h:inV x xs=false) (k:B):if (if false=true then !inV x xs else inV x xs)=true then A else B:=by
 rw [if_neg Bool.false_ne_true,h,if_neg Bool.false_ne_true]
 exact k
noncomputable def Cel (m:Int):Prop:=0<=m/\Builtin.Int.intBits m<=1048576
theorem cel0:Cel 0:=⟨Int.le_refl _,by decide⟩
theorem EK (z:Int):Builtin.Int.intBits (if z < 0 then -z else z)=Builtin.Int.intBits z:=by
 unfold Builtin.Int.intBits
 by_cases h:z < 0
 ·rw [if_pos h]
  simp
 ·rw [if_neg h]
theorem cel_abs {z:Int} (h:Builtin.Int.intBits z<=1048576):Cel (if z < 0 then -z else z):=⟨by split <;> omega,by rw [EK];exact h⟩
theorem ng {z:Int} (h0:0<=z) (h:z < 2 ^ 64):Cel z:=⟨h0,Nat.le_trans (intBits_le_64 (by omega) h) (by decide)⟩
theorem Scr.to {K:PySem.W.Frag} {H H':Hp} {a:Addr} {ns:List Int} (h:Scr K H a ns) (e:aI H H'):Scr K H' a ns:=h.ts e.ts
noncomputable def yH (K:PySem.W.Frag):Sp:=λvs H Q _=>∃(a:Addr) (ns:List Int) (k:Int),vs=[.ref a,.int k]/\Scr K H a ns/\0<=k/\k<=100/\∀(D:Addr) (ms:List Int) (H':Hp),aI H H'->H D=none->H' D=some (.lst (ms.map V.int))->(∀ m∈ms,Cel m)->Q (.ref D) H'
noncomputable def sA:Sp:=λvs H Q _=>∃(l:Addr) (ms:List Int),vs=[.ref l]/\H l=some (.lst (ms.map V.int))/\(∀ m∈ms,Cel m)/\∀(i:Int) (ms':List Int) (H':Hp),Cel i->(∀ m∈ms',Cel m)->SB (.ref l) H H'->H' l=some (.lst (ms'.map V.int))->Q (.int i) H'
noncomputable def uH (n:Nat):Sp:=λvs H Q _=>∃(l:Addr) (ms:List Int) (r:Int) (b:Bool),vs=[.ref l,.int r,.bl b]/\H l=some (.lst (ms.map V.int))/\(∀ m∈ms,Cel m)/\1<=r/\r<=n/\
 ∀(a:Addr) (t:Tr) (ms':List Int) (H':Hp),(t.size:Int)<=r->(∀ m∈ms',Cel m)->SB (.ref l) H H'->H' l=some (.lst (ms'.map V.int))->Tu H' a t->Q (.ref a) H'
noncomputable def yL:Sp:=λvs H Q _=>∃(u:W5) (n x y:Int),vs=[.str u.str,.int n,.int x,.int y]/\Q (.int (u.worth n x y)) H
noncomputable def yF (k:Nat):Sp:=λvs H Q _=>∃(a:Addr) (t:Tr) (n x y:Int),vs=[.ref a,.int n,.int x,.int y]/\Tu H a t/\t.size<=k/\∀ H',aI H H'->Q (.int (t.worth n x y)) H'
noncomputable def uA:Sp:=λvs H Q _=>∃ i:Int,vs=[.int i]/\Q (.bl true) H
end Mine
namespace L2
open PySem PySem.Spec PyProof.Rows
namespace HT
variable {prog:Program} {w:World} {A:Around} {E:Value->Shared->Prop} {s:Shared}
theorem xQ {t sl:Addr} {items:Array Value} {vl vu:Value} {lo hi:Option Int} {Q:Value->Shared->Prop} (ht:IsTup s.heap t items) (hs:s.heap.IsSliceOf sl vl vu .none) (pl:IsPart vl lo) (pu:IsPart vu hi)
  (h0:_root_.HT.sIx items.size 0 lo=0) (h1:_root_.HT.sIx items.size items.size hi=items.size) (h:Q (.ref t) s):wpAny (model prog w) A (getItem (.ref t) (.ref sl)) Q E s:=by
 obtain ⟨os,hos,hcs,hds⟩:=id hs
 have hTs:s.TypeIs (.ref sl) "slice":=⟨os,hos,hcs⟩
 unfold getItem
 try with_reducible refine wpAny_holding ?_
 first | refine wpAny_bind (wpAny_pure ?_) | skip
 refine wpAny_bind (wpAny_sequenceKey ht.typeIs (by decide) ?_)
 refine wpAny_bind (wpAny_callSpecial?_slot (name:=Str.ofString "__getitem__") ht.typeIs PyProof.Rows.slot_tuple_getitem
  (wpAny_call_entry PyProof.Rows.slot_tuple_getitem ht.typeIs PyProof.Rows.entry_tuple_getitem ?_ (PyProof.Rows.args_tuple_getitem _ _)))
 show wpAny _ _ (Builtin.Tuple.tupleItemsOf (.ref t) >>= _) _ _ s
 refine wpAny_bind (PyProof.Rows.tupleItemsOf_ ht ?_)
 refine wpAny_bind (wpAny_typeOf hTs ?_)
 rw [if_pos (by decide)]
 refine wpAny_bind (_root_.HT.iH hs pl pu ?_)
 have yes:(((_root_.HT.sIx items.size 0 lo:Nat):Int) == 0 && (1:Int) == 1 && (_root_.HT.sIx items.size items.size hi - _root_.HT.sIx items.size 0 lo) == items.size)=true:=by rw [h0,h1];simp
 show wpAny _ _ (if (((_root_.HT.sIx items.size 0 lo:Nat):Int) == 0 && (1:Int) == 1 && (_root_.HT.sIx items.size items.size hi - _root_.HT.sIx items.size 0 lo) == items.size)=true then _ else _) _ _ s
 rw [if_pos yes]
 unfold Builtin.Tuple.tupleIsExact
 refine wpAny_bind (wpAny_bind (wpAny_typeOf ht.typeIs (wpAny_pure ?_)))
 rw [if_pos (by decide)]
 exact wpAny_bind (wpAny_rule (wpAny_pure ⟨_,rfl,wpAny_pure h⟩))
end HT
section
variable {X:Cx}
noncomputable def rSlA (K:PySem.W.Frag):V->Option Int->Option Int->Hp->VK->Prop:=λx lo hi H Q=>∃(a:Addr) (xs:List V),x=.ref a/\SqT K H a xs/\(_root_.HT.sIx xs.length 0 lo=0->_root_.HT.sIx xs.length xs.length hi=xs.length->Q (.ref a) H)/\
 (¬ (_root_.HT.sIx xs.length 0 lo=0/\_root_.HT.sIx xs.length xs.length hi=xs.length)->∀ p,H p=none->Q (.ref p) (upd H p (.tup (qm xs lo hi))))
theorem om:SlR X (rSlA X.K):=by
 intro pins s σ H x v vl vu lo hi sl Q I rx hs pl pu h
 obtain ⟨a,xs,rfl,hx,q1,q2⟩:=h
 by_cases hw:_root_.HT.sIx xs.length 0 lo=0/\_root_.HT.sIx xs.length xs.length hi=xs.length
 ·cases rx
  obtain ⟨its,r,ht,hz⟩:=I.tuple hx
  have hlen:its.toArray.size=xs.length:=by rw [List.size_toArray];exact r.length.symm
  refine ⟨"tuple",_,PyProof.Rows.slot_tuple_getitem.lookup,ht.typeIs,?_⟩
  exact HT.xQ ht hs pl pu (by rw [hlen];exact hw.1) (by rw [hlen];exact hw.2) ⟨.ref a,H,I,rfl,q1 hw.1 hw.2⟩
 ·exact sl_tup pins s σ H (.ref a) v vl vu lo hi sl Q I rx hs pl pu ⟨a,xs,rfl,hx,hw,q2 hw⟩
end
end L2
namespace Mine
open PySem L2
theorem cut_int (ms:List Int) (lo hi:Option Int):∃ ms':List Int,qm (ms.map V.int) lo hi=ms'.map V.int/\∀ m∈ms',m∈ms:=by
 refine ⟨(ms.drop (_root_.HT.sIx (ms.map V.int).length 0 lo)).take (_root_.HT.sIx (ms.map V.int).length (ms.map V.int).length hi - _root_.HT.sIx (ms.map V.int).length 0 lo),?_,λm h=>List.mem_of_mem_drop (List.mem_of_mem_take h)⟩
 unfold qm
 rw [List.map_take,List.map_drop]
theorem eV {a b:Int} (h:Builtin.Int.intBits b<=64):IntMulOk a b:=.of_right h
theorem pQ {a b:Int} (h:Builtin.Int.intBits a<=64):IntMulOk a b:=.of_left h
noncomputable abbrev vQ:List Str:=["_law_script","_law_least","_law_as_they_stand","_law_made","_law_k","_law_cell"]
noncomputable abbrev pE:List Str:=["_law_cells","_law_room","_law_two","_law_cell","_law_turn","_law_left","_law_one","_law_word"]
theorem word_at (m:Int) (h0:0<=m) (h:m < 5):∃ u:W5,atI [V.str "more",.str "less",.str "greater",.str "lesser",.str "leads"] m=some (.str u.str):=by
 have hm:m=0\/m=1\/m=2\/m=3\/m=4:=by omega
 rcases hm with rfl | rfl | rfl | rfl | rfl
 ·exact ⟨.more,rfl⟩
 ·exact ⟨.less,rfl⟩
 ·exact ⟨.greater,rfl⟩
 ·exact ⟨.lesser,rfl⟩
 ·exact ⟨.leads,rfl⟩
theorem two_at {x y:V} (m:Int) (h:m=0\/m=1):∃ z,atI [x,y] m=some z/\(z=x\/z=y):=by
 rcases h with rfl | rfl
 ·exact ⟨x,rfl,.inl rfl⟩
 ·exact ⟨y,rfl,.inr rfl⟩
theorem lst_fx {H:Hp} {l:Addr} {xs:List V} (e:H l=some (.lst xs)):∀ a o,V.ref l=.ref a->H a=some o->fixO o=false:=λa o z1 z2=>by cases z1;rw [e] at z2;cases z2;rfl
theorem pq_p:inV (.str "p") [V.str "p",.str "q"]=true:=by decide +kernel
theorem pq_q:inV (.str "q") [V.str "p",.str "q"]=true:=by decide +kernel
theorem Dn:inV (.str "not") [V.str "p",.str "q"]=false:=by decide +kernel
theorem pq_w (u:W5):inV (.str u.str) [V.str "p",.str "q"]=false:=by cases u <;> decide +kernel
theorem na_ne:inV (.str "never") [V.str "never",.str "always"]=true:=by decide +kernel
theorem na_al:inV (.str "always") [V.str "never",.str "always"]=true:=by decide +kernel
theorem na_p:inV (.str "p") [V.str "never",.str "always"]=false:=by decide +kernel
theorem na_q:inV (.str "q") [V.str "never",.str "always"]=false:=by decide +kernel
theorem na_not:inV (.str "not") [V.str "never",.str "always"]=false:=by decide +kernel
theorem na_w (u:W5):inV (.str u.str) [V.str "never",.str "always"]=false:=by cases u <;> decide +kernel
theorem w_ne (u:W5):u.str≠"never":=by cases u <;> decide +kernel
theorem w_al (u:W5):u.str≠"always":=by cases u <;> decide +kernel
theorem pF {H:Hp} {C z dz:Addr} (hz:H z=none) (hd:H dz=none):aI H (upd (upd H dz (.own z)) z (.ins C dz [])):=λb o h=>by
 rw [au (aw h hz),au (aw h hd)]
 exact h
noncomputable abbrev TuV (H:Hp) (v:V) (t:Tr):Prop:=∃ a,v=.ref a/\Tu H a t
theorem TuV.to {H H':Hp} (e:Kp H H') (v:V) (t:Tr) (h:TuV H v t):TuV H' v t:=by
 obtain ⟨a,r,o⟩:=h
 exact ⟨a,r,o.to e⟩
theorem Tu.parts {H:Hp} {a:Addr} {t:Tr} (h:Tu H a t):∃ us,H a=some (.tup (.str t.word::us))/\cC (TuV H) us t.kids:=by
 cases h with
 | never e=>exact ⟨[],e,.nil⟩
 | always e=>exact ⟨[],e,.nil⟩
 | lp e=>exact ⟨[],e,.nil⟩
 | lq e=>exact ⟨[],e,.nil⟩
 | no e h=>exact ⟨_,e,.cons ⟨_,rfl,h⟩ .nil⟩
 | fold e h h'=>exact ⟨_,e,.cons ⟨_,rfl,h⟩ (.cons ⟨_,rfl,h'⟩ .nil)⟩
theorem iC {σ:St} {H:Hp} {A B:Hp->Prop} (h:A H):ky σ H λb H4=>if b=true then A H4 else B H4:=by
 show if true=true then A H else B H
 rw [if_pos rfl]
 exact h
theorem pX {t x:Tr} (h:x∈t.kids):x.size < t.size:=by
 cases t with
 | no t =>
  have e:x=t:=by simpa [Tr.kids] using h
  subst e
  exact Nat.lt_succ_self _
 | fold w a b =>
  have e:x=a\/x=b:=by simpa [Tr.kids] using h
  show x.size < a.size+b.size+1
  rcases e with rfl | rfl <;> omega
 | _=>simp [Tr.kids] at h
end Mine
namespace L2
open PySem PySem.Spec PyProof.Rows
end L2
namespace Mine
open PySem L2
noncomputable def spLaw (K:PySem.W.Frag):Sp:=λvs H Q _=>∃(a:Addr) (ns:List Int),vs=[.ref a]/\Scr K H a ns/\∀ H',Q (.bl true) H'
theorem iS {wi:TI} {tc:TT} {te:TE} {js:List Nat} {σ:St} {H:Hp} {Q:VK} (h:wi σ H λJ H1=>iD (λ_ H R=>R J H) tc te js σ H1 Q):iD wi tc te js σ H Q:=h
theorem rT {K:PySem.W.Frag} {wi:TI} {te:TE} {js:List Nat} {σ:St} {H0:Hp} {Q:VK} {xs:List V} (Src:Addr->Hp->Prop) (hwi:∀ R:It->Hp->Prop,(∀ l H,Src l H->R (Itl K l) H)->wi σ H0 R) (hsrc:∀ l H,Src l H->H l=some (.lst xs)) (hx:xs.length<=1000)
  (Pv:Addr->Addr->Nat->List V->Hp->Prop) (h0:∀ l H D,Src l H->H D=none->Pv l D 0 [] (upd H D (.lst [])))
  (hs:∀ l D i v ys H',xs[i]?=some v->l≠D->H' l=some (.lst xs)->H' D=some (.lst ys)->Pv l D i ys H'->∀ N:VK,(∀ y H'',H'' l=some (.lst xs)->H'' D=some (.lst ys)->Pv l D (i+1) (ys++[y]) (upd H'' D (.lst (ys++[y])))->N y H'')->te (some v::bI js σ) H' N)
  (hd:∀ l D ys H',H' l=some (.lst xs)->H' D=some (.lst ys)->Pv l D xs.length ys H'->Q (.ref D) H'):iD wi ky te js σ H0 Q:=by
 refine hwi _ λl H src=>?_
 intro D hD
 have e:=hsrc l H src
 have nl:l≠D:=aw e hD
 refine ⟨λi m H'=>m=xs.length - i/\i<=xs.length/\H' l=some (.lst xs)/\∃ ys,ys.length=i/\H' D=some (.lst ys)/\Pv l D i ys H',⟨xs.length,rfl,Nat.zero_le _,by rw [au nl];exact e,[],rfl,ae,h0 l H D src hD⟩,?_⟩
 rintro i m H2 ⟨rfl,hi,e2,ys,hy,eD,p⟩
 by_cases hlt:i < xs.length
 ·refine .inr ⟨⟨xs,xs[i],SqL.of e2,by simp [hlt]⟩,λv H3 y=>?_⟩
  obtain ⟨eh,y⟩:=y
  subst eh
  refine iC ?_
  refine hs l D i v ys _ (y xs (SqL.of e2)) nl e2 eD p _ λy H5 z1 z2 z3=>?_
  exact ⟨ys,z2,Nat.lt_of_le_of_lt (show ys.length<=1000 by omega) (by decide),xs.length - (i+1),by omega,rfl,hlt,by rw [au nl];exact z1,ys++[y],by rw [List.length_append,hy];rfl,ae,z3⟩
 ·have ei:i=xs.length:=by omega
  subst ei
  exact .inl ⟨⟨xs,SqL.of e2,Nat.le_refl _⟩,hd l D ys H2 e2 eD p⟩
theorem wo {K:PySem.W.Frag} {wi:TI} {te:TE} {js:List Nat} {σ:St} {H0:Hp} {Q:VK} {xs:List V} (Src:Addr->Hp->Prop) (hwi:∀ R:It->Hp->Prop,(∀ l H,Src l H->R (Itt K l) H)->wi σ H0 R) (hsrc:∀ l H,Src l H->H l=some (.tup xs)) (hx:xs.length<=1000)
  (Pv:Addr->Addr->Nat->List V->Hp->Prop) (h0:∀ l H D,Src l H->H D=none->Pv l D 0 [] (upd H D (.lst [])))
  (hs:∀ l D i v ys H',xs[i]?=some v->l≠D->H' l=some (.tup xs)->H' D=some (.lst ys)->Pv l D i ys H'->∀ N:VK,(∀ y H'',H'' l=some (.tup xs)->H'' D=some (.lst ys)->Pv l D (i+1) (ys++[y]) (upd H'' D (.lst (ys++[y])))->N y H'')->te (some v::bI js σ) H' N)
  (hd:∀ l D ys H',H' l=some (.tup xs)->H' D=some (.lst ys)->Pv l D xs.length ys H'->Q (.ref D) H'):iD wi ky te js σ H0 Q:=by
 refine hwi _ λl H src=>?_
 intro D hD
 have e:=hsrc l H src
 have nl:l≠D:=aw e hD
 refine ⟨λi m H'=>m=xs.length - i/\i<=xs.length/\H' l=some (.tup xs)/\∃ ys,ys.length=i/\H' D=some (.lst ys)/\Pv l D i ys H',⟨xs.length,rfl,Nat.zero_le _,by rw [au nl];exact e,[],rfl,ae,h0 l H D src hD⟩,?_⟩
 rintro i m H2 ⟨rfl,hi,e2,ys,hy,eD,p⟩
 by_cases hlt:i < xs.length
 ·refine .inr ⟨⟨xs,xs[i],SqT.of e2,by simp [hlt]⟩,λv H3 y=>?_⟩
  obtain ⟨eh,y⟩:=y
  subst eh
  refine iC ?_
  refine hs l D i v ys _ (y xs (SqT.of e2)) nl e2 eD p _ λy H5 z1 z2 z3=>?_
  exact ⟨ys,z2,Nat.lt_of_le_of_lt (show ys.length<=1000 by omega) (by decide),xs.length - (i+1),by omega,rfl,hlt,by rw [au nl];exact z1,ys++[y],by rw [List.length_append,hy];rfl,ae,z3⟩
 ·have ei:i=xs.length:=by omega
  subst ei
  exact .inl ⟨⟨xs,SqT.of e2,Nat.le_refl _⟩,hd l D ys H2 e2 eD p⟩
theorem comp_map {α:Type} {K:PySem.W.Frag} {wi:TI} {te:TE} {js:List Nat} {σ:St} {H:Hp} {Q:VK} {xs:List V} {ts:List α} {R:Hp->V->α->Prop} (g:α->V) (hR:∀ H H' v t,aI H H'->R H v t->R H' v t) (Src:Addr->Hp->Prop)
  (hwi:∀ R:It->Hp->Prop,(∀ l H,Src l H->R (Itl K l) H)->wi σ H R) (hsrc:∀ l H',Src l H'->H' l=some (.lst xs)/\aI H H') (hx:xs.length<=1000) (o:cC (R H) xs ts)
  (hs:∀ v t H' (N:VK),t∈ts->R H' v t->(∀ H'',aI H' H''->N (g t) H'')->te (some v::bI js σ) H' N) (hd:∀ D H',aI H H'->H D=none->H' D=some (.lst (ts.map g))->Q (.ref D) H'):iD wi ky te js σ H Q:=by
 refine rT Src hwi (λl H src=>(hsrc l H src).1) hx (λl D i ys H'=>H D=none/\aI H H'/\ys=(ts.take i).map g) (λl H' D src hD=>⟨(hsrc l H' src).2.free hD,(hsrc l H' src).2.trans (ao hD _),rfl⟩) (λl D i v ys H' hv nl el eD h N hN=>?_) (λl D ys H' el eD h=>?_)
 ·obtain ⟨hD,sm,rfl⟩:=h
  obtain ⟨t,ht,hr⟩:=o.get i v hv
  refine hs v t H' N (List.mem_of_getElem? ht) (hR _ _ _ _ sm hr) λH'' s2=>hN _ _ (s2 _ _ el) (s2 _ _ eD) ⟨hD,λd u z=>?_,?_⟩
  ·rw [au (aw z hD)]
   exact s2 _ _ (sm _ _ z)
  ·rw [List.take_add_one,ht,List.map_append]
   rfl
 ·obtain ⟨hD,sm,rfl⟩:=h
  refine hd D H' sm hD ?_
  rw [o.len,List.take_length] at eD
  exact eD
theorem rS {α:Type} {K:PySem.W.Frag} {wi:TI} {te:TE} {js:List Nat} {σ:St} {H:Hp} {Q:VK} {xs:List V} {ts:List α} {R:Hp->V->α->Prop} (g:α->V) (hR:∀ H H' v t,aI H H'->R H v t->R H' v t) (Src:Addr->Hp->Prop)
  (hwi:∀ R:It->Hp->Prop,(∀ l H,Src l H->R (Itt K l) H)->wi σ H R) (hsrc:∀ l H',Src l H'->H' l=some (.tup xs)/\aI H H') (hx:xs.length<=1000) (o:cC (R H) xs ts)
  (hs:∀ v t H' (N:VK),t∈ts->R H' v t->(∀ H'',aI H' H''->N (g t) H'')->te (some v::bI js σ) H' N) (hd:∀ D H',aI H H'->H D=none->H' D=some (.lst (ts.map g))->Q (.ref D) H'):iD wi ky te js σ H Q:=by
 refine wo Src hwi (λl H src=>(hsrc l H src).1) hx (λl D i ys H'=>H D=none/\aI H H'/\ys=(ts.take i).map g) (λl H' D src hD=>⟨(hsrc l H' src).2.free hD,(hsrc l H' src).2.trans (ao hD _),rfl⟩) (λl D i v ys H' hv nl el eD h N hN=>?_) (λl D ys H' el eD h=>?_)
 ·obtain ⟨hD,sm,rfl⟩:=h
  obtain ⟨t,ht,hr⟩:=o.get i v hv
  refine hs v t H' N (List.mem_of_getElem? ht) (hR _ _ _ _ sm hr) λH'' s2=>hN _ _ (s2 _ _ el) (s2 _ _ eD) ⟨hD,λd u z=>?_,?_⟩
  ·rw [au (aw z hD)]
   exact s2 _ _ (sm _ _ z)
  ·rw [List.take_add_one,ht,List.map_append]
   rfl
 ·obtain ⟨hD,sm,rfl⟩:=h
  refine hd D H' sm hD ?_
  rw [o.len,List.take_length] at eD
  exact eD
theorem w_not (u:W5):u.str≠"not":=by cases u <;> decide +kernel
noncomputable abbrev Rw:=List Key
noncomputable def dS (x:Str) (is:List Nat):Rw:=.inr x::is.map λi:Nat=>.inl (i:Int)
noncomputable def idx (rs:List Rw) (r:Rw):Option Nat:=match rs with
 | []=>none
 | x::t=>if x=r then some 0 else (idx t r).map (·+1)
noncomputable def aS (rs:List Rw) (r:Rw):List Rw×Nat:=match idx rs r with
 | some i=>(rs,i)
 | none=>(rs++[r],rs.length)
theorem idx_lt:∀{rs:List Rw} {r:Rw} {i:Nat},idx rs r=some i->i < rs.length
 | [],_,_,h=>by cases h
 | x::t,r,i,h=>by
  unfold idx at h
  split at h
  ·cases h;simp
  ·cases e:idx t r with
   | none=>rw [e] at h;cases h
   | some j=>rw [e] at h;cases h;have:=idx_lt e;simp;omega
theorem xS:∀{rs:List Rw} {r:Rw} {i:Nat},idx rs r=some i->rs[i]?=some r
 | [],_,_,h=>by cases h
 | x::t,r,i,h=>by
  unfold idx at h
  split at h
  ·rename_i z;cases h;simp [z]
  ·cases e:idx t r with
   | none=>rw [e] at h;cases h
   | some j=>rw [e] at h;cases h;have:=xS e;simpa using this
theorem vY:∀{rs:List Rw} {r:Rw},idx rs r=none->r ∉ rs
 | [],r,_=>by simp
 | x::t,r,h=>by
  unfold idx at h
  by_cases z:x=r
  ·rw [if_pos z] at h;cases h
  ·rw [if_neg z] at h
   cases e:idx t r with
   | none =>
        intro m; rcases List.mem_cons.mp m with m | m; · exact z m.symm
        ·exact vY e m
   | some j=>rw [e] at h;cases h
theorem idx_app {rs:List Rw} {r s:Rw}:idx (rs++[r]) s=match idx rs s with | some i=>some i | none=>if r=s then some rs.length else none:=by
 induction rs with
 | nil =>
  show (if r=s then some 0 else (idx [] s).map (·+1))=if r=s then some 0 else none
  rfl
 | cons x t ih =>
  show (if x=s then some 0 else (idx (t++[r]) s).map (·+1))=_
  by_cases z:x=s
  ·rw [if_pos z]
   show _=match (if x=s then some 0 else (idx t s).map (·+1)) with | some i=>some i | none=>_
   rw [if_pos z]
  ·rw [if_neg z,ih]
   show _=match (if x=s then some 0 else (idx t s).map (·+1)) with | some i=>some i | none=>if r=s then some (t.length+1) else none
   rw [if_neg z]
   cases idx t s with
   | some i=>rfl
   | none =>
    show (if r=s then some t.length else none).map (·+1)=if r=s then some (t.length+1) else none
    split <;> rfl
theorem iP (rs:List Rw) (r:Rw):(aS rs r).1.length<=rs.length+1:=by
 unfold aS
 cases idx rs r <;> simp
noncomputable def Tr.putR:Tr->List Rw->List Rw×Nat
 | .no t,rs=>aS (t.putR rs).1 (dS "not" [(t.putR rs).2])
 | .fold w a b,rs=>aS (b.putR (a.putR rs).1).1 (dS w.str [(a.putR rs).2,(b.putR (a.putR rs).1).2])
 | .never,rs=>aS rs (dS "never" [])
 | .always,rs=>aS rs (dS "always" [])
 | .lp,rs=>aS rs (dS "p" [])
 | .lq,rs=>aS rs (dS "q" [])
noncomputable def Tr.rows (t:Tr):List Rw:=(t.putR []).1
theorem iO:∀(t:Tr) (rs:List Rw),(t.putR rs).1.length<=rs.length+t.size
 | .no t,rs=>by
  have:=iO t rs
  have:=iP (t.putR rs).1 (dS "not" [(t.putR rs).2])
  simp only [Tr.putR,Tr.size];omega
 | .fold w a b,rs=>by
  have:=iO a rs
  have:=iO b (a.putR rs).1
  have:=iP (b.putR (a.putR rs).1).1 (dS w.str [(a.putR rs).2,(b.putR (a.putR rs).1).2])
  simp only [Tr.putR,Tr.size];omega
 | .never,rs=>iP _ _
 | .always,rs=>iP _ _
 | .lp,rs=>iP _ _
 | .lq,rs=>iP _ _
noncomputable def vo (s:List Rw×List Nat) (x:Tr):Option (List Rw×List Nat) :=
 if s.2.length < x.kids.length then none else
  some ((aS s.1 (dS x.word (s.2.take x.kids.length).reverse)).1,(aS s.1 (dS x.word (s.2.take x.kids.length).reverse)).2::s.2.drop x.kids.length)
noncomputable def qD:List Rw×List Nat->List Tr->Option (List Rw×List Nat)
 | s,[]=>some s
 | s,t::r=>(vo s t).bind λs'=>qD s' r
theorem jW:∀(t:Tr) (rs:List Rw) (st:List Nat) (r:List Tr),qD (rs,st) (t.post++r)=qD ((t.putR rs).1,(t.putR rs).2::st) r
 | .no t,rs,st,r=>by
  show qD (rs,st) (t.post++[.no t]++r)=_
  rw [List.append_assoc,jW t rs st]
  rfl
 | .fold w a b,rs,st,r=>by
  show qD (rs,st) (a.post++b.post++[.fold w a b]++r)=_
  rw [List.append_assoc,List.append_assoc,jW a rs st,jW b _ _]
  rfl
 | .never,rs,st,r=>rfl
 | .always,rs,st,r=>rfl
 | .lp,rs,st,r=>rfl
 | .lq,rs,st,r=>rfl
theorem CQ (t:Tr):qD ([],[]) t.post=some (t.rows,[(t.putR []).2]):=by
 have h:=jW t [] [] []
 rw [List.append_nil] at h
 rw [h]
 rfl
theorem Ar {s Z:List Rw×List Nat} {t:Tr} {r:List Tr} (h:qD s (t::r)=some Z):∃ s',vo s t=some s'/\qD s' r=some Z:=by
 unfold qD at h
 cases e:vo s t with
 | none=>rw [e] at h;cases h
 | some s'=>rw [e] at h;exact ⟨s',rfl,h⟩
theorem CP {s s':List Rw×List Nat} {x:Tr} (h:vo s x=some s'):x.kids.length<=s.2.length/\s'=((aS s.1 (dS x.word (s.2.take x.kids.length).reverse)).1,(aS s.1 (dS x.word (s.2.take x.kids.length).reverse)).2::s.2.drop x.kids.length):=by
 unfold vo at h
 split at h
 ·cases h
 ·exact ⟨by omega,(Option.some.inj h).symm⟩
theorem wx {K:PySem.W.Frag} {H:Hp} {a b:Addr} {xs ys:List V} {Q:VK} (ea:H a=some (.tup xs)) (eb:H b=some (.tup ys)) (nx:xs≠[]) (hz:xs.length+ys.length<=sizeLine) (h:∀ p H',aI H H'->H' p=some (.tup (xs++ys))->Q (.ref p) H'):rCatT K (.ref a) (.ref b) H Q:=by
 refine ⟨a,b,xs,ys,rfl,rfl,SqT.of ea,SqT.of eb,nx,hz,λz=>?_,λ_ p hp=>h p _ (ao hp _) ae⟩
 refine h a H (aI.refl _) ?_
 rw [z,List.append_nil]
 exact ea
noncomputable abbrev RwV (H:Hp) (v:V) (r:Rw):Prop:=∃ a,v=.ref a/\H a=some (.tup (r.map kV))
theorem RwV.to {H H':Hp} (e:Kp H H') (v:V) (r:Rw) (h:RwV H v r):RwV H' v r:=by
 obtain ⟨a,z,o⟩:=h
 exact ⟨a,z,e _ _ o rfl⟩
theorem sQ (x:Str) (is:List Nat):(dS x is).map kV=V.str x::is.map λi:Nat=>V.int (i:Int):=by
 unfold dS
 rw [List.map_cons,List.map_map]
 rfl
noncomputable def PlO (kvs:List (Rw×V)) (rs:List Rw):Prop:=kvs.length=rs.length/\∀ k,ee kvs k=(idx rs k).map λi:Nat=>V.int (i:Int)
theorem PlO.nil:PlO [] []:=⟨rfl,λ_=>rfl⟩
theorem PlO.put {kvs:List (Rw×V)} {rs:List Rw} {r:Rw} (h:PlO kvs rs) (n:idx rs r=none):PlO (putK kvs r (.int (rs.length:Int))) (rs++[r]):=by
 have hv:ee kvs r=none:=by rw [h.2 r,n];rfl
 refine ⟨by rw [Di _ hv,List.length_append,List.length_append,h.1];rfl,λk=>?_⟩
 rw [iA,idx_app]
 by_cases e:k=r
 ·subst e
  rw [if_pos rfl,n]
  show _=(if k=k then some rs.length else none).map _
  rw [if_pos rfl];rfl
 ·rw [if_neg e,h.2 k]
  cases idx rs k with
  | some i=>rfl
  | none =>
   show _=(if r=k then some rs.length else none).map _
   rw [if_neg λz=>e z.symm]
noncomputable def uI (c:CCs):Sp:=λvs H Q _=>∃(a:Addr) (t:Tr),vs=[.ref a]/\Ob c H a t/\t.size<=1000/\∀ l us H',aI H H'->H l=none->H' l=some (.lst us)->cC (RwV H') us t.rows->Q (.ref l) H'
end Mine
namespace L2
open PySem PySem.Spec PyProof.Rows
section
variable {X:Cx} {pins:List (Addr×Obj)} {σ:St} {H H':Hp} {s s':Shared} {h':Heap}
theorem Inv.turnedL {t':Nat} {fp:List Addr} (I:Inv X pins σ H s) (kp:∀ b o,b ∉ fp->s.heap.get? b=some o->h'.get? b=some o) (hf:∀ b∈fp,iW X pins H b):Inv X pins σ H {s with heap:=h',toks:=t' }:=by
 have far:∀ b u,H b=some u->b ∉ fp:=λb u e z=>by
  have:=(hf b z).1
  rw [e] at this;cases this
 refine I.step (ch:=fp) (g':=s.gens) (d':=s.drawn) (λb hb=>⟨(hf b hb).2.2.2.1,(hf b hb).2.1,(hf b hb).2.2.2.2.1,(hf b hb).2.2.2.2.2⟩) (λb o _ _ hc e _=>kp b o hc e) (λb o _ _ hc e _=>⟨o.slots,kp b o hc e⟩) (λ_ _ _ _ n=>n)
  (λb o hc e=>⟨o,kp b o hc e⟩) (λ_ _ e=>e) (λ_ _ _ e=>e) (λb ps e=>⟨#[],by rw [e];simp⟩) (λm hm=>?_) (λb u e=>?_) I.bare
 ·obtain ⟨o,es,ep,ho,r⟩:=hm
  exact ⟨o,es,ep,kp _ o (λz=>(hf _ z).2.1 rfl) ho,r⟩
 ·exact (I.hok b u e).stay (λc v hc q=>kp c v (hc.elim (λz=>by rw [z];exact far b u e) λz=>far c _ z) q) (λ_ q=>q) λ_ _ q=>q
theorem Inv.trackO {a:Addr} {o:HO} (I:Inv X pins σ H s) (n:H a=none) (new:X.s₀.heap.get? a=none) (hL:a≠X.env.locals) (hc:∀ x c,X.env.cells.lookup x=some c->c≠a) (hp:∀ p∈X.pn++pins,p.1≠a)
  (p:cf X.prog X.w (upd H a o) s.heap a o):Inv X pins σ (upd H a o) s :=
 ⟨I.ok,I.os,I.bare,⟨I.base.keep,I.base.slot,λb o e z hx=>by rw [au (λq=>by rw [q,new] at e;cases e)];exact I.base.free b o e z hx,I.base.there,
   λb xs e=>by have q:=I.base.tups b xs e;rw [au (aw q n)];exact q,λb o u e=>by have q:=I.base.frzs b o u e;rw [au (aw q n)];exact q,
   λb ps e=>by obtain ⟨m,q⟩:=I.base.tbls b ps e;exact ⟨m,by rw [au (aw q n)];exact q⟩⟩,
  I.loc,I.cell,by rw [au (Ne.symm hL)];exact I.free,λx c e=>by rw [au (hc x c e)];exact I.freeC x c e,
  λq hq=>by obtain ⟨a1,a2,a3⟩:=I.pin q hq;exact ⟨a1,by rw [au (hp q hq)];exact a2,a3⟩,
  λb u e=>by
   by_cases hb:b=a
   ·subst hb
    rw [ae] at e
    cases e
    exact p
   ·rw [au hb] at e
    exact (I.hok b u e).stay (λ_ _ _ z=>z) (λc z=>by rw [au (aw z n)];exact z) λc xs z=>by rw [au (aw z n)];exact z,
  I.len⟩
end
noncomputable def ItT (go:Nat->Hp->Prop) (src:Nat->Hp->List V->Prop) (n:Nat->Hp->Prop):It :=
 ⟨go,λi H v H'=>∃(T:Addr) (vs:List V),H T=none/\v=.ref T/\H'=upd H T (.tup vs)/\src i H vs,n⟩
theorem qU {X:Cx} {elts:List Expr} {kk:Nat} {tpos:Pos} {I₀:Addr} {fp' wr fp:List Addr} {n:Nat} {Pt:Nat->Array Value->Prop} {St:Nat->Heap->Prop} {Mid:Nat->Addr->Heap->Prop} (W:WalksT X.prog X.w X.A I₀ fp' wr n Pt St Mid)
  {pins:List (Addr×Obj)} {s:Shared} {σ:L2.St} {H:Hp} {E:Value->Shared->Prop} {i:Nat} {vs:List V} {src:Nat->Hp->List V->Prop} {tn:Nat->Heap->Prop} (I:Inv X pins σ H s) (hf:∀ b∈fp,iW X pins H b) (hob:∀ b∈fp,∃ o,s.heap.get? b=some o) (hw:∀ b∈wr,b∈fp) (hi:i < n) (st:St i s.heap)
  (hv:∀ vals,Pt i vals->Vals vs vals.toList) (hz:vs.length<=sizeLine) (hsrc:src i H vs) (htn:∀ h,St (i+1) h->tn (i+1) h) {gop stp:Nat->Hp->Prop} :
  wpAny (model X.prog X.w) X.A (pyNext (.ref I₀)) (λr s1=>∃ u,r=some u/\
   wpAny (model X.prog X.w) X.A (letOwnedTupleGo (.Tuple elts kk tpos) (.ref I₀) u) (λ_ s2=>∃ x H',Inv X pins σ H' s2/\RelV x u/\(ItT gop src stp).yld i H x H'/\tn (i+1) s2.heap/\∀ b∈fp,H' b=none) E s1) E s:=by
 refine W.item i s _ _ hi st λT vals h1 tk hP hT hTup hM kp=>?_
 refine ⟨.ref T,rfl,W.go elts kk tpos i T {s with heap:=h1,toks:=tk} _ _ hM λh2 hst kp2=>?_⟩
 have I1:Inv X pins σ H {s with heap:=h2,toks:=tk}:=I.turnedL (λb o hb e=>kp2 b o (λz=>hb (hw b z)) (kp b o (λz=>hb (hw b z)) e)) hf
 have nT:H T=none:=I.hok.fresh hT
 have tup:h2.IsTuple T vals:=by
  obtain ⟨o,e,r⟩:=hTup
  exact ⟨o,kp2 T o (W.apart i T h1 hM) e,r⟩
 have new:X.s₀.heap.get? T=none:=by
  cases z:X.s₀.heap.get? T with
  | none=>rfl
  | some o=>exact absurd (Nat.lt_of_lt_of_le (Heap.lt_size z) (Nat.le_trans I.sz hT)) (Nat.lt_irrefl _)
 refine ⟨.ref T,upd H T (.tup vs),I1.trackO nT new (Nat.ne_of_gt (Nat.lt_of_lt_of_le I.lt hT)) (λx c e z=>?_) (λp hp z=>?_) ⟨hz,vals.toList,hv vals hP,(by rw [Array.toArray_toList];exact tup)⟩,rfl,⟨T,vs,nT,rfl,rfl,hsrc⟩,htn _ hst,λb hb=>?_⟩
 ·obtain ⟨v,o,ho,_⟩:=I.cell x c e
  exact absurd (Nat.lt_of_lt_of_le (Heap.lt_size ho) (by rw [z];exact hT)) (Nat.lt_irrefl _)
 ·exact absurd (Nat.lt_of_lt_of_le (Heap.lt_size (I.pin p hp).1) (by rw [z];exact hT)) (Nat.lt_irrefl _)
 ·have e0:=(hf b hb).1
  obtain ⟨o,ho⟩:=hob b hb
  have bT:b≠T:=λz=>absurd (Nat.lt_of_lt_of_le (Heap.lt_size ho) (by rw [z];exact hT)) (Nat.lt_irrefl _)
  rw [au bT]
  exact e0
noncomputable def srcE (K:PySem.W.Frag) (a:Addr):Nat->Hp->List V->Prop:=λi H vs=>∃ x,vs=[.int i,x]/\∀ xs,SqL K H a xs->xs[i]?=some x
noncomputable def ItE (K:PySem.W.Frag) (a:Addr):It:=ItT (λi H=>∃ xs x,SqL K H a xs/\xs[i]?=some x) (srcE K a) λi H=>∃ xs,SqL K H a xs/\xs.length<=i
theorem rN {h:Heap} {a b:Addr} {its:Array Value} {o:Obj} {T:String} (l:h.IsList a its) (e:h.get? b=some o) (c:o.cls=.type T) (n:T≠"list"):a≠b:=λz=>by
 obtain ⟨o',e',c',_⟩:=l
 rw [z,e] at e'
 cases e'
 rw [c] at c'
 exact n (Value.type.inj c')
theorem Ac {P:Program} {w:World} {K:PySem.W.Frag} {elts:List Expr} {kk:Nat} {tpos:Pos} (a e it:Addr) (hei:e≠it) :
  Turn P w K (.Tuple elts kk tpos) (ItE K a) [e,it] e (λi h=>(∃ old,IsEnum h e it i old)/\h.IsListIter it a i) where
 mem:=by simp
 obj:=λi h st b hb=>by
  obtain ⟨⟨old,he⟩,o,ho,_,hd⟩:=st
  rcases List.mem_cons.mp hb with rfl | hb
  ·exact ⟨_,he,λv z=>by cases z⟩
  ·rw [List.mem_singleton.mp hb]
   exact ⟨o,ho,λv z=>by rw [hd] at z;cases z⟩
 keep:=λi h h' st k=>by
  obtain ⟨⟨old,he⟩,l⟩:=st
  exact ⟨⟨old,k e (by simp) _ he⟩,l.at λo z=>k it (by simp) o z⟩
 item:=by
  intro X hP hw hK hc i pins s σ H E I hf st hg
  subst hP hw hK
  obtain ⟨xs,x,hq,hx⟩:=hg
  obtain ⟨its,rv,p,hz⟩:=I.list hq
  obtain ⟨u,hu,ru⟩:=rv.get hx
  obtain ⟨⟨old,he⟩,hit⟩:=st
  have hL:=p.isList
  have ne1:a≠e:=rN hL he rfl (by decide)
  have ne2:a≠it:=by
   obtain ⟨o,ho,hc',_⟩:=id hit
   exact rN hL ho hc' (by decide)
  have W:=WalksT.enumerateD (A:=X.A) (Draws.list (prog:=X.prog) (w:=X.w) (A:=X.A.in1) (I.ok.hd hc) it a ne2 its.toArray) e hei (by simp;exact ⟨hei,Ne.symm ne1⟩) (by simp)
  refine qU (fp:=[e,it]) (vs:=[.int i,x]) (src:=srcE X.K a) (tn:=λi h=>(∃ old,IsEnum h e it i old)/\h.IsListIter it a i) W I hf (λb hb=>?_) (λb hb=>hb) (by have:=(List.getElem?_eq_some_iff.mp hu).1;simpa using this) ⟨⟨old,he⟩,hit,hL⟩ (λvals hP=>?_) (by show 2<=sizeLine;decide) ⟨x,rfl,λys hy=>by rw [I.list_inj hy hq];exact hx⟩ λh st=>⟨?_,st.2.1⟩
  ·rcases List.mem_cons.mp hb with rfl | hb
   ·exact ⟨_,he⟩
   ·rw [List.mem_singleton.mp hb]
    obtain ⟨o,ho,_⟩:=id hit
    exact ⟨o,ho⟩
  ·obtain ⟨t,y,hy,rfl⟩:=hP
   have ey:y=u:=by
    have:its[i]?=some y:=by simpa using hy
    rw [hu] at this
    exact (Option.some.inj this).symm
   subst ey
   exact .cons ⟨t,rfl⟩ (.cons ru .nil)
  ·obtain ⟨old',z⟩:=st.1
   exact ⟨old',z⟩
 done:=by
  intro X hP hw hK hc i pins s σ H E I hf st hg
  subst hP hw hK
  obtain ⟨xs,hq,hx⟩:=hg
  obtain ⟨its,rv,p,hz⟩:=I.list hq
  obtain ⟨⟨old,he⟩,hit⟩:=st
  have hl:=rv.length
  obtain ⟨f0,f1,f2,f3,f4,f5⟩:=hf it (by simp)
  exact wpAny_pyNext_enum_end (I.ok.hd hc) he hit p.isList (by simp;omega) λh' eb=>⟨rfl,I.turned (t':=s.toks) (λb o hb e=>eb b o hb e) f0 f1 f3 f4 f5⟩
 self:=λ_ _ _ _ _ st h=>by
  obtain ⟨⟨old,he⟩,_⟩:=st
  exact wpAny_pyIter_enum he h
section
variable {X:Cx}
noncomputable def iEnum (K:PySem.W.Frag) (tl:TE):TI:=fun σ H R=>tl σ H λx H1=>∃ a,x=.ref a/\(∃ xs,SqL K H1 a xs)/\R (ItE K a) H1
theorem tq {elts:List Expr} {kk:Nat} {tpos p pos:Pos} {e:Expr} {te:TE} (hg:Gl X "enumerate") (hm:X.mg "enumerate"=none) (he:PE X e te)
  (hs:starEach [e] X.env=[(false,eval e X.env)]:=by rfl):PI X (.Tuple elts kk tpos) (.Call (.Name "enumerate" p) [e] [] pos) (iEnum X.K te):=by
 intro pins s σ H R I h
 have b1:bootBuiltins "enumerate"=some (.type "enumerate"):=by decide +kernel
 refine wpAny_Call_Name_kw (mX I hg hm b1 ?_ (by decide) (by decide))
 refine PyProof.Rows.callWith_type1 ?_ hs (by rfl)
 rw [hs]
 refine Calls.spliced_cons (thn (he pins s σ H _ I h) λu s1 zz=>?_)
 obtain ⟨y,H1,I1,ry,a,ey,⟨xs,hq⟩,q⟩:=zz
 subst ey
 have eu:u=Value.ref a:=ry
 subst eu
 refine Calls.spliced_nil ?_
 obtain ⟨its,rv,pl,hz⟩:=I1.list hq
 refine call_enumerate_list pl.isList λh' e1 e2 e3 kp=>?_
 have I2:Inv X pins σ H1 {s1 with heap:=h' }:=I1.kept (t':=s1.toks) kp
 refine wpAny_pyIter_enum (s:={s1 with heap:=h' }) e1 ?_
 refine ⟨_,[s1.heap.objs.size+1,s1.heap.objs.size],_,ItE X.K a,H1,rfl,I2,Ac a _ _ (Nat.ne_of_gt (Nat.lt_succ_self _)),⟨⟨_,e1⟩,e2⟩,λb hb=>?_,q⟩
 have nb:s1.heap.objs.size<=b:=by
  rcases List.mem_cons.mp hb with rfl | hb
  ·exact Nat.le_succ _
  ·rw [List.mem_singleton.mp hb];exact Nat.le_refl _
 exact I1.fpOk nb (I1.hok.fresh nb)
end
theorem qd {K:PySem.W.Frag} {a:Addr} {xs:List V} {g:TG} {tb:TS} {D:Ends} {σ:St} {H:Hp} (Pv:Nat->St->Hp->Prop) (h0:Pv 0 σ H) (hl:∀ i σ H,i<=xs.length->Pv i σ H->SqL K H a xs)
  (hs:∀ i x T σ H,xs[i]?=some x->Pv i σ H->H T=none->g (.ref T) σ (upd H T (.tup [.int i,x])) fun σ2 H2=>tb {D with nx:=Pv (i+1),ct:=Pv (i+1),bk:=D.nx} σ2 H2) (hd:∀ σ H,Pv xs.length σ H->D.nx σ H) :
  ∃ W:Nat->Nat->St->Hp->Prop,(∃ m,W 0 m σ H)/\∀ i m σ H,W i m σ H->
   ((ItE K a).stop i H/\D.nx σ H)\/((ItE K a).go i H/\∃ N:St->Hp->Prop,(∀ σ' H',N σ' H'->∃ m',m' < m/\W (i+1) m' σ' H')/\∀ x H',(ItE K a).yld i H x H'->g x σ H' fun σ2 H2=>tb {D with nx:=N,ct:=N,bk:=D.nx} σ2 H2):=by
 refine ⟨λi m σ H=>m=xs.length - i/\i<=xs.length/\Pv i σ H,⟨xs.length,by simp,Nat.zero_le _,h0⟩,?_⟩
 rintro i m σ H ⟨rfl,hi,p⟩
 have q:=hl i σ H hi p
 by_cases hlt:i < xs.length
 ·refine .inr ⟨⟨xs,xs[i],q,by simp [hlt]⟩,Pv (i+1),fun σ' H' p'=>⟨xs.length - (i+1),by omega,rfl,hlt,p'⟩,λx H' y=>?_⟩
  obtain ⟨T,vs,nT,rfl,rfl,x,rfl,hx⟩:=y
  exact hs i x T σ H (hx xs q) p nT
 ·have e:i=xs.length:=by omega
  subst e
  exact .inl ⟨⟨xs,q,Nat.le_refl _⟩,hd σ H p⟩
open PySem.AutoSeq1
noncomputable abbrev wY (t:Addr):Obj:={cls:=.type "tuple_iterator",data:=.fields #[.ref t,.int 0 0] }
section
variable {prog:Program} {w:World} {A:Around} {E:Value->Shared->Prop} {s:Shared}
theorem pO {it t:Addr} {i:Nat} {ys:Array Value} {x:Value} {Q:Value->Shared->Prop} (st:s.heap.IsTupleIter it t i) (tp:s.heap.IsTuple t ys) (e:ys[i]?=some x)
  (k:∀ h',h'.IsTupleIter it t (i+1)->Heap.SameBut it s.heap h'->Q x {s with heap:=h' }):wpAny (model prog w) A (Builtin.SmallTypes.nextOf (.ref it)) Q E s:=by
 obtain ⟨ob,gb,cb,db⟩:=id st;obtain ⟨ot,gt,_,nt,dt⟩:=tp
 unfold Builtin.SmallTypes.nextOf;refine wpAny_bind (wpAny_callSpecial?_slot (name:=Str.ofString "__next__") st.typeIs F.slot_tuple_iterator_next (wpAny_call_entry F.slot_tuple_iterator_next st.typeIs F.entry_tuple_iterator_next ?_ (F.args_tuple_iterator_next_1 _)))
 show wpAny _ _ (field (.ref it) 0 >>= _) _ _ s;refine wpAny_bind (wpAny_field gb db (x:=.ref t) rfl ?_)
 show wpAny _ _ (if (Value.ref t == Value.none)=true then _ else _) _ _ s;rw [if_neg (show ¬ ((Value.ref t == Value.none)=true) from Bool.false_ne_true)]
 show wpAny _ _ (field (.ref it) 1 >>= _) _ _ s;refine wpAny_bind (wpAny_field gb db (x:=.int i 0) rfl ?_)
 show wpAny _ _ (seqItems? (.ref t) >>= _) _ _ s;refine wpAny_bind (wpAny_seqItems gt dt ?_)
 simp only [Int.toNat_natCast,e];refine wpAny_bind (wpAny_setField gb db (by simp) (wpAny_pure ⟨x,rfl,wpAny_pure (k _ ?_ (Heap.SameBut.update ..))⟩))
 exact ⟨_,Heap.get?_update_self _ gb (Obj.isFreed_of_fields (Obj.data_mapFields db _)),(Obj.cls_mapFields ..).trans cb,by rw [Obj.data_mapFields db];simp [rawInt]⟩
theorem qF {it t:Addr} {i:Nat} {ys:Array Value} {Q:Value->Shared->Prop} (hd:A.handled=none) (st:s.heap.IsTupleIter it t i) (tp:s.heap.IsTuple t ys) (e:ys[i]?=none)
  (k:∀ h' x,Heap.ExtBut it s.heap h'->(∃ o,h'.get? x=some o/\o.cls=.type "StopIteration")->E (.ref x) {s with heap:=h' }):wpAny (model prog w) A (Builtin.SmallTypes.nextOf (.ref it)) Q E s:=by
 obtain ⟨ob,gb,cb,db⟩:=id st;obtain ⟨ot,gt,_,nt,dt⟩:=tp
 unfold Builtin.SmallTypes.nextOf;refine wpAny_bind (wpAny_callSpecial?_slot (name:=Str.ofString "__next__") st.typeIs F.slot_tuple_iterator_next (wpAny_call_entry F.slot_tuple_iterator_next st.typeIs F.entry_tuple_iterator_next ?_ (F.args_tuple_iterator_next_1 _)))
 show wpAny _ _ (field (.ref it) 0 >>= _) _ _ s;refine wpAny_bind (wpAny_field gb db (x:=.ref t) rfl ?_)
 show wpAny _ _ (if (Value.ref t == Value.none)=true then _ else _) _ _ s;rw [if_neg (show ¬ ((Value.ref t == Value.none)=true) from Bool.false_ne_true)]
 show wpAny _ _ (field (.ref it) 1 >>= _) _ _ s;refine wpAny_bind (wpAny_field gb db (x:=.int i 0) rfl ?_)
 show wpAny _ _ (seqItems? (.ref t) >>= _) _ _ s;refine wpAny_bind (wpAny_seqItems gt dt ?_)
 simp only [Int.toNat_natCast,e];refine wpAny_bind (wpAny_rule (wpAny_bind (wpAny_setField gb db (by simp) ?_)))
 show wpAny _ _ (newExc (.type "StopIteration") [] >>= _) _ _ _;refine wpAny_bind ?_;simp only [newExc,newTuple]
 refine wpAny_bind (wpAny_newObj_type ?_ (by size_fits));refine wpAny_bind (m:=firstArgMember _ _) (wpAny_of_eq (a:=Value.none) (by first | rfl | (simp only [firstArgMember];rfl)) ?_);refine wpAny_newObj_type ?_ (by size_fits)
 simp only [raiseNew];refine wpAny_bind (wpAny_handled ?_);first | rw [show A.in1.handled=none from hd] | rw [hd]
 refine wpAny_bind (wpAny_pure (wpAny_throw ?_));exact k _ _ (((Heap.SameBut.update ..).extBut.push _).push _) ⟨_,Heap.get?_push_size _ rfl,rfl⟩
end
section
variable {X:Cx}
end
structure ZOwn (z TI TO i1 i2:Addr):Prop where
 a1:TI≠z
 a2:TO≠z
 a3:i1≠z
 a4:i2≠z
 a5:TI≠TO
 a6:TI≠i1
 a7:TI≠i2
 a8:TO≠i1
 a9:TO≠i2
 a10:i1≠i2
section
variable {X:Cx}
end
section
variable {X:Cx}
end
section
variable {X:Cx}
noncomputable def rInD (K:PySem.W.Frag) (no:Bool):R2:=λx y H Q=>∃ d ds a ys,yq K H d x/\y=.ref a/\SqL K H a ys/\DatAll K H ds ys/\PyData.canLayAll0 ds=true/\d.canLay0=true/\PyData.depthAll ds<=60/\Q (.bl (Bool.xor no (ds.any λe=>PyData.eqv e d))) H
theorem op_inD (hu:X.A.units+64 < cLine):OpR X (compareOp .In) (rInD X.K false):=by
 intro pins s σ H x y u v Q I rx ry h
 obtain ⟨d,ds,a,ys,hx,rfl,hl,hd,c1,c2,c3,q⟩:=h
 obtain ⟨bs,r1⟩:=hx.reads I rx
 obtain ⟨as,r2⟩:=yq.reads I (d:=.list ds) (v:=.ref a) (.inr ⟨ds,a,ys,rfl,rfl,hl,hd⟩) ry
 refine PySem.SeqAt.in_list_reads r2 r1 c1 c2 (by have:=Nat.min_le_left (PyData.depthAll ds) d.depth;omega) ⟨_,H,I,?_,q⟩
 exact congrArg Value.bool (Bool.false_xor _).symm
theorem Ax (hu:X.A.units+64 < cLine):OpR X (compareOp .NotIn) (rInD X.K true):=by
 intro pins s σ H x y u v Q I rx ry h
 obtain ⟨d,ds,a,ys,hx,rfl,hl,hd,c1,c2,c3,q⟩:=h
 obtain ⟨bs,r1⟩:=hx.reads I rx
 obtain ⟨as,r2⟩:=yq.reads I (d:=.list ds) (v:=.ref a) (.inr ⟨ds,a,ys,rfl,rfl,hl,hd⟩) ry
 refine PySem.SeqAt.notIn_list_reads r2 r1 c1 c2 (by have:=Nat.min_le_left (PyData.depthAll ds) d.depth;omega) ⟨_,H,I,?_,q⟩
 exact congrArg Value.bool (Bool.true_xor _).symm
end
section
variable {X:Cx}
noncomputable def zd (K:PySem.W.Frag):V->List V->Hp->VK->Prop:=λx vs H Q=>∃(l:Addr) (ys:List V) (y:V) (ds:List PyData) (d:PyData) (j:Nat) (e0:PyData),x=.ref l/\vs=[y]/\H l=some (.lst ys)/\DatAll K H ds ys/\Dat K H d y/\PyData.canLayAll0 ds=true/\d.canLay0=true/\PyData.depthAll ds<=60/\
 ds[j]?=some e0/\PyData.eqv e0 d=true/\(∀ m e,m < j->ds[m]?=some e->PyData.eqv e d=false)/\Q (.int (j:Int)) H
theorem Bb (hu:X.A.units+64 < cLine):MtM X "list.index" (zd X.K):=by
 intro pins s σ H x vs v us Q I rx rv h
 obtain ⟨l,ys,y,ds,d,j,e0,rfl,rfl,hH,hds,hd,c1,c2,c3,hj,hit,hno,q⟩:=h
 cases rx
 obtain ⟨u,rfl,ru⟩:=vals1 rv
 obtain ⟨z,its,n,r,hl,e⟩:=I.lstM hH
 obtain ⟨as,ra⟩:=DatAll.reads I ds hds r
 obtain ⟨bs,rd⟩:=Dat.reads I d hd ru
 have hmap:=PySem.SeqAt.readsAll_map ds its as c1 ra
 have hlen:its.length=ds.length:=by rw [<- hmap,List.length_map]
 have hjl:j < ds.length:=(List.getElem?_eq_some_iff.mp hj).1
 have at_:∀ m (hm:m < its.length),ds[m]?=some (PySem.SeqAt.readOf s.heap its[m]):=λm hm=>by
  rw [<- hmap,List.getElem?_map,List.getElem?_eq_getElem hm]
  rfl
 refine call_meets F.slot_list_index ⟨_,e,rfl⟩ F.entry_list_index (F.args_list_index_2 _ _)
  (PySem.SeqAt.list_indexAt l its.toArray n _ _ u (λy=>PyData.eqv (PySem.SeqAt.readOf s.heap y) d) j (by rw [List.size_toArray];omega) ?_ ?_ ?_) ⟨e,PySem.SeqAt.items_eqAt (as:=as) (by simpa using ra) rd c1 c2 (by have:=Nat.min_le_left (PyData.depthAll ds) d.depth;omega),⟨.int (j:Int),H,I.tok _,⟨_,rfl⟩,q⟩⟩
 ·have:its.length<=sizeLine:=by omega
  have:sizeLine < 2 ^ 62:=by decide
  omega
 ·have h1:=at_ j (by omega)
  rw [hj] at h1
  show PyData.eqv (PySem.SeqAt.readOf s.heap its[j]) d=true
  rw [<- Option.some.inj h1]
  exact hit
 ·intro m hm hlt
  have hm':m < its.length:=by simpa using hm
  exact hno m _ hlt (at_ m hm')
end
end L2
namespace Mine
open PySem L2
noncomputable def kD:Key->PyData
 | .inl i=>.int i
 | .inr x=>.str x
noncomputable def rwD (r:Rw):PyData:=.tuple (r.map kD)
theorem kD_eqv (a b:Key):PyData.eqv (kD a) (kD b)=decide (a=b):=by
 cases a <;> cases b <;> simp [kD,PyData.eqv] <;> (rw [Bool.eq_iff_iff];simp)
theorem sO (a b:Rw):PyData.eqv (rwD a) (rwD b)=decide (a=b):=by
 simp only [rwD,PyData.eqv]
 exact zG kD_eqv a b
theorem kD_dat {K:PySem.W.Frag} {H:Hp} (k:Key):Dat K H (kD k) (kV k):=by cases k <;> rfl
theorem Ec {K:PySem.W.Frag} {H:Hp}:∀ r:Rw,DatAll K H (r.map kD) (r.map kV)
 | []=>rfl
 | k::r=>⟨_,_,rfl,kD_dat k,Ec r⟩
theorem RwV.dat {K:PySem.W.Frag} {H:Hp} {v:V} {r:Rw} (h:RwV H v r):Dat K H (rwD r) v:=by
 obtain ⟨a,rfl,e⟩:=h
 exact ⟨a,_,rfl,SqT.of e,Ec r⟩
theorem RwV.all {K:PySem.W.Frag} {H:Hp} {vs:List V} {rs:List Rw} (h:cC (RwV H) vs rs):DatAll K H (rs.map rwD) vs:=by
 induction h with
 | nil=>rfl
 | cons r _ ih=>exact ⟨_,_,rfl,r.dat,ih⟩
noncomputable def KOk:Key->Prop
 | .inl _=>True
 | .inr x=>PyData.strOk x=true
noncomputable def nq (r:Rw):Prop:=∀ k∈r,KOk k
theorem kD_lay {k:Key} (h:KOk k):(kD k).canLay0=true:=by
 cases k with
 | inl _=>rfl
 | inr x=>simp only [kD,PyData.canLay0];exact h
theorem zC:∀{r:Rw},nq r->PyData.canLayAll0 (r.map kD)=true
 | [],_=>rfl
 | k::r,h=>by simp [PyData.canLayAll0,kD_lay (h k (by simp)),zC (r:=r) λx hx=>h x (List.mem_cons_of_mem _ hx)]
theorem jb {x:Str} {is:List Nat} (h:PyData.strOk x=true):nq (dS x is):=λk hk=>by
 rcases List.mem_cons.mp hk with rfl | hk
 ·exact h
 ·obtain ⟨i,_,rfl⟩:=List.mem_map.mp hk
  exact True.intro
theorem jd {rs:List Rw} {r:Rw} (h:∀ x∈rs,nq x) (hr:nq r):∀ x∈(aS rs r).1,nq x:=by
 unfold aS
 cases idx rs r with
 | some i=>exact h
 | none =>
  intro x hx
  rcases List.mem_append.mp hx with hx | hx
  ·exact h x hx
  ·rw [List.mem_singleton.mp hx];exact hr
theorem w5_ok (w:W5):PyData.strOk w.str=true:=by cases w <;> decide +kernel
theorem word_ok (t:Tr):PyData.strOk t.word=true:=by
 cases t with
 | fold w a b=>exact w5_ok w
 | never=>show PyData.strOk "never"=true;decide +kernel
 | always=>show PyData.strOk "always"=true;decide +kernel
 | lp=>show PyData.strOk "p"=true;decide +kernel
 | lq=>show PyData.strOk "q"=true;decide +kernel
 | no t=>show PyData.strOk "not"=true;decide +kernel
theorem oq:∀(t:Tr) (rs:List Rw),(∀ x∈rs,nq x)->∀ x∈(t.putR rs).1,nq x
 | .no t,rs,h=>jd (oq t rs h) (jb (by decide +kernel))
 | .fold w a b,rs,h=>jd (oq b _ (oq a rs h)) (jb (w5_ok w))
 | .never,rs,h=>jd h (jb (by decide +kernel))
 | .always,rs,h=>jd h (jb (by decide +kernel))
 | .lp,rs,h=>jd h (jb (by decide +kernel))
 | .lq,rs,h=>jd h (jb (by decide +kernel))
theorem rL:∀ r:Rw,PyData.depthAll (r.map kD)=0
 | []=>rfl
 | k::r=>by
  rw [List.map_cons]
  show max (kD k).depth (PyData.depthAll (r.map kD))=0
  rw [rL r]
  cases k <;> rfl
theorem xo {r:Rw} (h:nq r):(rwD r).canLay0=true:=by simp only [rwD,PyData.canLay0];exact zC h
theorem sN:∀{rs:List Rw},(∀ x∈rs,nq x)->PyData.canLayAll0 (rs.map rwD)=true
 | [],_=>rfl
 | r::rs,h=>by simp [PyData.canLayAll0,xo (h r (by simp)),sN (rs:=rs) λx hx=>h x (List.mem_cons_of_mem _ hx)]
theorem CJ (r:Rw):(rwD r).depth<=1:=by
 show PyData.depthAll (r.map kD)+1<=1
 rw [rL]
 exact Nat.le_refl _
theorem mO:∀ rs:List Rw,PyData.depthAll (rs.map rwD)<=1
 | []=>Nat.zero_le _
 | r::rs=>by
  rw [List.map_cons]
  show max (rwD r).depth (PyData.depthAll (rs.map rwD))<=1
  exact Nat.max_le.mpr ⟨CJ r,mO rs⟩
theorem rws_any (rs:List Rw) (r:Rw):((rs.map rwD).any λy=>PyData.eqv y (rwD r))=(idx rs r).isSome:=by
 induction rs with
 | nil=>rfl
 | cons x t ih =>
  rw [List.map_cons,List.any_cons,ih,sO]
  show _=(if x=r then some 0 else (idx t r).map (·+1)).isSome
  by_cases z:x=r
  ·rw [if_pos z,decide_eq_true z];rfl
  ·rw [if_neg z,decide_eq_false z]
   cases idx t r <;> rfl
theorem rO:∀{rs:List Rw} {r:Rw} {i:Nat},idx rs r=some i->∀ m x,m < i->rs[m]?=some x->x≠r
 | [],_,_,h=>by cases h
 | y::t,r,i,h=>by
  intro m x hm hx
  unfold idx at h
  split at h
  ·cases h;omega
  ·rename_i z
   cases e:idx t r with
   | none=>rw [e] at h;cases h
   | some j =>
    rw [e] at h
    have h':j+1=i:=Option.some.inj h
    subst h'
    cases m with
    | zero=>cases hx;exact z
    | succ m=>exact rO e m x (by omega) hx
inductive Gr where
 | ne | al | p | q
 | no (i:Nat)
 | fold (u:W5) (i j:Nat)
noncomputable def Gr.word:Gr->Str
 | .ne=>"never" | .al=>"always" | .p=>"p" | .q=>"q" | .no _=>"not" | .fold u _ _=>u.str
noncomputable def Gr.nums:Gr->List Nat
 | .no i=>[i]
 | .fold _ i j=>[i,j]
 | _=>[]
noncomputable def Gr.rw (g:Gr):Rw:=dS g.word g.nums
noncomputable def GrOk (k:Nat) (g:Gr):Prop:=∀ i∈g.nums,i < k
noncomputable def GrsOk (gs:List Gr):Prop:=∀ k g,gs[k]?=some g->GrOk k g
noncomputable def GrT (ts:List Tr):Gr->Tr->Prop
 | .ne,.never=>True
 | .al,.always=>True
 | .p,.lp=>True
 | .q,.lq=>True
 | .no i,.no t=>ts[i]?=some t
 | .fold u i j,.fold v a b=>u=v/\ts[i]?=some a/\ts[j]?=some b
 | _,_=>False
theorem lZ {α:Type} {ts e:List α} {i:Nat} {t:α} (h:ts[i]?=some t):(ts++e)[i]?=some t:=by
 rw [List.getElem?_append_left (List.getElem?_eq_some_iff.mp h).1]
 exact h
theorem GrT.more {ts e:List Tr} {g:Gr} {t:Tr} (h:GrT ts g t):GrT (ts++e) g t:=by
 cases g <;> cases t <;> first | exact h | exact lZ h | exact ⟨h.1,lZ h.2.1,lZ h.2.2⟩
theorem mw {α:Type} {o:Option α} {a b:α} (h:o=some a) (k:o=some b):a=b:=by rw [h] at k;exact Option.some.inj k
theorem GrT.uniq {ts:List Tr} {g:Gr} {t t':Tr} (h:GrT ts g t) (k:GrT ts g t'):t=t':=by
 cases g with
 | no i =>
  cases t <;> first | exact h.elim | skip
  cases t' <;> first | exact k.elim | skip
  exact congrArg Tr.no (mw h k)
 | fold u i j =>
  cases t <;> first | exact h.elim | skip
  cases t' <;> first | exact k.elim | skip
  obtain ⟨rfl,h1,h2⟩:=h
  obtain ⟨rfl,k1,k2⟩:=k
  rw [mw h1 k1,mw h2 k2]
 | ne=>cases t <;> first | exact h.elim | (cases t' <;> first | exact k.elim | rfl)
 | al=>cases t <;> first | exact h.elim | (cases t' <;> first | exact k.elim | rfl)
 | p=>cases t <;> first | exact h.elim | (cases t' <;> first | exact k.elim | rfl)
 | q=>cases t <;> first | exact h.elim | (cases t' <;> first | exact k.elim | rfl)
theorem w5_inj {u v:W5} (h:u.str=v.str):u=v:=by
 cases u <;> cases v <;> first | rfl | exact absurd h (by decide +kernel)
theorem vE:∀{a b:List Nat},(a.map λi:Nat=>(Sum.inl (i:Int):Key))=b.map (λi:Nat=>(Sum.inl (i:Int):Key))->a=b
 | [],[],_=>rfl
 | [],_::_,h=>nomatch h
 | _::_,[],h=>nomatch h
 | x::a,y::b,h=>by
  have e1:=(List.cons.inj h).1
  have e2:=vE (List.cons.inj h).2
  have:(x:Int)=(y:Int):=Sum.inl.inj e1
  rw [e2,show x=y by omega]
theorem rw_inj {g k:Gr} (h:g.rw=k.rw):g=k:=by
 have e1:g.word=k.word:=Sum.inr.inj (List.cons.inj h).1
 have e2:g.nums=k.nums:=vE (List.cons.inj h).2
 cases g with
 | no i =>
  cases k with
  | no j=>rw [show i=j from (List.cons.inj e2).1]
  | fold u a b=>exact absurd (congrArg List.length e2) (by show 1≠2;decide)
  | _=>exact nomatch e2
 | fold u a b =>
  cases k with
  | no j=>exact absurd (congrArg List.length e2) (by show 2≠1;decide)
  | fold v c d =>
   have z:=List.cons.inj e2
   rw [w5_inj e1,z.1,(List.cons.inj z.2).1]
  | _=>exact nomatch e2
 | ne=>cases k <;> first | rfl | exact absurd e1 (by decide +kernel) | exact absurd (congrArg List.length e2) (by show 0≠1;decide) | exact absurd (congrArg List.length e2) (by show 0≠2;decide)
 | al=>cases k <;> first | rfl | exact absurd e1 (by decide +kernel) | exact absurd (congrArg List.length e2) (by show 0≠1;decide) | exact absurd (congrArg List.length e2) (by show 0≠2;decide)
 | p=>cases k <;> first | rfl | exact absurd e1 (by decide +kernel) | exact absurd (congrArg List.length e2) (by show 0≠1;decide) | exact absurd (congrArg List.length e2) (by show 0≠2;decide)
 | q=>cases k <;> first | rfl | exact absurd e1 (by decide +kernel) | exact absurd (congrArg List.length e2) (by show 0≠1;decide) | exact absurd (congrArg List.length e2) (by show 0≠2;decide)
inductive Tab:List Gr->List Tr->Prop where
 | nil:Tab [] []
 | snoc {gs:List Gr} {ts:List Tr} {g:Gr} {t:Tr}:Tab gs ts->GrT ts g t->Tab (gs++[g]) (ts++[t])
theorem Tab.len {gs:List Gr} {ts:List Tr} (h:Tab gs ts):gs.length=ts.length:=by
 induction h with
 | nil=>rfl
 | snoc _ _ ih=>rw [List.length_append,List.length_append,ih];rfl
theorem Tab.at {gs:List Gr} {ts:List Tr} (h:Tab gs ts):∀{i:Nat} {g:Gr},gs[i]?=some g->∃ t,ts[i]?=some t/\GrT ts g t:=by
 induction h with
 | nil=>intro i g e;cases e
 | @snoc gs ts g0 t0 h0 r ih =>
  intro i g e
  by_cases z:i < gs.length
  ·rw [List.getElem?_append_left z] at e
   obtain ⟨t,e1,e2⟩:=ih e
   exact ⟨t,lZ e1,e2.more⟩
  ·have z0:i=gs.length:=by
    have:=(List.getElem?_eq_some_iff.mp e).1
    rw [List.length_append] at this
    simp at this
    omega
   subst z0
   rw [List.getElem?_concat_length] at e
   cases e
   refine ⟨t0,?_,r.more⟩
   rw [h0.len,List.getElem?_concat_length]
theorem Tab.push {gs:List Gr} {ts:List Tr} {g:Gr} {t:Tr} (h:Tab gs ts) (r:GrT ts g t):∃ gs' ts',(aS (gs.map Gr.rw) g.rw).1=gs'.map Gr.rw/\Tab gs' ts'/\ts'[(aS (gs.map Gr.rw) g.rw).2]?=some t/\((t∈ts/\ts'=ts)\/ts'=ts++[t]):=by
 unfold aS
 cases z:idx (gs.map Gr.rw) g.rw with
 | some i =>
  have e:=xS z
  rw [List.getElem?_map] at e
  cases y:gs[i]? with
  | none=>rw [y] at e;cases e
  | some k =>
   rw [y] at e
   have ek:k=g:=rw_inj (Option.some.inj e)
   subst ek
   obtain ⟨t',e1,e2⟩:=h.at y
   have et:=e2.uniq r
   subst et
   exact ⟨gs,ts,rfl,h,e1,.inl ⟨List.mem_of_getElem? e1,rfl⟩⟩
 | none =>
  refine ⟨gs++[g],ts++[t],by rw [List.map_append];rfl,.snoc h r,?_,.inr rfl⟩
  show (ts++[t])[(gs.map Gr.rw).length]?=some t
  rw [List.length_map,h.len,List.getElem?_concat_length]
theorem GrT.ok {ts:List Tr} {g:Gr} {t:Tr} (h:GrT ts g t):GrOk ts.length g:=by
 intro k hk
 cases g with
 | no i =>
  cases t <;> first | exact h.elim | skip
  rw [show k=i by simpa [Gr.nums] using hk]
  exact (List.getElem?_eq_some_iff.mp h).1
 | fold u i j =>
  cases t <;> first | exact h.elim | skip
  obtain ⟨_,h1,h2⟩:=h
  have z:k=i\/k=j:=by simpa [Gr.nums] using hk
  rcases z with rfl | rfl
  ·exact (List.getElem?_eq_some_iff.mp h1).1
  ·exact (List.getElem?_eq_some_iff.mp h2).1
 | ne=>exact nomatch hk
 | al=>exact nomatch hk
 | p=>exact nomatch hk
 | q=>exact nomatch hk
theorem Tab.ok {gs:List Gr} {ts:List Tr} (h:Tab gs ts):GrsOk gs:=by
 induction h with
 | nil=>intro k g e;cases e
 | @snoc gs ts g0 t0 h0 r ih =>
  intro k g e
  by_cases z:k < gs.length
  ·rw [List.getElem?_append_left z] at e
   exact ih k g e
  ·have z0:k=gs.length:=by
    have:=(List.getElem?_eq_some_iff.mp e).1
    rw [List.length_append] at this
    simp at this
    omega
   subst z0
   rw [List.getElem?_concat_length] at e
   cases e
   rw [h0.len]
   exact r.ok
theorem mR (t:Tr):t∈t.post:=by cases t <;> simp [Tr.post]
theorem gE:∀(t x:Tr),x∈t.post->x.size<=t.size
 | .no t,x,h=>by
  rcases List.mem_append.mp (show x∈t.post++[.no t] from h) with h | h
  ·exact Nat.le_succ_of_le (gE t x h)
  ·rw [List.mem_singleton.mp h];exact Nat.le_refl _
 | .fold u a b,x,h=>by
  rcases List.mem_append.mp (show x∈a.post++b.post++[.fold u a b] from h) with h | h
  ·rcases List.mem_append.mp h with h | h
   ·have:=gE a x h;show _<=a.size+b.size+1;omega
   ·have:=gE b x h;show _<=a.size+b.size+1;omega
  ·rw [List.mem_singleton.mp h];exact Nat.le_refl _
 | .never,x,h=>by rw [List.mem_singleton.mp h];exact Nat.le_refl _
 | .always,x,h=>by rw [List.mem_singleton.mp h];exact Nat.le_refl _
 | .lp,x,h=>by rw [List.mem_singleton.mp h];exact Nat.le_refl _
 | .lq,x,h=>by rw [List.mem_singleton.mp h];exact Nat.le_refl _
theorem Dh:∀(t:Tr) {gs:List Gr} {ts:List Tr},Tab gs ts->∃ gs' e,(t.putR (gs.map Gr.rw)).1=gs'.map Gr.rw/\Tab gs' (ts++e)/\(ts++e)[(t.putR (gs.map Gr.rw)).2]?=some t/\(∀ x∈e,x∈t.post)/\(t ∉ ts->∃ e',e=e'++[t]):=by
 have leaf:∀(t:Tr) (g:Gr) {gs:List Gr} {ts:List Tr},Tab gs ts->GrT ts g t->∃ gs' e,(aS (gs.map Gr.rw) g.rw).1=gs'.map Gr.rw/\Tab gs' (ts++e)/\(ts++e)[(aS (gs.map Gr.rw) g.rw).2]?=some t/\(∀ x∈e,x∈t.post)/\(t ∉ ts->∃ e',e=e'++[t]):=by
  intro t g gs ts h r
  obtain ⟨gs',ts',e1,e2,e3,e4⟩:=h.push r
  rcases e4 with ⟨m,rfl⟩ | rfl
  ·exact ⟨gs',[],e1,by rw [List.append_nil];exact e2,by rw [List.append_nil];exact e3,(λ_ z=>by cases z),λz=>absurd m z⟩
  ·exact ⟨gs',[t],e1,e2,e3,λx z=>by rw [List.mem_singleton.mp z];exact mR t,λ_=>⟨[],rfl⟩⟩
 intro t
 induction t with
 | never=>intro gs ts h;exact leaf .never .ne h trivial
 | always=>intro gs ts h;exact leaf .always .al h trivial
 | lp=>intro gs ts h;exact leaf .lp .p h trivial
 | lq=>intro gs ts h;exact leaf .lq .q h trivial
 | no t ih =>
  intro gs ts h
  obtain ⟨gs1,e,a1,a2,a3,a4,_⟩:=ih h
  obtain ⟨gs2,ts2,b1,b2,b3,b4⟩:=a2.push (g:=.no (t.putR (gs.map Gr.rw)).2) (t:=.no t) a3
  have key:(Tr.no t).putR (gs.map Gr.rw)=aS (gs1.map Gr.rw) (Gr.rw (.no (t.putR (gs.map Gr.rw)).2)):=by rw [<- a1];rfl
  rw [key]
  have up:∀ x∈t.post,x∈(Tr.no t).post:=λx z=>List.mem_append.mpr (.inl z)
  rcases b4 with ⟨m,rfl⟩ | rfl
  ·refine ⟨gs2,e,b1,b2,b3,λx z=>up x (a4 x z),λz=>?_⟩
   rcases List.mem_append.mp m with m | m
   ·exact absurd m z
   ·exact absurd (gE _ _ (a4 _ m)) (by show ¬t.size+1<=t.size;omega)
  ·refine ⟨gs2,e++[.no t],b1,by rw [<- List.append_assoc];exact b2,by rw [<- List.append_assoc];exact b3,λx z=>?_,λ_=>⟨e,rfl⟩⟩
   rcases List.mem_append.mp z with z | z
   ·exact up x (a4 x z)
   ·rw [List.mem_singleton.mp z];exact mR _
 | fold u a b iha ihb =>
  intro gs ts h
  obtain ⟨gs1,e,a1,a2,a3,a4,_⟩:=iha h
  obtain ⟨gs2,f,c1,c2,c3,c4,_⟩:=ihb a2
  have a3':=lZ (e:=f) a3
  obtain ⟨gs3,ts3,b1,b2,b3,b4⟩:=c2.push (g:=.fold u (a.putR (gs.map Gr.rw)).2 (b.putR (gs1.map Gr.rw)).2) (t:=.fold u a b) ⟨rfl,a3',c3⟩
  have key:(Tr.fold u a b).putR (gs.map Gr.rw)=aS (gs2.map Gr.rw) (Gr.rw (.fold u (a.putR (gs.map Gr.rw)).2 (b.putR (gs1.map Gr.rw)).2)):=by
   show aS (b.putR (a.putR (gs.map Gr.rw)).1).1 (dS u.str [(a.putR (gs.map Gr.rw)).2,(b.putR (a.putR (gs.map Gr.rw)).1).2])=_
   rw [a1,c1]
   rfl
  rw [key]
  have ua:∀ x∈a.post,x∈(Tr.fold u a b).post:=λx z=>List.mem_append.mpr (.inl (List.mem_append.mpr (.inl z)))
  have ub:∀ x∈b.post,x∈(Tr.fold u a b).post:=λx z=>List.mem_append.mpr (.inl (List.mem_append.mpr (.inr z)))
  have sz:∀ x∈e++f,x.size<=a.size+b.size/\x∈(Tr.fold u a b).post:=λx z=>by
   rcases List.mem_append.mp z with z | z
   ·exact ⟨Nat.le_trans (gE _ _ (a4 x z)) (Nat.le_add_right _ _),ua x (a4 x z)⟩
   ·exact ⟨Nat.le_trans (gE _ _ (c4 x z)) (Nat.le_add_left _ _),ub x (c4 x z)⟩
  rw [List.append_assoc] at b4
  rcases b4 with ⟨m,rfl⟩ | rfl
  ·refine ⟨gs3,e++f,b1,b2,b3,λx z=>(sz x z).2,λz=>?_⟩
   rcases List.mem_append.mp m with m | m
   ·exact absurd m z
   ·exact absurd (sz _ m).1 (by show ¬a.size+b.size+1<=a.size+b.size;omega)
  ·refine ⟨gs3,e++f++[.fold u a b],b1,by rw [<- List.append_assoc];exact b2,by rw [<- List.append_assoc];exact b3,λx z=>?_,λ_=>⟨e++f,rfl⟩⟩
   rcases List.mem_append.mp z with z | z
   ·exact (sz x z).2
   ·rw [List.mem_singleton.mp z];exact mR _
theorem CS (t:Tr):∃ gs ts,t.rows=gs.map Gr.rw/\Tab gs (ts++[t])/\(∀ x∈ts++[t],x∈t.post)/\gs.length<=t.size:=by
 obtain ⟨gs,e,a1,a2,a3,a4,a5⟩:=Dh t (gs:=[]) (ts:=[]) .nil
 obtain ⟨e',rfl⟩:=a5 (λz=>nomatch z)
 have hl:=iO t []
 rw [show (t.putR []).1=gs.map Gr.rw from a1,List.length_map] at hl
 exact ⟨gs,e',a1,by simpa using a2,a4,by simpa using hl⟩
end Mine
namespace L2
open PySem PySem.Spec PyProof.Rows
variable {X:Cx}
theorem pe_bm0K {K:PySem.W.Frag} {T id:String} {name:Str} {r:V->List V->Hp->VK->Prop} {o:Expr} {to:TE} {apos cpos:Pos} (eK:X.K=K) (pa:PlainAttrs T) (slot:Slot T name id) (hty:typeOf (.builtin id)=pure (.type "method_descriptor")) (hm:MtR X id r) (ho:PE X o to)
  (hbase:attributeBase o name X.env (eval o X.env)=eval o X.env:=by rfl) (hline:(apos.endLine == cpos.line)=true:=by rfl):PE X (.Call (.Attribute o name apos) [] [] cpos) (tBM0 K T r to):=eK ▸ ix pa slot hty hm ho hbase hline
noncomputable def bP (X:Cx) (xs:List Str) (js:List Nat):List Str:=xs++js.map λj=>X.N.getD j ""
section
variable {X:Cx} {pins:List (Addr×Obj)} {σ:St} {H:Hp} {s:Shared} {scope:Scope} {cl:List (Str×Addr)} {xs:List Str} {js:List Nat} {fp:List Addr} {N:List Str}
theorem EE (I:Inv X pins σ H s) (hk:scope.kind=.function) (hcell:∀ y∈scope.names,y.2≠.cell)
  (hcl1:∀ y c,cl.lookup y=some c->X.env.cells.lookup y=some c) (hcl2:∀ y,(y,NameKind.free)∈scope.names->∃ c,cl.lookup y=some c)
  (hf:∀ b∈fp,iW X pins H b) (hlt:∀ b∈fp,b < s.heap.objs.size):(bo X scope cl N s H fp).Ok where
 mod:=I.ok.mod
 kind:=hk
 glob:=I.ok.glob
 blt:=I.ok.blt
 above:=Nat.le_refl _
 inj:=λy z c h1 h2=>I.ok.inj y z c (hcl1 y c h1) (hcl1 z c h2)
 has:=λy hy=>by
  have hy':(relabel scope X.env).names.lookup y=some .cell\/(relabel scope X.env).names.lookup y=some .free:=hy
  rcases hy' with h | h
  ·obtain ⟨k',m,q⟩:=cL h
   rcases q with q | ⟨_,q⟩
   ·exact absurd q (hcell _ m)
   ·subst q;exact hcl2 y m
  ·obtain ⟨k',m,q⟩:=cL h
   rcases q with q | ⟨q,_⟩
   ·subst q;exact hcl2 y m
   ·cases q
 cab:=λy c h _=>by cases h
 hd:=I.ok.hd
 frames:=I.ok.frames
 stk:=.inl rfl
 exf:=λb hb=>⟨Nat.ne_of_lt (hlt b hb),λy c h=>(hf b hb).2.2.2.2.1 y c (hcl1 y c h)⟩
 bs:=I.bs
 bsz:=Nat.le_trans I.ok.bsz I.sz
 noex:=λb o e hb=>by
  rcases (hf b hb).2.2.2.1 with z | z
  ·exact I.ok.noex b o e z
  ·exact absurd (Nat.lt_of_lt_of_le (Heap.lt_size e) (Nat.le_trans I.ok.bsz z)) (Nat.lt_irrefl _)
 exfs:=λb hb hz=>(List.mem_cons.mp (I.stkSub b hz)).elim (hf b hb).2.1 (hf b hb).2.2.1
 funs:=I.stack
 frf:=I.stkFree
theorem wq {h₁:Heap} {tk:Nat} (I:Inv X pins σ H s) (hk:scope.kind=.function) (hcell:∀ y∈scope.names,y.2≠.cell)
  (hcl1:∀ y c,cl.lookup y=some c->X.env.cells.lookup y=some c) (hcl2:∀ y,(y,NameKind.free)∈scope.names->∃ c,cl.lookup y=some c) (hjs:fi X scope js)
  (hf:∀ b∈fp,iW X pins H b) (hlt:∀ b∈fp,b < s.heap.objs.size) {m:Str->Option Value} (hn:h₁.Ns s.heap.objs.size m) (hkeep:∀ b o,s.heap.get? b=some o->h₁.get? b=some o) :
  Inv (bo X scope cl (bP X xs js) s H fp) [] (List.replicate xs.length none++bI js σ) H {s with heap:=h₁,toks:=tk} where
 ok:=EE I hk hcell hcl1 hcl2 hf hlt
 os:=rfl
 bare:=I.bare
 base:=Un.kept hkeep
 loc:=by
  refine ⟨m,hn,λi y v h1 h2 h3=>?_⟩
  by_cases hik:i < xs.length
  ·rw [List.getElem?_append_left (by simpa using hik),List.getElem?_replicate_of_lt hik] at h2
   cases h2
  ·generalize hkk:i - xs.length=k
   have h1':(js.map λj=>X.N.getD j "")[k]?=some y:=by
    have q:(xs++js.map λj=>X.N.getD j "")[i]?=some y:=h1
    rw [List.getElem?_append_right (by omega),hkk] at q
    exact q
   have h2':(js.map λj=>(σ[j]?).getD none)[k]?=some (some v):=by
    rw [List.getElem?_append_right (by simp;omega),List.length_replicate,hkk] at h2
    exact h2
   rw [List.getElem?_map] at h1' h2'
   cases hj:js[k]? with
   | none=>rw [hj] at h1';cases h1'
   | some j =>
    rw [hj] at h1' h2'
    have e1:X.N.getD j ""=y:=Option.some.inj h1'
    have e2:(σ[j]?).getD none=some v:=Option.some.inj h2'
    obtain ⟨y',n1,n2,n3,n4⟩:=hjs.all j (List.mem_of_getElem? hj)
    have e3:y'=y:=by rw [<- e1,List.getD_eq_getElem?_getD,n1];rfl
    subst e3
    have e4:σ[j]?=some (some v):=by
     cases q:σ[j]? with
     | none=>rw [q] at e2;cases e2
     | some a=>rw [q] at e2;exact congrArg some e2
    obtain ⟨m0,_,hl⟩:=I.loc
    obtain ⟨u,r,l⟩:=hl j y' v n1 e4 (n2.elim (λz=>Or.inr (Or.inl z)) λz=>Or.inr (Or.inr z))
    refine ⟨u,r,.inr ⟨n4,?_⟩⟩
    rcases l with ⟨l,_⟩ | ⟨_,c,hc,hi⟩
    ·exfalso
     rcases n2 with z | z <;> (rw [z] at l;cases l)
    ·obtain ⟨c',hc'⟩:=hcl2 y' n3
     have e5:=hcl1 y' c' hc'
     rw [hc] at e5
     have e6:=Option.some.inj e5
     subst e6
     obtain ⟨o,ho,hd⟩:=hi
     exact ⟨c,hc',o,hkeep c o ho,hd⟩
 cell:=λy c h=>by
  obtain ⟨v,o,ho,hd⟩:=I.cell y c (hcl1 y c h)
  exact ⟨v,o,hkeep c o ho,hd⟩
 free:=I.hok.fresh (Nat.le_refl _)
 freeC:=λy c h=>I.freeC y c (hcl1 y c h)
 pin:=λp hp=>absurd (show p∈([]:List (Addr×Obj)) from hp) (by simp)
 hok:=I.hok.kept hkeep
 len:=by
  show (List.replicate xs.length none++bI js σ).length=(bP X xs js).length
  simp [bI,bP]
end
noncomputable def sk (n:Nat) (wi:TI) (g:TG) (te:TE) (js:List Nat):TE:=fun σ H Q=>wi σ H λJ H1=>∀ D,H1 D=none->
 ∃ W:Nat->Nat->Hp->Prop,(∃ m,W 0 m (upd H1 D (.lst [])))/\∀ i m H2,W i m H2->(J.stop i H2/\Q (.ref D) H2)\/
  (J.go i H2/\∀ o:St,o.length=n->∀ v H3,J.yld i H2 v H3->g v (o++bI js σ) H3 fun σ4 H4=>∃ o',o'.length=n/\σ4=o'++bI js σ/\te (o'++bI js σ) H4 λy H5 =>
   ∃ ys,H5 D=some (.lst ys)/\ys.length < sizeLine/\∃ m',m' < m/\W (i+1) m' (upd H5 D (.lst (ys++[y]))))
section
variable {X:Cx} {elt iter:Expr} {xs:List Str} {elts:List Expr} {kk:Nat} {tp pos:Pos} {scope:Scope} {cl:List (Str×Addr)} {wi:TI} {g:TG} {te:TE} {js:List Nat}
theorem qo {use:Option (Value->Sem Unit)} {Qv:Value->Shared->Prop} {pins:List (Addr×Obj)} {s:Shared} {σ:St} {H:Hp} {Q:VK}
  (hc:X.calm=true) (hi:PI X (.Tuple elts kk tp) iter wi) (hk:scope.kind=.function) (hcell:∀ y∈scope.names,y.2≠.cell)
  (hcl1:∀ y c,cl.lookup y=some c->X.env.cells.lookup y=some c) (hcl2:∀ y,(y,NameKind.free)∈scope.names->∃ c,cl.lookup y=some c) (hjs:fi X scope js) (hnd:(bP X xs js).Nodup)
  (hg:∀ s' H' fp,PG (bo X scope cl (bP X xs js) s' H' fp) (.Tuple elts kk tp) g) (he:∀ s' H' fp,PE (bo X scope cl (bP X xs js) s' H' fp) elt te)
  (I:Inv X pins σ H s) (h:sk xs.length wi g te js σ H Q)
  (fin:∀(D C:Addr) (H':Hp) (s':Shared),Inv X pins σ H' s'->iW X pins H' C->(∃ m,s'.heap.Ns C m)->Q (.ref D) H'->compPost (model X.prog X.w) X.A X.xe use Qv (.ref D) C (.ok .next) s') :
  wpAny (model X.prog X.w) X.A (eval iter X.env) (λxv s₁=>wpAny (model X.prog X.w) X.A (pyIter xv) (λit s₂=>wpAny (model X.prog X.w) X.A (newList []) (λacc s₃ =>
   wpAny (model X.prog X.w) X.A (newFunctionEnv scope X.env.globals cl [] X.env.qual none .none (some X.env)) (λcenv s₄ =>
    codeAny (model X.prog X.w) X.A (.compStart (.ListComp elt [⟨.Tuple elts kk tp,iter,[],0⟩] scope pos) 0 it acc {cenv with scope:=relabel scope X.env})
     (compPost (model X.prog X.w) X.A X.xe use Qv acc cenv.locals) s₄) X.xe s₃) X.xe s₂) X.xe s₁) X.xe s:=by
 refine thn (hi pins s σ H _ I h) λv s1 h1=>thn h1 λitv s2 h2=>?_
 obtain ⟨it,fp,tn,J,H2,e,I2,T,st2,f2,hW⟩:=h2
 subst e
 obtain ⟨W,⟨m0,w0⟩,turn⟩:=hW s2.heap.objs.size (I2.hok.fresh (Nat.le_refl _))
 have hlt2:∀ b∈fp,b < s2.heap.objs.size:=λb hb=>let ⟨_,e,_⟩:=T.obj _ _ st2 b hb;Heap.lt_size e
 have I3:Inv X pins σ (upd H2 s2.heap.objs.size (.lst [])) {s2 with heap:=s2.heap.push {cls:=.type "list",data:=.seq ([]:List Value).toArray} } :=
  I2.lnew (t':=s2.toks) (its:=[]) .nil (Nat.zero_le _)
 refine wpAny_newObj_type ?_
 have k23:∀ b o,s2.heap.get? b=some o->(s2.heap.push {cls:=.type "list",data:=.seq ([]:List Value).toArray}).get? b=some o:=λb o e=>Heap.get?_push_of_some _ e
 have sz3:(s2.heap.push {cls:=.type "list",data:=.seq ([]:List Value).toArray}).objs.size=s2.heap.objs.size+1:=Heap.size_push ..
 generalize hs3:({s2 with heap:=s2.heap.push {cls:=.type "list",data:=.seq ([]:List Value).toArray} }:Shared)=s3 at I3
 have hs3':s3.heap=s2.heap.push {cls:=.type "list",data:=.seq ([]:List Value).toArray}:=by rw [<- hs3]
 have hlt3:∀ b∈fp,b < s3.heap.objs.size:=λb hb=>by rw [hs3',sz3];exact Nat.lt_succ_of_lt (hlt2 b hb)
 have f3:∀ b∈fp,iW X pins (upd H2 s2.heap.objs.size (.lst [])) b:=λb hb=>⟨by rw [au (Nat.ne_of_lt (hlt2 b hb))];exact (f2 b hb).1,(f2 b hb).2⟩
 refine wpAny_newFunctionEnv hcell (by intro y hy;simp at hy) (λh₁ hns hsb=>?_) hk
 have k34:∀ b o,s3.heap.get? b=some o->h₁.get? b=some o:=λb o e=>hsb.extBut b o (Nat.ne_of_lt (Heap.lt_size e)) (Heap.get?_push_of_some _ e)
 have I4:=wq (xs:=xs) (js:=js) (tk:=s3.toks+([]:List (Str×Value)).length) I3 hk hcell hcl1 hcl2 hjs f3 hlt3 hns k34
 have st4:tn 0 h₁:=T.keep 0 _ _ st2 λb hb o e=>k34 b o (by rw [hs3'];exact k23 b o e)
 have stat:∀{H':Hp},(∀ b∈fp,H' b=none)->∀ b∈fp,iW (bo X scope cl (bP X xs js) s3 (upd H2 s2.heap.objs.size (.lst [])) fp) [] H' b:=λhn b hb =>
  ⟨hn b hb,Nat.ne_of_lt (hlt3 b hb),λhz=>(List.mem_cons.mp (I3.stkSub b hz)).elim (f2 b hb).2.1 (f2 b hb).2.2.1,.inl hb,λy c q=>(f2 b hb).2.2.2.2.1 y c (hcl1 y c q),λp hp=>absurd (show p∈([]:List (Addr×Obj)) from hp) (by simp)⟩
 have back:∀{σ':St} {H':Hp} {s':Shared},Inv (bo X scope cl (bP X xs js) s3 (upd H2 s2.heap.objs.size (.lst [])) fp) [] σ' H' s'->Inv X pins σ H' s':=λ{σ' H' s'} J' =>
  I3.call' (ch:=fp) J'.os J'.base J'.hok J'.bare λb hb=>⟨(f2 b hb).2.2.2.1,(f2 b hb).2.1,(f2 b hb).2.2.2.2.1,(f2 b hb).2.2.2.2.2⟩
 have loop:codeAny (model X.prog X.w) X.A (.compLoop (.ListComp elt [⟨.Tuple elts kk tp,iter,[],0⟩] scope pos) 0 (.ref it) (.ref s2.heap.objs.size) (compEnvC scope cl s3.heap.objs.size X.env))
   (compPost (model X.prog X.w) X.A X.xe use Qv (.ref s2.heap.objs.size) s3.heap.objs.size) {s3 with heap:=h₁,toks:=s3.toks+([]:List (Str×Value)).length}:=by
  refine PyProof.Rows.LCp.codeAny_compLoop_pair (λn s'=>∃(i:Nat) (o:St) (H':Hp),o.length=xs.length/\Inv (bo X scope cl (bP X xs js) s3 (upd H2 s2.heap.objs.size (.lst [])) fp) [] (o++bI js σ) H' s'/\tn i s'.heap/\(∀ b∈fp,H' b=none)/\W i n H') ?_ m0
   ⟨0,_,_,List.length_replicate,I4,st4,λb hb=>(f3 b hb).1,w0⟩
  rintro n s5 ⟨i,o,H5,ho,I5,st5,fr5,w5⟩
  rcases turn i n H5 w5 with ⟨stop,q⟩ | ⟨go,step⟩
  ·refine thn (T.done (bo X scope cl (bP X xs js) s3 (upd H2 s2.heap.objs.size (.lst [])) fp) rfl rfl rfl hc i [] s5 _ H5 _ I5 (stat fr5) st5 stop) λr s6 zz=>?_
   obtain ⟨hr,I6⟩:=zz
   subst hr
   exact fin _ _ H5 s6 (back I6) (I3.fpOk (Nat.le_refl _) I6.free) (let ⟨m,hm,_⟩:=I6.loc;⟨m,hm⟩) q
  ·refine thn (T.item (bo X scope cl (bP X xs js) s3 (upd H2 s2.heap.objs.size (.lst [])) fp) rfl rfl rfl hc i [] s5 _ H5 _ I5 (stat fr5) st5 go) λr s6 zz=>?_
   obtain ⟨u,hr,h6⟩:=zz
   subst hr
   refine wpAny_mono h6 (λ_ s6' q6=>?_) (λ_ _ f=>f)
   obtain ⟨v,H6,I6,r6,y6,st6,fr6⟩:=q6
   have I6':=I6.pinned (stat fr6) (T.obj _ _ st6)
   refine wpAny_mono (hg s3 _ fp _ s6' _ H6 v u _ I6' r6 (step o ho v H6 y6)) (λ_ s7 q7=>?_) (λ_ _ f=>False.elim f)
   obtain ⟨σ7,H7,I7,o7,ho7,e7,q7⟩:=q7
   subst e7
   refine wpAny_mono (he s3 _ fp _ s7 _ H7 _ I7 q7) (λy s9 q9=>?_) (λ_ _ f=>False.elim f)
   obtain ⟨yv,H9,I9,r9,ys,hD,hl,m',hm,w9⟩:=q9
   refine wpAny_mono (aY (X:=bo X scope cl (bP X xs js) s3 (upd H2 s2.heap.objs.size (.lst [])) fp) _ s9 _ H9 (.ref s2.heap.objs.size) [yv] (.ref s2.heap.objs.size) [y] (λ_ H'=>H'=upd H9 s2.heap.objs.size (.lst (ys++[yv]))) I9 rfl (.cons r9 .nil) ⟨_,ys,yv,rfl,rfl,hD,hl,rfl⟩) (λ_ s10 q10=>?_) (λ_ _ f=>False.elim f)
   obtain ⟨_,H10,I10,_,e10⟩:=q10
   subst e10
   refine ⟨m',hm,i+1,o7,_,ho7,I10.unpinned,T.keep _ _ _ st6 λb hb o e=>(I10.pin (b,o) (List.mem_append_right _ (List.mem_append_right _ (fH hb e)))).1,λb hb=>?_,w9⟩
   obtain ⟨o,e,d⟩:=T.obj _ _ st6 b hb
   exact (I10.pin (b,o) (List.mem_append_right _ (List.mem_append_right _ (fH hb e)))).2.1
 exact codeAny_compStart_list loop (T.self _ 0 _ _ _ st4 loop)
theorem Dw (hc:X.calm=true) (hi:PI X (.Tuple elts kk tp) iter wi) (hk:scope.kind=.function) (hcell:∀ y∈scope.names,y.2≠.cell) (hnames:∀ y∈scope.names,y.2=.local->scope.names.lookup y.1=some .local)
  (hclos:closureFor scope X.env=pure cl) (hcl1:∀ y c,cl.lookup y=some c->X.env.cells.lookup y=some c) (hcl2:∀ y,(y,NameKind.free)∈scope.names->∃ c,cl.lookup y=some c) (hjs:fi X scope js) (hnd:(bP X xs js).Nodup)
  (hg:∀ s' H' fp,PG (bo X scope cl (bP X xs js) s' H' fp) (.Tuple elts kk tp) g) (he:∀ s' H' fp,PE (bo X scope cl (bP X xs js) s' H' fp) elt te)
  (hs:∀ x,foldedSetIterable iter X.env x=pure x:=by intro _;rfl):PE X (.ListComp elt [⟨.Tuple elts kk tp,iter,[],0⟩] scope pos) (sk xs.length wi g te js):=by
 intro pins s σ H Q I h
 rw [eval_ListComp]
 refine wpAny_comprehension_free (use:=none) rfl hs hclos hk hnames (qo hc hi hk hcell hcl1 hcl2 hjs hnd hg he I h λD C H' s' I' fC hC q=>?_)
 obtain ⟨m,hm⟩:=hC
 refine ⟨m,hm,λh' sb=>?_⟩
 obtain ⟨f0,f1,f2,f3,f4,f5⟩:=fC
 exact ⟨.ref D,H',I'.turned (t':=s'.toks) (λb o hb e=>(sb.2 b hb).trans e) f0 f1 f3 f4 f5,rfl,q⟩
theorem jY (hc:X.calm=true) (hi:PI X (.Tuple elts kk tp) iter wi) (hk:scope.kind=.function) (hcell:∀ y∈scope.names,y.2≠.cell) (hnames:∀ y∈scope.names,y.2=.local->scope.names.lookup y.1=some .local)
  (hf:∀ p∈scope.names,p.2=.free->X.env.kindOf p.1=some .cell\/X.env.kindOf p.1=some .free) (hjs:fi X scope js) (hnd:(bP X xs js).Nodup)
  (hg:∀ cl s' H' fp,PG (bo X scope cl (bP X xs js) s' H' fp) (.Tuple elts kk tp) g) (he:∀ cl s' H' fp,PE (bo X scope cl (bP X xs js) s' H' fp) elt te)
  (hs:∀ x,foldedSetIterable iter X.env x=pure x:=by intro _;rfl):PE X (.ListComp elt [⟨.Tuple elts kk tp,iter,[],0⟩] scope pos) (sk xs.length wi g te js):=by
 intro pins s σ H Q I h
 obtain ⟨cl,e,p1,p2⟩:=tZ (oI (js:=js) I λy hy=>hf (y,.free) hy rfl)
 exact Dw hc hi hk hcell hnames e p1 p2 hjs hnd (hg cl) (he cl) hs pins s σ H Q I h
end
open PySem.AutoSeq1
theorem fu {h h':Heap} {it t:Addr} {i:Nat} (z:h.IsTupleIter it t i) (k:∀ o,h.get? it=some o->h'.get? it=some o):h'.IsTupleIter it t i:=let ⟨o,e,r⟩:=z;⟨o,k o e,r⟩
theorem ik {h h':Heap} {t:Addr} {ys:Array Value} (z:h.IsTuple t ys) (k:∀ o,h.get? t=some o->h'.get? t=some o):h'.IsTuple t ys:=let ⟨o,e,r⟩:=z;⟨o,k o e,r⟩
section
variable {prog:Program} {w:World} {A:Around} {E:Value->Shared->Prop} {s:Shared}
theorem zX {z TI TO i1 i2 l1 l2:Addr} {k1 k2:Nat} {xs ys:Array Value} {x y a b:Value} {Q:Value->Shared->Prop} (D:ZipApart z TI TO i1 i2 l1 l2)
  (gz:IsZip s.heap z TI TO .none) (gI:IsPair s.heap TI (.ref i1) (.ref i2)) (gO:IsPair s.heap TO a b) (t1:s.heap.IsTupleIter i1 l1 k1) (t2:s.heap.IsTupleIter i2 l2 k2) (p1:s.heap.IsTuple l1 xs) (p2:s.heap.IsTuple l2 ys) (ex:xs[k1]?=some x) (ey:ys[k2]?=some y)
  (k:∀ h',IsZip h' z TI TO (rawInt s.heap.objs.size)->IsPair h' TO x y->h'.IsTupleIter i1 l1 (k1+1)->h'.IsTupleIter i2 l2 (k2+1)->IsPair h' s.heap.objs.size x y->(∀ c o,c≠z->c≠TO->c≠i1->c≠i2->s.heap.get? c=some o->h'.get? c=some o)->Q (.ref s.heap.objs.size) {s with heap:=h' }) :
  wpAny (model prog w) A (Builtin.«zip.__next__» ⟨[.ref z],[]⟩) (λfin s'=>∃ v,fin=.done (.ret v)/\Q v s') E s:=by
 show wpAny _ _ (field (.ref z) 2 >>= _) _ _ _;refine wpAny_bind (wpAny_field gz rfl (x:=.bool false) rfl ?_)
 show wpAny _ _ (field (.ref z) 3 >>= _) _ _ _;refine wpAny_bind (wpAny_field gz rfl (x:=.ref TI) rfl ?_)
 refine wpAny_bind (wpAny_seqItems gI rfl ?_);show wpAny _ _ (Builtin.SmallTypes.ownedTupleIsFree (.ref z) >>= _) _ _ _
 refine wpAny_bind ?_;unfold Builtin.SmallTypes.ownedTupleIsFree;refine wpAny_bind (wpAny_field gz rfl (x:=.none) rfl (wpAny_pure ?_))
 simp only [if_true];refine wpAny_bind (wpAny_rule ?_);refine wpAny_bind (wpAny_field gz rfl (x:=.ref TO) rfl ?_)
 refine wpAny_bind (wpAny_setField_rec gz (by simp) λm1 gz1 b1=>?_)
 replace gz1:IsZip m1 z TI TO .ellipsis:=gz1
 refine wpAny_bind ?_;simp only [List.zipIdx_cons,List.zipIdx_nil,List.forIn_cons,List.forIn_nil];refine wpAny_bind (wpAny_bind (wpAny_onRaise ?_))
 show wpAny _ _ (Builtin.SmallTypes.nextOf (.ref i1) >>= _) _ _ _;refine wpAny_bind (pO (fu t1 λo e=>b1.extBut _ _ D.i1z e) (ik p1 λo e=>b1.extBut _ _ D.l1z e) ex λm2 u2 b2=>wpAny_pure ?_)
 have gO2:IsPair m2 TO a b:=b2.extBut _ _ D.TOi1 (b1.extBut _ _ D.TOz gO)
 refine wpAny_bind (wpAny_seqItems gO2 rfl ?_);refine wpAny_bind (wpAny_updateSeq_pair gO2 λm3 gO3 b3=>?_)
 replace gO3:IsPair m3 TO x b:=gO3
 refine wpAny_bind (wpAny_letGo (wpAny_pure ?_));refine wpAny_bind (wpAny_bind (wpAny_onRaise ?_));show wpAny _ _ (Builtin.SmallTypes.nextOf (.ref i2) >>= _) _ _ _
 have e3:∀ c o,c≠z->c≠TO->c≠i1->s.heap.get? c=some o->m3.get? c=some o:=λc o n1 n2 n3 e=>b3.extBut _ _ n2 (b2.extBut _ _ n3 (b1.extBut _ _ n1 e))
 refine wpAny_bind (pO (fu t2 λo e=>e3 _ o D.i2z D.TOi2.symm D.i12.symm e) (ik p2 λo e=>e3 _ o D.l2z D.l2TO D.l2i1 e) ey λm4 u4 b4=>wpAny_pure ?_)
 have gO4:IsPair m4 TO x b:=b4.extBut _ _ D.TOi2 gO3
 refine wpAny_bind (wpAny_seqItems gO4 rfl ?_);refine wpAny_bind (wpAny_updateSeq_pair gO4 λm5 gO5 b5=>?_)
 replace gO5:IsPair m5 TO x y:=gO5
 refine wpAny_bind (wpAny_letGo (wpAny_pure (wpAny_pure ?_)));refine wpAny_bind (wpAny_seqItems gO5 rfl ?_);refine wpAny_bind (wpAny_newTuple ?_)
 have sz5:m5.objs.size=s.heap.objs.size:=by rw [b5.1,b4.1,b3.1,b2.1,b1.1]
 have e5:∀ c o,c≠TO->c≠i2->m3.get? c=some o->m5.get? c=some o:=λc o n1 n2 e=>b5.extBut _ _ n1 (b4.extBut _ _ n2 e)
 have gz5:IsZip m5 z TI TO .ellipsis:=e5 _ _ D.TOz.symm D.i2z.symm (b3.extBut _ _ D.TOz.symm (b2.extBut _ _ D.i1z.symm gz1))
 have u5:m5.IsTupleIter i1 l1 (k1+1):=fu u2 λo e=>e5 _ o D.TOi1.symm D.i12 (b3.extBut _ _ D.TOi1.symm e)
 have v5:m5.IsTupleIter i2 l2 (k2+1):=fu u4 λo e=>b5.extBut _ _ D.TOi2.symm e
 have zl:z < m5.objs.size:=Heap.lt_size gz5
 show wpAny _ _ (Builtin.SmallTypes.ownedTupleHandOut (.ref z) (.ref m5.objs.size) >>= _) _ _ _;refine wpAny_bind ?_;unfold Builtin.SmallTypes.ownedTupleHandOut
 have gz6:IsZip (m5.push {cls:=.type "tuple",data:=.seq #[x,y] }) z TI TO .ellipsis:=Heap.get?_push_of_some _ gz5
 refine wpAny_bind (wpAny_setField_rec gz6 (by simp) λm7 gz7 b7=>?_)
 replace gz7:IsZip m7 z TI TO (rawInt m5.objs.size):=gz7
 refine wpAny_setField_rec gz7 (by simp) λm8 gz8 b8=>?_
 replace gz8:IsZip m8 z TI TO (rawInt m5.objs.size):=gz8
 have e8:∀ c o,c≠z->m5.get? c=some o->m8.get? c=some o:=λc o n1 e=>b8.extBut _ _ n1 (b7.extBut _ _ n1 (Heap.get?_push_of_some _ e))
 have gT:IsPair m8 m5.objs.size x y:=b8.extBut _ _ (Nat.ne_of_gt zl) (b7.extBut _ _ (Nat.ne_of_gt zl) (Heap.get?_push_size _ rfl))
 rw [sz5] at gz8 gT
 refine wpAny_pure ⟨_,rfl,?_⟩;show Q (.ref m5.objs.size) _;rw [sz5]
 exact k m8 gz8 (e8 _ _ D.TOz gO5) (fu u5 λo e=>e8 _ o D.i1z e) (fu v5 λo e=>e8 _ o D.i2z e) gT λc o n1 n2 n3 n4 e=>e8 c o n1 (e5 c o n2 n4 (e3 c o n1 n2 n3 e))
theorem uj {z TI TO i1 i2 l1 l2:Addr} {k1:Nat} {xs:Array Value} {a b:Value} {Q:Fin->Shared->Prop} (hd:A.handled=none) (D:ZipApart z TI TO i1 i2 l1 l2)
  (gz:IsZip s.heap z TI TO .none) (gI:IsPair s.heap TI (.ref i1) (.ref i2)) (gO:IsPair s.heap TO a b) (t1:s.heap.IsTupleIter i1 l1 k1) (p1:s.heap.IsTuple l1 xs) (ex:xs[k1]?=none)
  (k:∀ h' e,(∀ c o,c≠z->c≠TO->c≠i1->c≠i2->s.heap.get? c=some o->h'.get? c=some o)->(∃ o,h'.get? e=some o/\o.cls=.type "StopIteration")->E (.ref e) {s with heap:=h' }) :
  wpAny (model prog w) A (Builtin.«zip.__next__» ⟨[.ref z],[]⟩) Q E s:=by
 show wpAny _ _ (field (.ref z) 2 >>= _) _ _ _;refine wpAny_bind (wpAny_field gz rfl (x:=.bool false) rfl ?_)
 show wpAny _ _ (field (.ref z) 3 >>= _) _ _ _;refine wpAny_bind (wpAny_field gz rfl (x:=.ref TI) rfl ?_)
 refine wpAny_bind (wpAny_seqItems gI rfl ?_);show wpAny _ _ (Builtin.SmallTypes.ownedTupleIsFree (.ref z) >>= _) _ _ _
 refine wpAny_bind ?_;unfold Builtin.SmallTypes.ownedTupleIsFree;refine wpAny_bind (wpAny_field gz rfl (x:=.none) rfl (wpAny_pure ?_))
 simp only [if_true];refine wpAny_bind (wpAny_rule ?_);refine wpAny_bind (wpAny_field gz rfl (x:=.ref TO) rfl ?_)
 refine wpAny_bind (wpAny_setField_rec gz (by simp) λm1 gz1 b1=>?_)
 replace gz1:IsZip m1 z TI TO .ellipsis:=gz1
 refine wpAny_bind ?_;simp only [List.zipIdx_cons,List.zipIdx_nil,List.forIn_cons,List.forIn_nil];refine wpAny_bind (wpAny_bind (wpAny_onRaise ?_))
 show wpAny _ _ (Builtin.SmallTypes.nextOf (.ref i1) >>= _) _ _ _;refine wpAny_bind (qF hd (fu t1 λo e=>b1.extBut _ _ D.i1z e) (ik p1 λo e=>b1.extBut _ _ D.l1z e) ex λm2 e b2 he=>?_)
 obtain ⟨oe,ge,ce⟩:=he
 have gz2:IsZip m2 z TI TO .ellipsis:=b2 _ _ D.i1z.symm gz1
 have ne:e≠z:=λq=>by subst q;rw [gz2] at ge;cases ge;simp at ce
 refine wpAny_setField_rec gz2 (by simp) λm3 _ b3=>k m3 e (λc o n1 _ n3 _ q=>b3.extBut _ _ n1 (b2 _ _ n3 (b1.extBut _ _ n1 q))) ⟨oe,b3.extBut _ _ ne ge,ce⟩
theorem zZ (hd:A.handled=none) (z TI TO i1 i2 l1 l2:Addr) (D:ZipApart z TI TO i1 i2 l1 l2) (xs ys:Array Value) (hle:xs.size<=ys.size) :
  WalksT prog w A z [z,TI,TO,i1,i2,l1,l2] [z,TO,i1,i2] xs.size (λi vals=>∃ x y,xs[i]?=some x/\ys[i]?=some y/\vals=#[x,y])
   (λi h=>IsZip h z TI TO .none/\IsPair h TI (.ref i1) (.ref i2)/\(∃ a b,IsPair h TO a b)/\h.IsTupleIter i1 l1 i/\h.IsTupleIter i2 l2 i/\h.IsTuple l1 xs/\h.IsTuple l2 ys)
   (λi T h=>IsZip h z TI TO (rawInt T)/\IsPair h TI (.ref i1) (.ref i2)/\(∃ a b,IsPair h TO a b)/\h.IsTupleIter i1 l1 (i+1)/\h.IsTupleIter i2 l2 (i+1)/\h.IsTuple l1 xs/\h.IsTuple l2 ys/\T≠z/\T≠TO/\T≠i1/\T≠i2) where
 sub:=λc hc=>by
  simp only [List.mem_cons,List.not_mem_nil,or_false] at hc ⊢
  rcases hc with q | q | q | q <;> simp [q]
 frame:=λi h h' st kp=>by
  obtain ⟨q1,q2,⟨a,b,q3⟩,q4,q5,q6,q7⟩:=st
  exact ⟨kp z (by simp) _ q1,kp TI (by simp) _ q2,⟨a,b,kp TO (by simp) _ q3⟩,fu q4 λo e=>kp i1 (by simp) o e,fu q5 λo e=>kp i2 (by simp) o e,ik q6 λo e=>kp l1 (by simp) o e,ik q7 λo e=>kp l2 (by simp) o e⟩
 item:=λi s Q E hi st k=>by
  obtain ⟨q1,q2,⟨a,b,q3⟩,q4,q5,q6,q7⟩:=st
  have hx:xs[i]?=some xs[i]:=Array.getElem?_eq_getElem hi
  have hy:ys[i]?=some (ys[i]'(by omega)):=Array.getElem?_eq_getElem (by omega)
  have hT:s.TypeIs (.ref z) "zip":=⟨_,q1,rfl⟩
  have lt:∀{c o},s.heap.get? c=some o->s.heap.objs.size≠c:=λe=>Nat.ne_of_gt (Heap.lt_size e)
  unfold pyNext
  refine wpAny_bind (wpAny_attempt (wpAny_callSpecial?_slot (name:=Str.ofString "__next__") hT F.slot_zip_next (wpAny_call_entry F.slot_zip_next hT F.entry_zip_next (zX D q1 q2 q3 q4 q5 q6 q7 hx hy λh' a1 a2 a3 a4 a5 kp=>wpAny_pure ?_) (F.args_zip_next_1 _))))
  exact k s.heap.objs.size #[xs[i],ys[i]'(by omega)] h' s.toks ⟨_,_,hx,hy,rfl⟩ (Nat.le_refl _) ⟨_,a5,rfl,_,rfl⟩
   ⟨a1,kp _ _ D.TIz D.TITO D.TIi1 D.TIi2 q2,⟨_,_,a2⟩,a3,a4,ik q6 λo e=>kp _ o D.l1z D.l1TO D.l1i1 D.l1i2 e,ik q7 λo e=>kp _ o D.l2z D.l2TO D.l2i1 D.l2i2 e,lt q1,lt q3,(by obtain ⟨_,e,_⟩:=q4;exact lt e),(by obtain ⟨_,e,_⟩:=q5;exact lt e)⟩
   λc o hc e=>kp c o (λq=>hc (by simp [q])) (λq=>hc (by simp [q])) (λq=>hc (by simp [q])) (λq=>hc (by simp [q])) e
 go:=λelts kk pos i T s Q E hm k=>by
  obtain ⟨q1,q2,⟨a,b,q3⟩,q4,q5,q6,q7,_⟩:=hm
  refine wpAny_letOwnedTupleGo_zip q1 λh' gz' b'=>k h' ⟨gz',b'.extBut _ _ D.TIz q2,⟨a,b,b'.extBut _ _ D.TOz q3⟩,fu q4 λo e=>b'.extBut _ _ D.i1z e,fu q5 λo e=>b'.extBut _ _ D.i2z e,ik q6 λo e=>b'.extBut _ _ D.l1z e,ik q7 λo e=>b'.extBut _ _ D.l2z e⟩ λc o hc e=>b'.extBut _ _ (λq=>hc (by simp [q])) e
 apart:=λi T h hm hT=>by
  obtain ⟨_,_,_,_,_,_,_,n1,n2,n3,n4⟩:=hm
  simp only [List.mem_cons,List.not_mem_nil,or_false] at hT
  rcases hT with q | q | q | q
  ·exact n1 q
  ·exact n2 q
  ·exact n3 q
  ·exact n4 q
 done:=λs Q E st k=>by
  obtain ⟨q1,q2,⟨a,b,q3⟩,q4,q5,q6,q7⟩:=st
  have hT:s.TypeIs (.ref z) "zip":=⟨_,q1,rfl⟩
  unfold pyNext
  refine wpAny_bind (wpAny_attempt (wpAny_callSpecial?_slot (name:=Str.ofString "__next__") hT F.slot_zip_next (wpAny_call_entry F.slot_zip_next hT F.entry_zip_next (uj hd D q1 q2 q3 q4 q6 (Array.getElem?_eq_none (Nat.le_refl _)) λh' e kp ge=>?_) (F.args_zip_next_1 _))))
  obtain ⟨o,ho,hc⟩:=ge
  refine wpAny_bind (wpAny_isInstance (T:="StopIteration") (b:=true) ⟨o,ho,hc⟩ isSubtype_stop ?_)
  exact wpAny_pure (k h' s.toks λc o hc e=>kp c o (λq=>hc (by simp [q])) (λq=>hc (by simp [q])) (λq=>hc (by simp [q])) (λq=>hc (by simp [q])) e)
 self:=λi s Q E st k=>wpAny_pyIter_zip st.1 k
end
noncomputable abbrev tz1 (h:Heap) (a:Addr):Heap:=h.push (wY a)
noncomputable abbrev tz2 (h:Heap) (a b:Addr):Heap:=(tz1 h a).push (wY b)
noncomputable abbrev tz3 (h:Heap) (a b:Addr):Heap:=(tz2 h a b).push {cls:=.type "tuple",data:=.seq #[.ref h.objs.size,.ref (tz1 h a).objs.size] }
noncomputable abbrev tz4 (h:Heap) (a b:Addr):Heap:=(tz3 h a b).push {cls:=.type "tuple",data:=.seq #[.none,.none] }
noncomputable abbrev tz5 (h:Heap) (a b:Addr):Heap:=(tz4 h a b).push {cls:=.type "zip",data:=.fields #[.none,.bool false,.bool false,.ref (tz2 h a b).objs.size,.ref (tz3 h a b).objs.size] }
theorem BP (a b:Addr) (xs ys:Array Value):Meets (Builtin.«zip.__new__» ⟨[.type "zip",.ref a,.ref b],[]⟩) (λ_ R s=>s.heap.IsTuple a xs/\s.heap.IsTuple b ys/\R (.ok (.ret (.ref (tz4 s.heap a b).objs.size))) {s with heap:=tz5 s.heap a b}) :=
 .of_wp λprog w A R s h=>by
  obtain ⟨hp,g,d,tk,os⟩:=s;obtain ⟨q1,q2,h⟩:=h;have su:=sub_zip
  have t1:Heap.IsTuple (Shared.heap ⟨hp,g,d,tk,os⟩) a xs:=q1
  have t2:Heap.IsTuple (Shared.heap ⟨hp.push (wY a),g,d,tk,os⟩) b ys:=ik q2 λo e=>Heap.get?_push_of_some _ e
  wp_walk using wpAny_pyIter_tuple t1,wpAny_pyIter_tuple t2
  exact ⟨_,rfl,h⟩
theorem Br {prog:Program} {w:World} {A:Around} {E:Value->Shared->Prop} {s:Shared} {a b:Addr} {xs ys:Array Value} {Q:Value->Shared->Prop} (q1:s.heap.IsTuple a xs) (q2:s.heap.IsTuple b ys)
  (k:∀ h',IsZip h' (s.heap.objs.size+4) (s.heap.objs.size+2) (s.heap.objs.size+3) .none->IsPair h' (s.heap.objs.size+2) (.ref s.heap.objs.size) (.ref (s.heap.objs.size+1))->IsPair h' (s.heap.objs.size+3) .none .none->
   h'.IsTupleIter s.heap.objs.size a 0->h'.IsTupleIter (s.heap.objs.size+1) b 0->(∀ c o,s.heap.get? c=some o->h'.get? c=some o)->Q (.ref (s.heap.objs.size+4)) {s with heap:=h' }):wpAny (model prog w) A (call (.type "zip") [.ref a,.ref b]) Q E s:=by
 refine callType_new F.called_zip (by decide) (F.typeCall_zip_2 _ _) (F.newCall_zip_2 _ _) (λobj=>F.args_object_init_3 obj _ _) F.entry_zip_new (BP a b xs ys) ⟨q1,q2,?_⟩
 have z1:(tz1 s.heap a).objs.size=s.heap.objs.size+1:=Heap.size_push ..
 have z2:(tz2 s.heap a b).objs.size=s.heap.objs.size+2:=by rw [Heap.size_push,z1]
 have z3:(tz3 s.heap a b).objs.size=s.heap.objs.size+3:=by rw [Heap.size_push,z2]
 have z4:(tz4 s.heap a b).objs.size=s.heap.objs.size+4:=by rw [Heap.size_push,z3]
 have up:∀{h:Heap} {o:Obj} {c:Addr} {q:Obj},h.get? c=some q->(h.push o).get? c=some q:=λe=>Heap.get?_push_of_some _ e
 have g5:(tz5 s.heap a b).get? (tz4 s.heap a b).objs.size=some _:=Heap.get?_push_size _ rfl
 have g4:(tz5 s.heap a b).get? (tz3 s.heap a b).objs.size=some _:=up (Heap.get?_push_size _ rfl)
 have g3:(tz5 s.heap a b).get? (tz2 s.heap a b).objs.size=some _:=up (up (Heap.get?_push_size _ rfl))
 have g2:(tz5 s.heap a b).get? (tz1 s.heap a).objs.size=some _:=up (up (up (Heap.get?_push_size _ rfl)))
 have g1:(tz5 s.heap a b).get? s.heap.objs.size=some _:=up (up (up (up (Heap.get?_push_size _ rfl))))
 show _/\_
 rw [z2,z3,z4] at g5;rw [z1,z2] at g3;rw [z3] at g4;rw [z1] at g2;rw [z4]
 exact ⟨⟨_,g5,rfl⟩,k _ g5 g3 g4 ⟨_,g1,rfl,rfl⟩ ⟨_,g2,rfl,rfl⟩ λc o e=>up (up (up (up (up e))))⟩
noncomputable def srcZT (K:PySem.W.Frag) (a b:Addr):Nat->Hp->List V->Prop:=λi H vs=>∃ x y,vs=[x,y]/\(∀ xs,SqT K H a xs->xs[i]?=some x)/\∀ ys,SqT K H b ys->ys[i]?=some y
noncomputable def BK (K:PySem.W.Frag) (a b:Addr):It:=ItT (λi H=>∃ xs ys,SqT K H a xs/\SqT K H b ys/\i < xs.length/\xs.length<=ys.length) (srcZT K a b) λi H=>∃ xs ys,SqT K H a xs/\SqT K H b ys/\xs.length<=i/\xs.length<=ys.length
noncomputable def tnZT (a b z TI TO i1 i2:Addr) (i:Nat) (h:Heap):Prop:=IsZip h z TI TO .none/\IsPair h TI (.ref i1) (.ref i2)/\(∃ u v,IsPair h TO u v)/\h.IsTupleIter i1 a i/\h.IsTupleIter i2 b i
theorem jq {X:Cx} {pins:List (Addr×Obj)} {σ:St} {H:Hp} {s:Shared} {a b:Addr} {xs:List V} (I:Inv X pins σ H s) (h:SqT X.K H a xs) (f:iW X pins H b):a≠b:=by
 intro e
 subst e
 obtain ⟨f0,_,_,f3,_⟩:=f
 rcases h with (h | ⟨o,h⟩) | ⟨o,its,n,hk,_⟩
 ·rw [f0] at h;cases h
 ·rw [f0] at h;cases h
 ·have g:=I.ok.mod.kin a o hk
  rcases f3 with z | z
  ·exact I.ok.noex a o g z
  ·exact absurd (Nat.lt_of_lt_of_le (Heap.lt_size g) (Nat.le_trans I.ok.bsz z)) (Nat.lt_irrefl _)
theorem yz {X:Cx} {pins:List (Addr×Obj)} {σ:St} {H:Hp} {s:Shared} {a b z TI TO i1 i2:Addr} {xs ys:List V} (I:Inv X pins σ H s) (o:ZOwn z TI TO i1 i2) (hf:∀ c∈[z,TI,TO,i1,i2],iW X pins H c) (la:SqT X.K H a xs) (lb:SqT X.K H b ys):ZipApart z TI TO i1 i2 a b :=
 ⟨o.a1,o.a2,o.a3,o.a4,o.a5,o.a6,o.a7,o.a8,o.a9,o.a10,jq I la (hf z (by simp)),jq I la (hf TO (by simp)),jq I la (hf i1 (by simp)),jq I la (hf i2 (by simp)),jq I lb (hf z (by simp)),jq I lb (hf TO (by simp)),jq I lb (hf i1 (by simp)),jq I lb (hf i2 (by simp))⟩
theorem zobjT {h:Heap} {a b z TI TO i1 i2:Addr} {i:Nat} (st:tnZT a b z TI TO i1 i2 i h):∀ c∈[z,TI,TO,i1,i2],∃ o,h.get? c=some o/\∀ v,o.data≠.cell v:=by
 intro c hc
 obtain ⟨hz,hTI,⟨u,v,hTO⟩,⟨o1,g1,_,d1⟩,⟨o2,g2,_,d2⟩⟩:=st
 simp only [List.mem_cons,List.not_mem_nil,or_false] at hc
 rcases hc with rfl | rfl | rfl | rfl | rfl
 ·exact ⟨_,hz,λv z=>by cases z⟩
 ·exact ⟨_,hTI,λv z=>by cases z⟩
 ·exact ⟨_,hTO,λv z=>by cases z⟩
 ·exact ⟨_,g1,λv z=>by rw [d1] at z;cases z⟩
 ·exact ⟨_,g2,λv z=>by rw [d2] at z;cases z⟩
theorem Aa {P:Program} {w:World} {K:PySem.W.Frag} {elts:List Expr} {kk:Nat} {tpos:Pos} (a b z TI TO i1 i2:Addr) (own:ZOwn z TI TO i1 i2) :
  Turn P w K (.Tuple elts kk tpos) (BK K a b) [z,TI,TO,i1,i2] z (tnZT a b z TI TO i1 i2) where
 mem:=by simp
 obj:=λi h st c hc=>zobjT st c hc
 keep:=λi h h' st k=>by
  obtain ⟨hz,hTI,⟨u,v,hTO⟩,l1,l2⟩:=st
  exact ⟨k z (by simp) _ hz,k TI (by simp) _ hTI,⟨u,v,k TO (by simp) _ hTO⟩,fu l1 λo q=>k i1 (by simp) o q,fu l2 λo q=>k i2 (by simp) o q⟩
 item:=by
  intro X hP hw hK hc i pins s σ H E I hf st hg
  subst hP hw hK
  obtain ⟨xs,ys,hq,hq2,hi,hle⟩:=hg
  obtain ⟨its,rv,p,hz⟩:=I.tuple hq
  obtain ⟨its2,rv2,p2,hz2⟩:=I.tuple hq2
  have hx:xs[i]?=some xs[i]:=List.getElem?_eq_getElem hi
  have hy:ys[i]?=some (ys[i]'(by omega)):=List.getElem?_eq_getElem (by omega)
  obtain ⟨u,hu,ru⟩:=rv.get hx
  obtain ⟨u2,hu2,ru2⟩:=rv2.get hy
  have e1:=rv.length
  have e2:=rv2.length
  have D:=yz I own hf hq hq2
  have W:=zZ (prog:=X.prog) (w:=X.w) (A:=X.A) (I.ok.hd hc) z TI TO i1 i2 a b D its.toArray its2.toArray (by simp only [List.size_toArray];omega)
  obtain ⟨s1,s2,s3,s4,s5⟩:=id st
  refine qU (fp:=[z,TI,TO,i1,i2]) (vs:=[xs[i],ys[i]'(by omega)]) (src:=srcZT X.K a b) (tn:=tnZT a b z TI TO i1 i2) W I hf (λc hc=>let ⟨o,q,_⟩:=zobjT st c hc;⟨o,q⟩) (λc hc=>?_) (by simp only [List.size_toArray];omega) ⟨s1,s2,s3,s4,s5,p,p2⟩ (λvals hP=>?_) (by show 2<=sizeLine;decide)
   ⟨_,_,rfl,λzs hzs=>by rw [I.tuple_inj hzs hq];exact hx,λzs hzs=>by rw [I.tuple_inj hzs hq2];exact hy⟩ λh st=>⟨st.1,st.2.1,st.2.2.1,st.2.2.2.1,st.2.2.2.2.1⟩
  ·simp only [List.mem_cons,List.not_mem_nil,or_false] at hc ⊢
   rcases hc with q | q | q | q <;> simp [q]
  ·obtain ⟨v1,v2,e1,e2,rfl⟩:=hP
   have f1:v1=u:=by
    have q:its[i]?=some v1:=by simpa using e1
    rw [hu] at q
    exact (Option.some.inj q).symm
   have f2:v2=u2:=by
    have q:its2[i]?=some v2:=by simpa using e2
    rw [hu2] at q
    exact (Option.some.inj q).symm
   subst f1 f2
   exact .cons ru (.cons ru2 .nil)
 done:=by
  intro X hP hw hK hc i pins s σ H E I hf st hg
  subst hP hw hK
  obtain ⟨xs,ys,hq,hq2,hend,hle⟩:=hg
  obtain ⟨its,rv,p,hz⟩:=I.tuple hq
  have D:=yz I own hf hq hq2
  obtain ⟨s1,s2,⟨u,v,s3⟩,s4,s5⟩:=id st
  have e1:=rv.length
  have hT:s.TypeIs (.ref z) "zip":=⟨_,s1,rfl⟩
  have pT:s.heap.IsTuple a its.toArray:=p
  unfold pyNext
  refine wpAny_bind (wpAny_attempt (wpAny_callSpecial?_slot (name:=Str.ofString "__next__") hT F.slot_zip_next (wpAny_call_entry F.slot_zip_next hT F.entry_zip_next (uj (I.ok.hd hc) D s1 s2 s3 s4 pT (by simp;omega) λh' e kp ge=>?_) (F.args_zip_next_1 _))))
  obtain ⟨o,ho,hcl⟩:=ge
  refine wpAny_bind (wpAny_isInstance (T:="StopIteration") (b:=true) ⟨o,ho,hcl⟩ isSubtype_stop ?_)
  exact wpAny_pure ⟨rfl,I.turnedL (t':=s.toks) (λc o hc q=>kp c o (λe=>hc (by simp [e])) (λe=>hc (by simp [e])) (λe=>hc (by simp [e])) (λe=>hc (by simp [e])) q) hf⟩
 self:=λ_ _ _ _ _ st h=>wpAny_pyIter_zip st.1 h
section
variable {X:Cx}
noncomputable def iZipT (K:PySem.W.Frag) (ta tb:TE):TI:=fun σ H R=>ta σ H λx H1=>tb σ H1 λy H2=>∃ a b xs ys,x=.ref a/\y=.ref b/\SqT K H2 a xs/\SqT K H2 b ys/\R (BK K a b) H2
theorem lP {elts:List Expr} {kk:Nat} {tpos p pos:Pos} {e f:Expr} {te tf:TE} (hg:Gl X "zip") (hm:X.mg "zip"=none) (he:PE X e te) (hf:PE X f tf)
  (hs:starEach [e,f] X.env=[(false,eval e X.env),(false,eval f X.env)]:=by rfl) (hs2:starEach [f] X.env=[(false,eval f X.env)]:=by rfl):PI X (.Tuple elts kk tpos) (.Call (.Name "zip" p) [e,f] [] pos) (iZipT X.K te tf):=by
 intro pins s σ H R I h
 have b1:bootBuiltins "zip"=some (.type "zip"):=by decide +kernel
 refine wpAny_Call_Name_kw (mX I hg hm b1 ?_ (by decide) (by decide))
 refine PyProof.Rows.callWith_type1 ?_ (by rw [hs,hs2]) (by rw [hs2];rfl)
 rw [hs]
 refine Calls.spliced_cons (thn (he pins s σ H _ I h) λu s1 zz=>?_)
 obtain ⟨x,H1,I1,rx,q1⟩:=zz
 refine Calls.spliced_cons (thn (hf pins s1 σ H1 _ I1 q1) λu2 s2 zz=>?_)
 obtain ⟨y,H2,I2,ry,a,b,xs,ys,ex,ey,hq,hq2,q⟩:=zz
 subst ex ey
 have eu:u=Value.ref a:=rx
 have eu2:u2=Value.ref b:=ry
 subst eu eu2
 refine Calls.spliced_nil ?_
 obtain ⟨its,rv,pl,hz⟩:=I2.tuple hq
 obtain ⟨its2,rv2,pl2,hz2⟩:=I2.tuple hq2
 refine Br (show s2.heap.IsTuple a its.toArray from pl) (show s2.heap.IsTuple b its2.toArray from pl2) λh' z TI TO i1 i2 kp=>?_
 have I3:Inv X pins σ H2 {s2 with heap:=h' }:=I2.kept (t':=s2.toks) kp
 refine wpAny_pyIter_zip (s:={s2 with heap:=h' }) z ?_
 have ne:∀ i j:Nat,i≠j->s2.heap.objs.size+i≠s2.heap.objs.size+j:=λi j hij e=>hij (Nat.add_left_cancel e)
 refine ⟨_,[s2.heap.objs.size+4,s2.heap.objs.size+2,s2.heap.objs.size+3,s2.heap.objs.size,s2.heap.objs.size+1],_,BK X.K a b,H2,rfl,I3,
  Aa a b _ _ _ _ _ ⟨ne 2 4 (by decide),ne 3 4 (by decide),ne 0 4 (by decide),ne 1 4 (by decide),ne 2 3 (by decide),ne 2 0 (by decide),ne 2 1 (by decide),ne 3 0 (by decide),ne 3 1 (by decide),ne 0 1 (by decide)⟩,
  ⟨z,TI,⟨_,_,TO⟩,i1,i2⟩,λc hc=>?_,q⟩
 have nb:s2.heap.objs.size<=c:=by
  simp only [List.mem_cons,List.not_mem_nil,or_false] at hc
  rcases hc with rfl | rfl | rfl | rfl | rfl
  ·exact Nat.le_add_right _ _
  ·exact Nat.le_add_right _ _
  ·exact Nat.le_add_right _ _
  ·exact Nat.le_refl _
  ·exact Nat.le_add_right _ _
 exact I2.fpOk nb (I2.hok.fresh nb)
end
section
variable {X:Cx} {tg:Expr}
end
section
variable {X:Cx}
theorem iT (hc:X.calm=true):ft X (.builtin "min") (λxs H Q=>∃(l:Addr) (ns:List Int),xs=[.ref l]/\SqL X.K H l (ns.map V.int)/\0 < ns.length/\∀ M,M∈ns->(∀ a∈ns,M<=a)->Q (.int M) H):=by
 intro pins s σ H xs us Q I r h
 obtain ⟨l,ns,rfl,hq,hne,q⟩:=h
 obtain ⟨u,rfl,rx⟩:=vals1 r
 cases rx
 obtain ⟨its,rv,pl,_⟩:=I.list hq
 have hi:IntsAre its ns:=intsAre_of rv
 have hl:=pl.isList
 obtain ⟨ys,e⟩:=hi.allInts.items
 have en:ns=ys.toList.map (·.1):=by rw [<- hi.numsOf,<- nums_intItems,<- e]
 have sz:ns.length=ys.size:=by rw [en,List.length_map,Array.length_toList]
 rw [e] at hl
 refine min_intList (I.ok.hd hc) hl (by omega) λv h' tk hv hk=>?_
 obtain ⟨t,rfl⟩:=intItems_at hv
 obtain ⟨h1,h2⟩:=argBest_lt (numAt ys) (ys.size - 1)
 refine ⟨.int _,H,I.kept hk,⟨t,rfl⟩,q _ ?_ λa ha=>?_⟩
 ·rw [numAt_eq,<- en];exact PySem.getD_mem (by omega)
 ·rw [en] at ha
  obtain ⟨j,hj,rfl⟩:=mem_getD ha
  rw [<- numAt_eq];exact h2 j (by rw [List.length_map,Array.length_toList] at hj;omega)
theorem ki (hc:X.calm=true):ft X (.builtin "max") (λxs H Q=>∃(l:Addr) (ns:List Int),xs=[.ref l]/\SqL X.K H l (ns.map V.int)/\0 < ns.length/\∀ M,M∈ns->(∀ a∈ns,a<=M)->Q (.int M) H):=by
 intro pins s σ H xs us Q I r h
 obtain ⟨l,ns,rfl,hq,hne,q⟩:=h
 obtain ⟨u,rfl,rx⟩:=vals1 r
 cases rx
 obtain ⟨its,rv,pl,_⟩:=I.list hq
 have hi:IntsAre its ns:=intsAre_of rv
 have hl:=pl.isList
 obtain ⟨ys,e⟩:=hi.allInts.items
 have en:ns=ys.toList.map (·.1):=by rw [<- hi.numsOf,<- nums_intItems,<- e]
 have sz:ns.length=ys.size:=by rw [en,List.length_map,Array.length_toList]
 rw [e] at hl
 refine max_intList (I.ok.hd hc) hl (by omega) λv h' tk hv hk=>?_
 obtain ⟨t,rfl⟩:=intItems_at hv
 obtain ⟨h1,h2⟩:=argBest_gt (numAt ys) (ys.size - 1)
 refine ⟨.int _,H,I.kept hk,⟨t,rfl⟩,q _ ?_ λa ha=>?_⟩
 ·rw [numAt_eq,<- en];exact PySem.getD_mem (by omega)
 ·rw [en] at ha
  obtain ⟨j,hj,rfl⟩:=mem_getD ha
  rw [<- numAt_eq];exact h2 j (by rw [List.length_map,Array.length_toList] at hj;omega)
end
section
variable {X:Cx} {n:Nat} {x:Str} {sp:Sp} {p pos:Pos}
theorem zh (D:Def X.prog X.w X.K X.mg X.base n x [] sp) (hr:cX n X.A) (hg:Gl X x) (hdb:(x == ("__debug__":Str))=false:=by decide):PE X (.Call (.Name x p) [] [] pos) (oO sp [] E0 nM):=by
 obtain ⟨f,fd,F,b,kp,m⟩:=D.ex
 exact Dx F hr hg m kp b .nil vy hdb
end
open PySem.W
section
variable {X:Cx} {elt iter:Expr} {xs:List Str} {elts:List Expr} {kk:Nat} {tp pos:Pos} {scope:Scope} {cl:List (Str×Addr)} {wi:TI} {g:TG} {te:TE} {js:List Nat}
theorem Dl {y:Str} {i:Nat} {py spos:Pos} (hN:X.N.Nodup) (hy:X.N[i]?=some y) (hyl:Loc X.env.scope y) (hyf:X.fn y=true\/X.env.scope.names.lookup y=some .local)
  (hsw:swapsWith (.ListComp elt [⟨.Tuple elts kk tp,iter,[],0⟩] scope pos) (some (.Name y py)) spos.line X.env=pure true)
  (hc:X.calm=true) (hi:PI X (.Tuple elts kk tp) iter wi) (hk:scope.kind=.function) (hcell:∀ y∈scope.names,y.2≠.cell) (hnames:∀ y∈scope.names,y.2=.local->scope.names.lookup y.1=some .local)
  (hf:∀ p∈scope.names,p.2=.free->X.env.kindOf p.1=some .cell\/X.env.kindOf p.1=some .free) (hjs:fi X scope js) (hnd:(bP X xs js).Nodup)
  (hg:∀ cl s' H' fp,PG (bo X scope cl (bP X xs js) s' H' fp) (.Tuple elts kk tp) g) (he:∀ cl s' H' fp,PE (bo X scope cl (bP X xs js) s' H' fp) elt te)
  (hs:∀ x,foldedSetIterable iter X.env x=pure x:=by intro _;rfl) :
  PS X (.Assign [.Name y py] (.ListComp elt [⟨.Tuple elts kk tp,iter,[],0⟩] scope pos) spos) (qV i (sk xs.length wi g te js)):=by
 intro pins s σ H D I h
 obtain ⟨cl,e,p1,p2⟩:=tZ (oI (js:=js) I λy hy=>hf (y,.free) hy rfl)
 rw [exec_Assign_Name_used _ _ _ _ hsw]
 refine wpAny_bind (wpAny_standAt (wpAny_bind ?_))
 show wpAny _ _ (do let _ <- comprehension (.ListComp elt [⟨.Tuple elts kk tp,iter,[],0⟩] scope pos) scope X.env _ (newList []) false (eval iter X.env) (some (assign (.Name y py) X.env))) _ _ s
 refine wpAny_bind (wpAny_mono (wpAny_comprehension_free (use:=some (assign (.Name y py) X.env)) (Q:=λ_ s'=>SP X pins D .next s') rfl hs e hk hnames
  (qo hc hi hk hcell p1 p2 hjs hnd (hg cl) (he cl) I h λD' C H' s' I' fC hC q=>?_)) (λ_ s' hq=>wpAny_pure (wpAny_pure hq)) λ_ _ e=>e)
 obtain ⟨m,o,es,ep,ho,hd,hr⟩:=hC
 obtain ⟨f0,f1,f2,f3,f4,f5⟩:=fC
 have Ip:Inv X (pins++[(C,o)]) σ H' s':=I'.pins_of λp hp=>(List.mem_append.mp hp).elim (λz=>I'.pin p (List.mem_append_right _ z)) λz=>by
  have e:p=(C,o):=by simpa using z
  subst e
  exact ⟨ho,f0,f1,f2,λv z=>by rw [hd] at z;cases z⟩
 have hg:PG X (.Name y py) (rQ i):=aV hN hy hyl hyf
 refine thn (hg _ s' σ H' (.ref D') (.ref D') (fun σ' H''=>σ'=σ.set i (some (.ref D'))/\H''=H') Ip rfl ⟨rfl,rfl⟩) λ_ s'' q''=>?_
 obtain ⟨σ'',H'',I'',e1,e2⟩:=q''
 subst e1 e2
 have hp:=(I''.pin (C,o) (by simp)).1
 refine ⟨m,⟨o,es,ep,hp,hd,hr⟩,λh' sb=>?_⟩
 exact ⟨_,_,(I''.unpinned).turned (t':=s''.toks) (λb o hb e=>(sb.2 b hb).trans e) f0 f1 f3 f4 f5,q⟩
end
section
variable {X:Cx} {es fs:List Expr} {t:TA} {te:TE} {k j:Nat} {p:Pos} {i:Int}
theorem ia (hr:PA X es t):PA X (.Constant (.int i) j p::es) (eA (tC (.int i)) t):=aa aq hr
theorem pa_tu (ha:PE X (.Tuple fs k p) te) (hr:PA X es t):PA X (.Tuple fs k p::es) (eA te t):=aa ha hr
noncomputable def tK3 (a b c:Int):TE:=tTup (eA (tC (.int a)) (eA (tC (.int b)) (eA (tC (.int c)) nM)))
noncomputable def eK3 (a b c:Int) (j1 j2 j3 k:Nat) (p1 p2 p3 p:Pos):Expr:=.Tuple [.Constant (.int a) j1 p1,.Constant (.int b) j2 p2,.Constant (.int c) j3 p3] k p
theorem pe_k3 {a b c:Int} {j1 j2 j3 k:Nat} {p1 p2 p3 p:Pos}:PE X (.Tuple [.Constant (.int a) j1 p1,.Constant (.int b) j2 p2,.Constant (.int c) j3 p3] k p) (tK3 a b c):=by
 unfold tK3
 refine bh ?_
 refine ia ?_
 refine ia ?_
 refine ia ?_
 exact af
theorem tD {a b c:Int} {j1 j2 j3 k:Nat} {p1 p2 p3 p:Pos}:PE X (eK3 a b c j1 j2 j3 k p1 p2 p3 p) (tK3 a b c):=pe_k3
noncomputable def tSq:TE:=tLst (eA (tK3 1 0 0) (eA (tK3 1 1 0) (eA (tK3 1 1 1) (eA (tK3 1 0 1) nM))))
structure IsSq (e:Expr):Prop where
 ex:∃ a1 a2 a3 a4 q1 q2 q3 q4 b1 b2 b3 b4 r1 r2 r3 r4 c1 c2 c3 c4 s1 s2 s3 s4 d1 d2 d3 d4 t1 t2 t3 t4 p,e=.List [eK3 1 0 0 a1 a2 a3 a4 q1 q2 q3 q4,eK3 1 1 0 b1 b2 b3 b4 r1 r2 r3 r4,eK3 1 1 1 c1 c2 c3 c4 s1 s2 s3 s4,eK3 1 0 1 d1 d2 d3 d4 t1 t2 t3 t4] p
theorem pe_sq {e:Expr} (h:IsSq e):PE X e tSq:=by
 obtain ⟨a1,a2,a3,a4,q1,q2,q3,q4,b1,b2,b3,b4,r1,r2,r3,r4,c1,c2,c3,c4,s1,s2,s3,s4,d1,d2,d3,d4,t1,t2,t3,t4,p,rfl⟩:=h.ex
 unfold tSq
 refine bF ?_
 refine aa tD ?_ rfl
 refine aa tD ?_ rfl
 refine aa tD ?_ rfl
 refine aa tD ?_ rfl
 exact af
end
mutual
noncomputable def EV (K:PySem.W.Frag) (H:Hp):PyData->V->Prop
 | .none,v=>v=.non
 | .bool b,v=>v=.bl b
 | .int i,v=>v=.int i
 | .str x,v=>v=.str x
 | .tuple ds,v=>∃ a xs,v=.ref a/\SqT K H a xs/\gy K H ds xs
 | .list ds,v=>∃ a xs,v=.ref a/\SqL K H a xs/\gy K H ds xs
 | .dict _,_=>False
noncomputable def gy (K:PySem.W.Frag) (H:Hp):List PyData->List V->Prop
 | [],xs=>xs=[]
 | d::ds,xs=>∃ x r,xs=x::r/\EV K H d x/\gy K H ds r
end
mutual
theorem Dat.m {K:PySem.W.Frag} {H:Hp}:∀{d:PyData} {v:V},Dat K H d v->EV K H d v
 | .none,_,h=>h
 | .bool _,_,h=>h
 | .int _,_,h=>h
 | .str _,_,h=>h
 | .tuple _,_,⟨a,xs,h1,h2,h3⟩=>⟨a,xs,h1,h2,DatAll.m h3⟩
 | .list _,_,h=>False.elim h
 | .dict _,_,h=>h
theorem DatAll.m {K:PySem.W.Frag} {H:Hp}:∀{ds:List PyData} {xs:List V},DatAll K H ds xs->gy K H ds xs
 | [],_,h=>h
 | _::_,_,⟨x,r,h1,h2,h3⟩=>⟨x,r,h1,Dat.m h2,DatAll.m h3⟩
end
mutual
theorem EV.reads {X:Cx} {pins:List (Addr×Obj)} {σ:St} {H:Hp} {s:Shared} (I:Inv X pins σ H s):∀(d:PyData) {v:V} {u:Value},EV X.K H d v->RelV v u->∃ as,Reads s.heap u d as
 | .none,_,_,h,r=>Dat.reads I .none h r
 | .bool b,_,_,h,r=>Dat.reads I (.bool b) h r
 | .int i,_,_,h,r=>Dat.reads I (.int i) h r
 | .str x,_,_,h,r=>Dat.reads I (.str x) h r
 | .tuple ds,_,_,⟨a,xs,h1,h2,h3⟩,r=>by
  cases h1
  cases (show _=Value.ref a from r)
  obtain ⟨its,rv,⟨o,ho,hc,n,hd⟩,_⟩:=I.tuple h2
  obtain ⟨as,ra⟩:=gy.reads I ds h3 rv
  exact ⟨as,.tuple ho hc hd (by simpa using ra)⟩
 | .list ds,_,_,⟨a,xs,h1,h2,h3⟩,r=>by
  cases h1
  cases (show _=Value.ref a from r)
  obtain ⟨its,rv,⟨o,n,ho,hc,_,hd⟩,_⟩:=I.list h2
  obtain ⟨as,ra⟩:=gy.reads I ds h3 rv
  exact ⟨a::as,.list ho hc hd (by simpa using ra)⟩
 | .dict _,_,_,h,_=>False.elim h
theorem gy.reads {X:Cx} {pins:List (Addr×Obj)} {σ:St} {H:Hp} {s:Shared} (I:Inv X pins σ H s):∀(ds:List PyData) {xs:List V} {us:List Value},gy X.K H ds xs->Vals xs us->∃ as,ReadsAll s.heap us ds as
 | [],_,_,h,r=>by
  cases (show _=([]:List V) from h)
  cases r
  exact ⟨[],.nil⟩
 | d::ds,_,_,⟨x,t,h1,h2,h3⟩,r=>by
  cases h1
  cases r with
  | cons r1 r2 =>
   obtain ⟨as,a1⟩:=EV.reads I d h2 r1
   obtain ⟨bs,b1⟩:=gy.reads I ds h3 r2
   exact ⟨as++bs,.cons a1 b1⟩
end
section
variable {X:Cx}
end
end L2
namespace Mine
structure T3 where
 u:Int
 v:Int
 w:Int
deriving DecidableEq
namespace Hu
noncomputable def tl (r p:T3):Int:=r.u*p.v+r.v*p.w+r.w*p.u
noncomputable def det (p q r:T3):Int:=p.u*(q.v*r.w - q.w*r.v) - p.v*(q.u*r.w - q.w*r.u)+p.w*(q.u*r.v - q.v*r.u)
theorem bM (p q r:T3):det p q r=det r p q:=by simp only [det];grind
theorem yb (p r:T3):det p p r=0:=by simp only [det];grind
theorem ya (p r:T3):det r p p=0:=by simp only [det];grind
theorem det_ab (p r:T3):det p r p=0:=by simp only [det];grind
structure Co (p q X:T3):Prop where
 ex:∃ g a b:Int,0 < g/\0<=a/\0<=b/\g*X.u=a*p.u+b*q.u/\g*X.v=a*p.v+b*q.v/\g*X.w=a*p.w+b*q.w
theorem co_one (p q:T3):Co p q p:=⟨1,1,0,by decide,by decide,by decide,by omega,by omega,by omega⟩
theorem sZ {g x:Int} (hg:0 < g) (h:0<=g*x):0<=x:=by
 rcases Int.lt_or_le x 0 with z | z
 ·have:=Int.mul_neg_of_pos_of_neg hg z;omega
 ·exact z
theorem co_1 {p q X Y Z:T3} (h:Co p q X) (h1:0<=det p Y Z) (h2:0<=det q Y Z):0<=det X Y Z:=by
 obtain ⟨g,a,b,hg,ha,hb,e1,e2,e3⟩:=h.ex
 refine sZ hg ?_
 have e:g*det X Y Z=a*det p Y Z+b*det q Y Z:=by simp only [det];grind
 rw [e]
 have:=Int.mul_nonneg ha h1
 have:=Int.mul_nonneg hb h2
 omega
theorem co_2 {p q X Y Z:T3} (h:Co p q Y) (h1:0<=det X p Z) (h2:0<=det X q Z):0<=det X Y Z:=by
 rw [bM,bM]
 rw [bM,bM] at h1 h2
 exact co_1 h h1 h2
theorem co_3 {p q X Y Z:T3} (h:Co p q Z) (h1:0<=det X Y p) (h2:0<=det X Y q):0<=det X Y Z:=by
 rw [bM]
 rw [bM] at h1 h2
 exact co_1 h h1 h2
noncomputable def Tri (L:List T3):Prop:=∀ p q r,[p,q,r].Sublist L->0<=det p q r
theorem mq {α:Type} {L:List α} {i j k:Nat} (h1:i < j) (h2:j < k) (h3:k < L.length):[L[i]'(by omega),L[j]'(by omega),L[k]].Sublist L:=by
 have a3:[L[k]].Sublist (L.drop (j+1)):=by
  rw [List.singleton_sublist]
  rw [List.mem_iff_getElem]
  exact ⟨k - (j+1),by simp;omega,by simp [show j+1+(k - (j+1))=k by omega]⟩
 have a2:[L[j]'(by omega),L[k]].Sublist (L.drop (i+1)):=by
  have:[L[j]'(by omega),L[k]].Sublist (L.drop j):=by
   rw [List.drop_eq_getElem_cons (show j < L.length by omega)]
   exact List.Sublist.cons₂ _ a3
  refine this.trans ?_
  have e:L.drop j=(L.drop (i+1)).drop (j - (i+1)):=by rw [List.drop_drop];congr 1;omega
  rw [e]
  exact List.drop_sublist _ _
 refine List.Sublist.trans ?_ (List.drop_sublist i L)
 rw [List.drop_eq_getElem_cons (show i < L.length by omega)]
 exact List.Sublist.cons₂ _ a2
section
variable {α:Type} {f:Nat->List α}
noncomputable def fl (f:Nat->List α) (n:Nat):List α:=(List.range n).flatMap f
theorem tW:fl f 0=[]:=rfl
theorem ba (n:Nat):fl f (n+1)=fl f n++f n:=by simp [fl,List.range_succ]
theorem sub_one {p:α}:∀{n:Nat},p∈fl f n->∃ i,i < n/\p∈f i
 | 0,h=>by simp [fl] at h
 | n+1,h=>by
  rw [ba] at h
  rcases List.mem_append.mp h with h | h
  ·obtain ⟨i,hi,z⟩:=sub_one h
   exact ⟨i,by omega,z⟩
  ·exact ⟨n,by omega,h⟩
theorem yB {p q:α}:∀{n:Nat},[p,q].Sublist (fl f n)->(∃ i j,i < j/\j < n/\p∈f i/\q∈f j)\/∃ i,i < n/\[p,q].Sublist (f i)
 | 0,h=>by have:=h.length_le;simp [fl] at this
 | n+1,h=>by
  rw [ba] at h
  obtain ⟨l1,l2,e,h1,h2⟩:=List.sublist_append_iff.mp h
  match l1,e with
  | [],e=>subst e;exact .inr ⟨n,by omega,h2⟩
  | [_],e =>
   simp at e
   obtain ⟨rfl,rfl⟩:=e
   obtain ⟨i,hi,z⟩:=sub_one (List.singleton_sublist.mp h1)
   exact .inl ⟨i,n,hi,by omega,z,List.singleton_sublist.mp h2⟩
  | [_,_],e =>
   simp at e
   obtain ⟨rfl,rfl,rfl⟩:=e
   rcases yB h1 with ⟨i,j,a,b,c,d⟩ | ⟨i,a,b⟩
   ·exact .inl ⟨i,j,a,by omega,c,d⟩
   ·exact .inr ⟨i,by omega,b⟩
  | _::_::_::_,e=>simp at e
theorem qW {p q r:α}:∀{n:Nat},[p,q,r].Sublist (fl f n)->(∃ i j k,i < j/\j < k/\k < n/\p∈f i/\q∈f j/\r∈f k)\/(∃ i k,i < k/\k < n/\[p,q].Sublist (f i)/\r∈f k)\/(∃ i k,i < k/\k < n/\p∈f i/\[q,r].Sublist (f k))\/∃ i,i < n/\[p,q,r].Sublist (f i)
 | 0,h=>by have:=h.length_le;simp [fl] at this
 | n+1,h=>by
  rw [ba] at h
  obtain ⟨l1,l2,e,h1,h2⟩:=List.sublist_append_iff.mp h
  match l1,e with
  | [],e=>subst e;exact .inr (.inr (.inr ⟨n,by omega,h2⟩))
  | [_],e =>
   simp at e
   obtain ⟨rfl,rfl⟩:=e
   obtain ⟨i,hi,z⟩:=sub_one (List.singleton_sublist.mp h1)
   exact .inr (.inr (.inl ⟨i,n,hi,by omega,z,h2⟩))
  | [_,_],e =>
   simp at e
   obtain ⟨rfl,rfl,rfl⟩:=e
   have h2':=List.singleton_sublist.mp h2
   rcases yB h1 with ⟨i,j,a,b,c,d⟩ | ⟨i,a,b⟩
   ·exact .inl ⟨i,j,n,a,b,by omega,c,d,h2'⟩
   ·exact .inr (.inl ⟨i,n,a,by omega,b,h2'⟩)
  | [_,_,_],e =>
   simp at e
   obtain ⟨rfl,rfl,rfl,rfl⟩:=e
   rcases qW h1 with ⟨i,j,k,a,b,c,d⟩ | ⟨i,k,a,b,c⟩ | ⟨i,k,a,b,c⟩ | ⟨i,a,b⟩
   ·exact .inl ⟨i,j,k,a,b,by omega,d⟩
   ·exact .inr (.inl ⟨i,k,a,by omega,c⟩)
   ·exact .inr (.inr (.inl ⟨i,k,a,by omega,c⟩))
   ·exact .inr (.inr (.inr ⟨i,by omega,b⟩))
  | _::_::_::_::_,e=>simp at e
theorem qf {c:Nat} (h:∀ i,(f i).length<=c):∀ n:Nat,(fl f n).length<=n*c
 | 0=>by simp [fl]
 | n+1=>by
  rw [ba,List.length_append]
  have:=qf h n
  have:=h n
  rw [Nat.add_mul]
  omega
theorem Es {p:α} {i n:Nat} (hi:i < n) (h:p∈f i):p∈fl f n:=by
 unfold fl
 exact List.mem_flatMap.mpr ⟨i,List.mem_range.mpr hi,h⟩
end
noncomputable def z3:T3:=⟨1,0,0⟩
noncomputable def cor (h:List T3) (i:Nat):T3:=h.getD (i % h.length) z3
theorem dW {h:List T3} {i:Nat} (hi:i < h.length):cor h i=h[i]:=by
 unfold cor
 rw [Nat.mod_eq_of_lt hi,List.getD_eq_getElem?_getD,List.getElem?_eq_getElem hi]
 rfl
theorem dC (h:List T3):cor h h.length=cor h 0:=by
 unfold cor
 rw [Nat.mod_self,Nat.zero_mod]
theorem cW {h:List T3} (h0:0 < h.length) (i:Nat):cor h i∈h:=by
 have:i % h.length < h.length:=Nat.mod_lt _ h0
 unfold cor
 rw [List.getD_eq_getElem?_getD,List.getElem?_eq_getElem this]
 exact List.getElem_mem this
theorem CZ {h:List T3} (T:Tri h) {i j k:Nat} (h1:i<=j) (h2:j<=k) (h3:k < h.length):0<=det (cor h i) (cor h j) (cor h k):=by
 rcases Nat.lt_or_ge i j with a | a
 ·rcases Nat.lt_or_ge j k with b | b
  ·rw [dW (show i < h.length by omega),dW (show j < h.length by omega),dW h3]
   exact T _ _ _ (mq a b h3)
  ·rw [show j=k by omega,ya];exact Int.le_refl 0
 ·rw [show i=j by omega,yb];exact Int.le_refl 0
theorem sR {h:List T3} (T:Tri h) {i j k:Nat} (h1:i<=j) (h2:j<=k) (h3:k<=h.length):0<=det (cor h i) (cor h j) (cor h k):=by
 rcases Nat.lt_or_ge k h.length with c | c
 ·exact CZ T h1 h2 c
 ·rw [show k=h.length by omega,dC,bM]
  rcases Nat.lt_or_ge j h.length with d | d
  ·exact CZ T (Nat.zero_le _) h1 d
  ·rw [show j=h.length by omega,dC,det_ab];exact Int.le_refl 0
structure Part (h:List T3) (f:Nat->List T3):Prop where
 co:∀ i,i < h.length->∀ p∈f i,Co (cor h i) (cor h (i+1)) p
 two:∀ i,i < h.length->∀ p q,[p,q].Sublist (f i)->p=cor h i
 len:∀ i,(f i).length<=2
end Hu
namespace Hu
noncomputable def nm (p q s t:Int):Int:=(t.natAbs:Int)*p+(s.natAbs:Int)*q
noncomputable def gg (U V W:Int):Int:=Lo.gc (Lo.gc U V) W
noncomputable def mid (p q:T3) (s t:Int):T3 :=
 ⟨(nm p.u q.u s t).fdiv (gg (nm p.u q.u s t) (nm p.v q.v s t) (nm p.w q.w s t)),(nm p.v q.v s t).fdiv (gg (nm p.u q.u s t) (nm p.v q.v s t) (nm p.w q.w s t)),(nm p.w q.w s t).fdiv (gg (nm p.u q.u s t) (nm p.v q.v s t) (nm p.w q.w s t))⟩
theorem zr (p q:T3) (s t:Int):mid p q (-s) (-t)=mid p q s t:=by simp only [mid,nm,Int.natAbs_neg]
theorem wa (U V W:Int):gg U V W∣U:=Int.dvd_trans (Lo.dY _ _) (Lo.dY _ _)
theorem El (U V W:Int):gg U V W∣V:=Int.dvd_trans (Lo.dY _ _) (Lo.eX _ _)
theorem Ek (U V W:Int):gg U V W∣W:=Lo.eX _ _
theorem Bm (U V W:Int):0<=gg U V W:=Lo.rP _ _
theorem kR {U V W:Int} (h:0 < U):0 < gg U V W:=by
 rcases Int.lt_or_eq_of_le (Bm U V W) with z | z
 ·exact z
 ·have:=wa U V W
  rw [<- z] at this
  have:=Int.zero_dvd.mp this
  omega
theorem gg_le {U V W:Int} (h:0 < U):gg U V W<=U:=Int.le_of_dvd h (wa U V W)
theorem div_eq {g x:Int} (h:g∣x):g*x.fdiv g=x:=by
 rw [Int.fdiv_eq_ediv_of_dvd h]
 exact Int.mul_ediv_cancel' h
structure P3 (b:Nat) (p:T3):Prop where
 n0:0 < p.u
 x0:0<=p.v
 y0:0<=p.w
 n1:p.u < 2 ^ b
 x1:p.v < 2 ^ b
 y1:p.w < 2 ^ b
theorem P3.mono {b c:Nat} {p:T3} (h:P3 b p) (z:b<=c):P3 c p:=by
 have e:(2:Int) ^ b<=2 ^ c:=by
  have:=Nat.pow_le_pow_right (n:=2) (by decide) z
  exact_mod_cast this
 exact ⟨h.n0,h.x0,h.y0,Int.lt_of_lt_of_le h.n1 e,Int.lt_of_lt_of_le h.x1 e,Int.lt_of_lt_of_le h.y1 e⟩
theorem kO {a c:Int} {m n:Nat} (h1:a.natAbs < 2 ^ m) (h2:c.natAbs < 2 ^ n):(a*c).natAbs < 2 ^ (m+n):=by
 rw [Int.natAbs_mul,Nat.pow_add]
 rcases Nat.eq_zero_or_pos c.natAbs with z | z
 ·rw [z,Nat.mul_zero];exact Nat.mul_pos (Nat.pow_pos (by decide)) (Nat.pow_pos (by decide))
 ·exact Nat.lt_of_lt_of_le (Nat.mul_lt_mul_of_pos_right h1 z) (Nat.mul_le_mul_left _ (Nat.le_of_lt h2))
theorem vJ {b:Nat} {x:Int} (h0:0<=x) (h:x < 2 ^ b):x.natAbs < 2 ^ b:=by
 have e:((2 ^ b:Nat):Int)=(2:Int) ^ b:=by norm_cast
 omega
theorem nm_b {b e:Nat} {p q s t:Int} (p0:0<=p) (q0:0<=q) (p1:p < 2 ^ b) (q1:q < 2 ^ b) (hs:s.natAbs < 2 ^ e) (ht:t.natAbs < 2 ^ e):0<=nm p q s t/\(nm p q s t).natAbs < 2 ^ (e+b+1):=by
 have a1:=kO (a:=(t.natAbs:Int)) (c:=p) (m:=e) (n:=b) (by simpa using ht) (vJ p0 p1)
 have a2:=kO (a:=(s.natAbs:Int)) (c:=q) (m:=e) (n:=b) (by simpa using hs) (vJ q0 q1)
 have b1:0<=(t.natAbs:Int)*p:=Int.mul_nonneg (by omega) p0
 have b2:0<=(s.natAbs:Int)*q:=Int.mul_nonneg (by omega) q0
 have e1:2 ^ (e+b+1)=2 ^ (e+b)+2 ^ (e+b):=by rw [Nat.pow_succ];omega
 unfold nm
 rw [e1]
 exact ⟨by omega,by omega⟩
section
variable {b e:Nat} {p q:T3} {s t:Int}
theorem ic (hp:P3 b p) (hq:P3 b q) (h:s*t < 0):0 < nm p.u q.u s t:=by
 have s0:s≠0:=λz=>by rw [z] at h;simp at h
 have t0:t≠0:=λz=>by rw [z] at h;simp at h
 have a1:0 < (t.natAbs:Int)*p.u:=Int.mul_pos (by omega) hp.n0
 have a2:0 < (s.natAbs:Int)*q.u:=Int.mul_pos (by omega) hq.n0
 unfold nm;omega
theorem pU (hp:P3 b p) (hq:P3 b q) (h:s*t < 0):Co p q (mid p q s t):=by
 have g0:=kR (V:=nm p.v q.v s t) (W:=nm p.w q.w s t) (ic hp hq h)
 exact ⟨gg (nm p.u q.u s t) (nm p.v q.v s t) (nm p.w q.w s t),t.natAbs,s.natAbs,g0,by omega,by omega,div_eq (wa _ _ _),div_eq (El _ _ _),div_eq (Ek _ _ _)⟩
end
structure uh (b l:Nat) (h:List T3):Prop where
 tri:Tri h
 ok:∀ p∈h,P3 b p
 pos:0 < h.length
 few:h.length<=l
noncomputable def stp (h:List T3) (t:Nat->Int) (i:Nat):List T3:=(if t i<=0 then [cor h i] else [])++(if t i*t (i+1) < 0 then [mid (cor h i) (cor h (i+1)) (t i) (t (i+1))] else [])
noncomputable def tv (r:T3) (h:List T3) (i:Nat):Int:=tl r (cor h i)
noncomputable def tn (r:T3) (h:List T3) (i:Nat):Int:=- tl r (cor h i)
noncomputable def low (r:T3) (h:List T3):List T3:=fl (stp h (tv r h)) h.length
noncomputable def high (r:T3) (h:List T3):List T3:=fl (stp h (tn r h)) h.length
theorem lz {b l:Nat} {h:List T3} (H:uh b l h) (t:Nat->Int):Part h (stp h t) where
 co:=λi hi p hp=>by
  unfold stp at hp
  rcases List.mem_append.mp hp with z | z
  ·split at z
   ·rw [List.mem_singleton.mp z];exact co_one _ _
   ·cases z
  ·split at z
   ·rename_i c
    rw [List.mem_singleton.mp z];exact pU (H.ok _ (cW H.pos i)) (H.ok _ (cW H.pos (i+1))) c
   ·cases z
 two:=λi hi p q s=>by
  unfold stp at s
  by_cases c1:t i<=0 <;> by_cases c2:t i*t (i+1) < 0
  ·rw [if_pos c1,if_pos c2] at s
   have:=s.eq_of_length (by simp)
   simp at this
   exact this.1
  ·rw [if_pos c1,if_neg c2] at s
   have:=s.length_le
   simp at this
  ·rw [if_neg c1,if_pos c2] at s
   have:=s.length_le
   simp at this
  ·rw [if_neg c1,if_neg c2] at s
   have:=s.length_le
   simp at this
 len:=λi=>by
  unfold stp
  rw [List.length_append]
  split <;> split <;> simp
structure R3 (c:Nat) (r:T3):Prop where
 a:r.u.natAbs < 2 ^ c
 b:r.v.natAbs < 2 ^ c
 c:r.w.natAbs < 2 ^ c
theorem P3.r {b:Nat} {p:T3} (h:P3 b p):R3 b p:=⟨vJ (Int.le_of_lt h.n0) h.n1,vJ h.x0 h.x1,vJ h.y0 h.y1⟩
theorem tl_b {b c:Nat} {r p:T3} (hr:R3 c r) (hp:R3 b p):(tl r p).natAbs < 2 ^ (c+b+2):=by
 have a1:=kO hr.a hp.b
 have a2:=kO hr.b hp.c
 have a3:=kO hr.c hp.a
 have e1:2 ^ (c+b+2)=4*2 ^ (c+b):=by rw [Nat.pow_add];omega
 unfold tl
 rw [e1]
 omega
noncomputable def gX (r:T3) (h:List T3):Prop:=(∀ p∈h,0<=tl r p)\/∀ p∈h,tl r p<=0
theorem R3.mono {b c:Nat} {p:T3} (h:R3 b p) (z:b<=c):R3 c p:=by
 have e:=Nat.pow_le_pow_right (n:=2) (by decide) z
 exact ⟨Nat.lt_of_lt_of_le h.a e,Nat.lt_of_lt_of_le h.b e,Nat.lt_of_lt_of_le h.c e⟩
end Hu
namespace Hu
theorem uw (r:T3) (h:List T3) (i:Nat):stp h (tn r h) i=(if 0<=tv r h i then [cor h i] else [])++(if tv r h i*tv r h (i+1) < 0 then [mid (cor h i) (cor h (i+1)) (tv r h i) (tv r h (i+1))] else []):=by
 unfold stp tn tv
 rw [zr,Int.neg_mul_neg]
 congr 1
 by_cases c:0<=tl r (cor h i)
 ·rw [if_pos c,if_pos (by omega)]
 ·rw [if_neg c,if_neg (by omega)]
theorem wQ (r:T3) (h:List T3) (i:Nat):tv r h (i % h.length)=tv r h i:=by unfold tv cor;rw [Nat.mod_mod]
theorem zQ (h:List T3) (i:Nat):cor h (i % h.length)=cor h i:=by unfold cor;rw [Nat.mod_mod]
theorem lY {h:List T3} {i:Nat} (hi:i < h.length):h[i]?=some (cor h i):=by rw [List.getElem?_eq_getElem hi,dW hi]
theorem qe (i n:Nat):((i:Int)+1).fmod (n:Int)=(((i+1) % n:Nat):Int):=by
 rw [Int.fmod_eq_emod_of_nonneg _ (by omega),Int.natCast_emod,Int.natCast_add]
 rfl
end Hu
namespace Hu
noncomputable def sqH:List T3:=[⟨1,0,0⟩,⟨1,1,0⟩,⟨1,1,1⟩,⟨1,0,1⟩]
theorem sq_tri:Tri sqH:=by
 intro p q r h
 simp only [sqH,List.sublist_cons_iff,List.sublist_nil,List.cons.injEq,reduceCtorEq,false_or,or_false] at h
 simp only [List.nil_eq,exists_eq_right_right',and_assoc] at h
 grind [det]
theorem sq_hull:uh 1 4 sqH:=⟨sq_tri,λp hp=>by
 simp only [sqH,List.mem_cons,List.not_mem_nil,or_false] at hp
 rcases hp with rfl | rfl | rfl | rfl <;> exact ⟨by decide,by decide,by decide,by decide,by decide,by decide⟩,by decide,by decide⟩
theorem uh.mono {b b' l l':Nat} {h:List T3} (H:uh b l h) (h1:b<=b') (h2:l<=l'):uh b' l' h:=⟨H.tri,λp hp=>(H.ok p hp).mono h1,H.pos,Nat.le_trans H.few h2⟩
end Hu
namespace Hu
noncomputable def cx (p q:T3):Rat:=((p.v:Rat)*q.w - (q.v:Rat)*p.w) / ((p.u:Rat)*q.u)
theorem cx_self (p:T3):cx p p=0:=by unfold cx;grind
theorem qk (p q:T3):cx q p = - cx p q:=by unfold cx;grind
theorem mU {n:Int} (h:0 < n):(n:Rat)≠0:=by
 intro z
 have:n=0:=by exact_mod_cast z
 omega
theorem det_rat (p q r:T3):((det p q r:Int):Rat)=(p.u:Rat)*(q.v*r.w - q.w*r.v) - p.v*(q.u*r.w - q.w*r.u)+p.w*(q.u*r.v - q.v*r.u):=by
 unfold det
 simp only [Rat.intCast_add,Rat.intCast_sub,Rat.intCast_mul]
theorem wm {p q r:T3} (hp:0 < p.u) (hq:0 < q.u) (hr:0 < r.u):cx p q+cx q r+cx r p=((det p q r:Int):Rat) / ((p.u:Rat)*q.u*r.u):=by
 rw [det_rat]
 have h1:=mU hp
 have h2:=mU hq
 have h3:=mU hr
 unfold cx
 grind
theorem tY {p q r:T3} (hp:0 < p.u) (hq:0 < q.u) (hr:0 < r.u) (h:det p q r=0):cx p q+cx q r=cx p r:=by
 have e:=wm hp hq hr
 rw [h,qk p r] at e
 have z:((0:Int):Rat) / ((p.u:Rat)*q.u*r.u)=0:=by grind
 rw [z] at e
 grind
theorem qj {m p q r:T3} (hm:m.u≠0\/m.v≠0\/m.w≠0) (h1:tl m p=0) (h2:tl m q=0) (h3:tl m r=0):det p q r=0:=by
 unfold tl at h1 h2 h3
 have a:m.u*det p q r=0:=by unfold det;grind
 have b:m.v*det p q r=0:=by unfold det;grind
 have c:m.w*det p q r=0:=by unfold det;grind
 rcases hm with z | z | z
 ·exact (Int.mul_eq_zero.mp a).resolve_left z
 ·exact (Int.mul_eq_zero.mp b).resolve_left z
 ·exact (Int.mul_eq_zero.mp c).resolve_left z
noncomputable def sm:List T3->Rat
 | []=>0
 | [_]=>0
 | a::b::r=>cx a b+sm (b::r)
theorem dM:∀(L:List T3) (a b:T3),sm (L++[a,b])=sm (L++[a])+cx a b
 | [],a,b=>by simp only [sm,List.nil_append];grind
 | [x],a,b=>by simp only [sm,List.cons_append,List.nil_append];grind
 | x::y::r,a,b=>by
  have:=dM (y::r) a b
  simp only [sm,List.cons_append] at *
  rw [this]
  grind
noncomputable def kS (L:List T3):Rat:=match L with
 | []=>0
 | a::r=>sm (a::r++[a])
noncomputable def su (f:Nat->Rat):Nat->Rat
 | 0=>0
 | k+1=>su f k+f k
theorem xf (f g:Nat->Rat):∀ k,su (λi=>f i+g i) k=su f k+su g k
 | 0=>by simp only [su];grind
 | k+1=>by simp only [su];rw [xf f g k];grind
theorem yC (f:Nat->Rat):∀ k,su (λi=>f i - f (i+1)) k=f 0 - f k
 | 0=>by simp only [su];grind
 | k+1=>by simp only [su];rw [yC f k];grind
theorem uv {f g:Nat->Rat}:∀{k},(∀ i,i < k->f i=g i)->su f k=su g k
 | 0,_=>rfl
 | k+1,h=>by simp only [su];rw [uv λi hi=>h i (by omega),h k (by omega)]
section
variable {h:List T3} {t:Nat->Int} {m X:T3}
noncomputable def md (h:List T3) (t:Nat->Int) (i:Nat):T3:=mid (cor h i) (cor h (i+1)) (t i) (t (i+1))
noncomputable def gL (h:List T3) (t:Nat->Int) (X:T3) (i:Nat):Rat :=
 if t i<=0 then (if t (i+1)<=0 then cx (cor h i) (cor h (i+1)) else if t i < 0 then cx (cor h i) (md h t i)+cx (md h t i) X else cx (cor h i) X)
 else (if t (i+1) < 0 then cx X (md h t i)+cx (md h t i) (cor h (i+1)) else if t (i+1)=0 then cx X (cor h (i+1)) else 0)
structure Wk (h:List T3) (t:Nat->Int) (m X:T3):Prop where
 m0:m.u≠0\/m.v≠0\/m.w≠0
 xu:0 < X.u
 xl:tl m X=0
 cu:∀ i,0 < (cor h i).u
 cz:∀ i,t i=0->tl m (cor h i)=0
 mu:∀ i,t i*t (i+1) < 0->0 < (md h t i).u
 ml:∀ i,t i*t (i+1) < 0->tl m (md h t i)=0
noncomputable def stt (t:Nat->Int) (X:T3):List T3:=if t 0<=0 then [] else [X]
noncomputable def pp (h:List T3) (t:Nat->Int) (X:T3) (k:Nat):T3:=if t k<=0 then cor h k else X
noncomputable def On (m:T3) (e:T3):Prop:=tl m e=0/\0 < e.u
theorem Wk.three (W:Wk h t m X) {a b:T3} (ha:On m a) (hb:On m b):cx a X+cx X b=cx a b:=tY ha.2 W.xu hb.2 (qj W.m0 ha.1 W.xl hb.1)
theorem mv {i:Nat} (h1:t i<=0) (h2:¬t i*t (i+1) < 0):stp h t i=[cor h i]:=by unfold stp;rw [if_pos h1,if_neg h2];rfl
theorem oi {i:Nat} (h1:t i<=0) (h2:t i*t (i+1) < 0):stp h t i=[cor h i,md h t i]:=by unfold stp md;rw [if_pos h1,if_pos h2];rfl
theorem iE {i:Nat} (h1:¬t i<=0) (h2:t i*t (i+1) < 0):stp h t i=[md h t i]:=by unfold stp md;rw [if_neg h1,if_pos h2];rfl
theorem lA {i:Nat} (h1:¬t i<=0) (h2:¬t i*t (i+1) < 0):stp h t i=[]:=by unfold stp;rw [if_neg h1,if_neg h2];rfl
theorem walk (W:Wk h t m X):∀ k,su (gL h t X) k=sm (stt t X++fl (stp h t) k++[pp h t X k])/\(¬t k<=0->∃ L e,stt t X++fl (stp h t) k=L++[e]/\On m e)
 | 0=>by
  refine ⟨?_,λz=>⟨[],X,?_,W.xl,W.xu⟩⟩
  ·show 0=sm (stt t X++[]++[pp h t X 0])
   unfold stt pp
   split
   ·rfl
   ·simp only [sm,List.append_nil,List.cons_append,List.nil_append]
    rw [cx_self]
    grind
  ·unfold stt
   rw [if_neg z]
   rfl
 | k+1=>by
  obtain ⟨e,o⟩:=walk W k
  show su (gL h t X) k+gL h t X k=_/\_
  rw [e,ba]
  by_cases a:t k<=0
  ·have pk:pp h t X k=cor h k:=by unfold pp;rw [if_pos a]
   rw [pk]
   by_cases b:t (k+1)<=0
   ·have n:¬t k*t (k+1) < 0:=by
     have:=Int.mul_nonneg_of_nonpos_of_nonpos a b
     omega
    have pk1:pp h t X (k+1)=cor h (k+1):=by unfold pp;rw [if_pos b]
    rw [mv a n,pk1,show gL h t X k=cx (cor h k) (cor h (k+1)) by unfold gL;rw [if_pos a,if_pos b]]
    refine ⟨?_,λz=>absurd b z⟩
    have:=dM (stt t X++fl (stp h t) k) (cor h k) (cor h (k+1))
    rw [<- this]
    simp only [List.append_assoc,List.cons_append,List.nil_append]
   ·have pk1:pp h t X (k+1)=X:=by unfold pp;rw [if_neg b]
    by_cases c:t k < 0
    ·have n:t k*t (k+1) < 0:=Int.mul_neg_of_neg_of_pos c (by omega)
     rw [oi a n,pk1,show gL h t X k=cx (cor h k) (md h t k)+cx (md h t k) X by unfold gL;rw [if_pos a,if_neg b,if_pos c]]
     refine ⟨?_,λ_=>⟨stt t X++fl (stp h t) k++[cor h k],md h t k,by simp only [List.append_assoc,List.cons_append,List.nil_append],W.ml k n,W.mu k n⟩⟩
     have s1:=dM (stt t X++fl (stp h t) k) (cor h k) (md h t k)
     have s2:=dM (stt t X++fl (stp h t) k++[cor h k]) (md h t k) X
     simp only [List.append_assoc,List.cons_append,List.nil_append] at s1 s2 ⊢
     rw [s2,s1]
     grind
    ·have z:t k=0:=by omega
     have n:¬t k*t (k+1) < 0:=by rw [z];omega
     rw [mv a n,pk1,show gL h t X k=cx (cor h k) X by unfold gL;rw [if_pos a,if_neg b,if_neg c]]
     refine ⟨?_,λ_=>⟨stt t X++fl (stp h t) k,cor h k,by simp only [List.append_assoc],W.cz k z,W.cu k⟩⟩
     have:=dM (stt t X++fl (stp h t) k) (cor h k) X
     rw [<- this]
     simp only [List.append_assoc,List.cons_append,List.nil_append]
  ·obtain ⟨L,e1,eL,oe⟩:=o a
   have pk:pp h t X k=X:=by unfold pp;rw [if_neg a]
   rw [pk,eL]
   have s0:=dM L e1 X
   by_cases b:t (k+1) < 0
   ·have n:t k*t (k+1) < 0:=Int.mul_neg_of_pos_of_neg (by omega) b
    have pk1:pp h t X (k+1)=cor h (k+1):=by unfold pp;rw [if_pos (by omega)]
    rw [iE a n,pk1,show gL h t X k=cx X (md h t k)+cx (md h t k) (cor h (k+1)) by unfold gL;rw [if_neg a,if_pos b],<- List.append_assoc,eL]
    refine ⟨?_,λz=>absurd (show t (k+1)<=0 by omega) z⟩
    have s1:=dM L e1 (md h t k)
    have s2:=dM (L++[e1]) (md h t k) (cor h (k+1))
    have l3:=W.three oe ⟨W.ml k n,W.mu k n⟩
    simp only [List.append_assoc,List.cons_append,List.nil_append] at s0 s1 s2 ⊢
    rw [s2,s1,s0]
    grind
   ·have n:¬t k*t (k+1) < 0:=by
     have:=Int.mul_nonneg (show 0<=t k by omega) (show 0<=t (k+1) by omega)
     omega
    rw [lA a n,List.append_nil,eL]
    by_cases c:t (k+1)=0
    ·have pk1:pp h t X (k+1)=cor h (k+1):=by unfold pp;rw [if_pos (by omega)]
     rw [pk1,show gL h t X k=cx X (cor h (k+1)) by unfold gL;rw [if_neg a,if_neg b,if_pos c]]
     refine ⟨?_,λz=>absurd (show t (k+1)<=0 by omega) z⟩
     have s1:=dM L e1 (cor h (k+1))
     have l3:=W.three oe ⟨W.cz (k+1) c,W.cu (k+1)⟩
     simp only [List.append_assoc,List.cons_append,List.nil_append] at s0 s1 ⊢
     rw [s1,s0]
     grind
    ·have pk1:pp h t X (k+1)=X:=by unfold pp;rw [if_neg (by omega)]
     rw [pk1,show gL h t X k=0 by unfold gL;rw [if_neg a,if_neg b,if_neg c]]
     refine ⟨by grind,λ_=>⟨L,e1,rfl,oe⟩⟩
end
section
variable {h:List T3} {t:Nat->Int} {m X:T3}
theorem fl_cons {f:Nat->List T3} (k:Nat):fl f (k+1)=[]->fl f k=[]/\f k=[]:=λz=>by rw [ba] at z;exact List.append_eq_nil_iff.mp z
theorem zo (a:¬t 0<=0):∀ k,fl (stp h t) k=[]->0<=t k
 | 0,_=>by omega
 | k+1,z=>by
  obtain ⟨z1,z2⟩:=fl_cons k z
  have tk:=zo a k z1
  by_cases b:t k<=0
  ·unfold stp at z2
   rw [if_pos b] at z2
   exact absurd z2 (by simp)
  ·by_cases c:t k*t (k+1) < 0
   ·rw [iE b c] at z2
    exact absurd z2 (by simp)
   ·rcases Int.lt_or_le (t (k+1)) 0 with y | y
    ·exact absurd (Int.mul_neg_of_pos_of_neg (show 0 < t k by omega) y) c
    ·exact y
theorem qg (W:Wk h t m X) (a:¬t 0<=0):∀ k x r,fl (stp h t) k=x::r->On m x
 | 0,x,r,z=>by cases z
 | k+1,x,r,z=>by
  rw [ba] at z
  cases e:fl (stp h t) k with
  | cons y r' =>
   rw [e] at z
   simp only [List.cons_append,List.cons.injEq] at z
   rw [<- z.1]
   exact qg W a k y r' e
  | nil =>
   rw [e,List.nil_append] at z
   have tk:=zo (h:=h) a k e
   by_cases b:t k<=0
   ·have t0:t k=0:=by omega
    rw [mv b (by rw [t0];omega)] at z
    simp only [List.cons.injEq] at z
    rw [<- z.1]
    exact ⟨W.cz k t0,W.cu k⟩
   ·by_cases c:t k*t (k+1) < 0
    ·rw [iE b c] at z
     simp only [List.cons.injEq] at z
     rw [<- z.1]
     exact ⟨W.ml k c,W.mu k c⟩
    ·rw [lA b c] at z
     cases z
theorem si (W:Wk h t m X) (n0:0 < h.length) (tn:t h.length=t 0) (ne:fl (stp h t) h.length≠[]):su (gL h t X) h.length=kS (fl (stp h t) h.length):=by
 obtain ⟨e,o⟩:=walk W h.length
 rw [e]
 by_cases a:t 0<=0
 ·have p0:pp h t X h.length=cor h 0:=by unfold pp;rw [tn,if_pos a,dC]
  have s0:stt t X=[]:=by unfold stt;rw [if_pos a]
  rw [p0,s0,List.nil_append]
  have hd:∃ r,fl (stp h t) h.length=cor h 0::r:=by
   obtain ⟨n,en⟩:∃ n,h.length=n+1:=⟨h.length - 1,by omega⟩
   rw [en]
   clear en e o p0 ne n0 tn
   induction n with
   | zero =>
    rw [ba,tW,List.nil_append]
    unfold stp
    rw [if_pos a]
    exact ⟨_,rfl⟩
   | succ n ih =>
    obtain ⟨r,er⟩:=ih
    rw [ba,er]
    exact ⟨_,rfl⟩
  obtain ⟨r,er⟩:=hd
  rw [er]
  rfl
 ·have p0:pp h t X h.length=X:=by unfold pp;rw [tn,if_neg a]
  have s0:stt t X=[X]:=by unfold stt;rw [if_neg a]
  obtain ⟨L,e1,eL,oe⟩:=o (by rw [tn];exact a)
  rw [p0]
  cases ef:fl (stp h t) h.length with
  | nil=>exact absurd ef ne
  | cons x r =>
   have ox:=qg W a _ x r ef
   rw [s0,ef] at eL
   rw [s0]
   have l3:=W.three oe ox
   cases L with
   | nil=>simp at eL
   | cons y L1 =>
    simp only [List.cons_append,List.nil_append,List.cons.injEq] at eL
    obtain ⟨ey,eL⟩:=eL
    show sm (X::(x::r++[X]))=sm (x::r++[x])
    rw [eL]
    have g1:=dM L1 e1 X
    have g2:=dM L1 e1 x
    have g3:sm (X::(L1++[e1]++[X]))=cx X x+sm (L1++[e1]++[X]):=by
     have:L1++[e1]++[X]=x::(r++[X]):=by rw [<- eL];rfl
     rw [this]
     rfl
    rw [g3]
    simp only [List.append_assoc,List.cons_append,List.nil_append] at g1 g2 ⊢
    rw [g1,g2]
    grind
theorem uu:∀ k,su (λi=>cx (cor h i) (cor h (i+1))) k=sm ((List.range k).map (cor h)++[cor h k])
 | 0=>rfl
 | k+1=>by
  show su _ k+cx (cor h k) (cor h (k+1))=_
  rw [uu k,List.range_succ,List.map_append,<- dM]
  simp only [List.map_cons,List.map_nil,List.append_assoc,List.cons_append,List.nil_append]
theorem cor_all:(List.range h.length).map (cor h)=h:=by
 apply List.ext_getElem
 ·simp
 ·intro i h1 h2
  simp only [List.getElem_map,List.getElem_range]
  exact dW h2
theorem EL (n0:0 < h.length):su (λi=>cx (cor h i) (cor h (i+1))) h.length=kS h:=by
 rw [uu,cor_all,dC]
 cases h with
 | nil=>exact absurd n0 (by decide)
 | cons a r=>rfl
theorem cx_mid {b:Nat} {p q:T3} {s u:Int} (hp:P3 b p) (hq:P3 b q) (hs:s*u < 0):cx p (mid p q s u)+cx (mid p q s u) q=cx p q:=by
 obtain ⟨g,x,y,g0,_,_,e1,e2,e3⟩:=(pU hp hq hs).ex
 have d:det p (mid p q s u) q=0:=by
  have z:g*det p (mid p q s u) q=0:=by unfold det;grind
  exact (Int.mul_eq_zero.mp z).resolve_left (by omega)
 have mu:0 < (mid p q s u).u:=by
  have n0:=ic hp hq hs
  have gg0:=kR (V:=nm p.v q.v s u) (W:=nm p.w q.w s u) n0
  have e:=div_eq (wa (nm p.u q.u s u) (nm p.v q.v s u) (nm p.w q.w s u))
  rcases Int.lt_or_le 0 (mid p q s u).u with z | z
  ·exact z
  ·have:=Int.mul_nonpos_of_nonneg_of_nonpos (show 0<=gg (nm p.u q.u s u) (nm p.v q.v s u) (nm p.w q.w s u) by omega) z
   have e':gg (nm p.u q.u s u) (nm p.v q.v s u) (nm p.w q.w s u)*(mid p q s u).u=nm p.u q.u s u:=e
   omega
 exact tY hp.n0 mu hq.n0 d
end
section
variable {h:List T3} {r X:T3} {b:Nat}
theorem xK (i:Nat):md h (tn r h) i=md h (tv r h) i:=by
 unfold md tn
 exact zr _ _ _ _
theorem tO {p q:T3} (hp:P3 b p) (hq:P3 b q) (hs:tl r p*tl r q < 0):tl r (mid p q (tl r p) (tl r q))=0/\0 < (mid p q (tl r p) (tl r q)).u:=by
 have n0:=ic hp hq hs
 have g0:=kR (V:=nm p.v q.v (tl r p) (tl r q)) (W:=nm p.w q.w (tl r p) (tl r q)) n0
 have d1:gg (nm p.u q.u (tl r p) (tl r q)) (nm p.v q.v (tl r p) (tl r q)) (nm p.w q.w (tl r p) (tl r q))*(mid p q (tl r p) (tl r q)).u=nm p.u q.u (tl r p) (tl r q):=div_eq (wa _ _ _)
 have d2:gg (nm p.u q.u (tl r p) (tl r q)) (nm p.v q.v (tl r p) (tl r q)) (nm p.w q.w (tl r p) (tl r q))*(mid p q (tl r p) (tl r q)).v=nm p.v q.v (tl r p) (tl r q):=div_eq (El _ _ _)
 have d3:gg (nm p.u q.u (tl r p) (tl r q)) (nm p.v q.v (tl r p) (tl r q)) (nm p.w q.w (tl r p) (tl r q))*(mid p q (tl r p) (tl r q)).w=nm p.w q.w (tl r p) (tl r q):=div_eq (Ek _ _ _)
 generalize gg (nm p.u q.u (tl r p) (tl r q)) (nm p.v q.v (tl r p) (tl r q)) (nm p.w q.w (tl r p) (tl r q))=g at g0 d1 d2 d3
 generalize mid p q (tl r p) (tl r q)=k at d1 d2 d3 ⊢
 refine ⟨?_,?_⟩
 ·have z:g*tl r k=((tl r q).natAbs:Int)*tl r p+((tl r p).natAbs:Int)*tl r q:=by
   have e:g*tl r k=r.u*(g*k.v)+r.v*(g*k.w)+r.w*(g*k.u):=by simp only [tl];grind
   rw [e,d1,d2,d3]
   simp only [nm,tl]
   grind
  have y:((tl r q).natAbs:Int)*tl r p+((tl r p).natAbs:Int)*tl r q=0:=by
   generalize tl r p=a at hs ⊢
   generalize tl r q=c at hs ⊢
   rcases Int.lt_trichotomy a 0 with x | x | x
   ·rcases Int.lt_trichotomy c 0 with w | w | w
    ·have:=Int.mul_pos_of_neg_of_neg x w;omega
    ·rw [w] at hs;omega
    ·rw [show (c.natAbs:Int)=c by omega,show (a.natAbs:Int) = -a by omega];grind
   ·rw [x] at hs;omega
   ·rcases Int.lt_trichotomy c 0 with w | w | w
    ·rw [show (c.natAbs:Int) = -c by omega,show (a.natAbs:Int)=a by omega];grind
    ·rw [w] at hs;omega
    ·have:=Int.mul_pos x w;omega
  rw [y] at z
  exact (Int.mul_eq_zero.mp z).resolve_left (by omega)
 ·rcases Int.lt_or_le 0 k.u with z | z
  ·exact z
  ·have:=Int.mul_nonpos_of_nonneg_of_nonpos (show 0<=g by omega) z
   omega
theorem g_sum (ok:∀ i,P3 b (cor h i)) (hr:r.u≠0\/r.v≠0\/r.w≠0) (xu:0 < X.u) (xl:tl r X=0) (i:Nat) :
  gL h (tv r h) X i+gL h (tn r h) X i=cx (cor h i) (cor h (i+1))+((if tv r h i=0 then cx (cor h i) X else 0) - (if tv r h (i+1)=0 then cx (cor h (i+1)) X else 0)):=by
 have em:=xK (h:=h) (r:=r) i
 have mm:∀(_:tv r h i*tv r h (i+1) < 0),cx (cor h i) (md h (tv r h) i)+cx (md h (tv r h) i) (cor h (i+1))=cx (cor h i) (cor h (i+1)):=λz=>cx_mid (ok i) (ok (i+1)) z
 have nn:=qk X (cor h (i+1))
 have nm':=qk X (md h (tv r h) i)
 have t1:tn r h i = - tv r h i:=rfl
 have t2:tn r h (i+1) = - tv r h (i+1):=rfl
 have zz:tv r h i=0->tv r h (i+1)=0->cx (cor h i) X+cx X (cor h (i+1))=cx (cor h i) (cor h (i+1)):=λz1 z2=>tY (ok i).n0 xu (ok (i+1)).n0 (qj hr z1 xl z2)
 unfold gL
 rw [em,t1,t2]
 generalize tv r h i=a at *
 generalize tv r h (i+1)=c at *
 rcases Int.lt_trichotomy a 0 with x | x | x
 ·rcases Int.lt_trichotomy c 0 with w | w | w
  ·rw [if_pos (show a<=0 by omega),if_pos (show c<=0 by omega),if_neg (show ¬ -a<=0 by omega),if_neg (show ¬ -c < 0 by omega),if_neg (show ¬ -c=0 by omega),if_neg (show ¬a=0 by omega),if_neg (show ¬c=0 by omega)];grind
  ·rw [if_pos (show a<=0 by omega),if_pos (show c<=0 by omega),if_neg (show ¬ -a<=0 by omega),if_neg (show ¬ -c < 0 by omega),if_pos (show -c=0 by omega),if_neg (show ¬a=0 by omega),if_pos w];grind
  ·have k:=mm (Int.mul_neg_of_neg_of_pos x w)
   rw [if_pos (show a<=0 by omega),if_neg (show ¬c<=0 by omega),if_pos x,if_neg (show ¬ -a<=0 by omega),if_pos (show -c < 0 by omega),if_neg (show ¬a=0 by omega),if_neg (show ¬c=0 by omega)];grind
 ·rcases Int.lt_trichotomy c 0 with w | w | w
  ·rw [if_pos (show a<=0 by omega),if_pos (show c<=0 by omega),if_pos (show -a<=0 by omega),if_neg (show ¬ -c<=0 by omega),if_neg (show ¬ -a < 0 by omega),if_pos x,if_neg (show ¬c=0 by omega)];grind
  ·have k:=zz x w
   rw [if_pos (show a<=0 by omega),if_pos (show c<=0 by omega),if_pos (show -a<=0 by omega),if_pos (show -c<=0 by omega),if_pos x,if_pos w];grind
  ·rw [if_pos (show a<=0 by omega),if_neg (show ¬c<=0 by omega),if_neg (show ¬a < 0 by omega),if_pos (show -a<=0 by omega),if_pos (show -c<=0 by omega),if_pos x,if_neg (show ¬c=0 by omega)];grind
 ·rcases Int.lt_trichotomy c 0 with w | w | w
  ·have k:=mm (Int.mul_neg_of_pos_of_neg x w)
   rw [if_neg (show ¬a<=0 by omega),if_pos w,if_pos (show -a<=0 by omega),if_neg (show ¬ -c<=0 by omega),if_pos (show -a < 0 by omega),if_neg (show ¬a=0 by omega),if_neg (show ¬c=0 by omega)];grind
  ·rw [if_neg (show ¬a<=0 by omega),if_neg (show ¬c < 0 by omega),if_pos w,if_pos (show -a<=0 by omega),if_pos (show -c<=0 by omega),if_neg (show ¬a=0 by omega),if_pos w];grind
  ·rw [if_neg (show ¬a<=0 by omega),if_neg (show ¬c < 0 by omega),if_neg (show ¬c=0 by omega),if_pos (show -a<=0 by omega),if_pos (show -c<=0 by omega),if_neg (show ¬a=0 by omega)];grind
theorem BQ (ok:∀ i,P3 b (cor h i)) (hr:r.u≠0\/r.v≠0\/r.w≠0) (xu:0 < X.u) (xl:tl r X=0):Wk h (tv r h) r X/\Wk h (tn r h) r X:=by
 have neg:∀ i,tn r h i*tn r h (i+1)=tv r h i*tv r h (i+1):=λi=>by show -tv r h i*-tv r h (i+1)=_;grind
 refine ⟨⟨hr,xu,xl,λi=>(ok i).n0,λi z=>z,λi z=>(tO (ok i) (ok (i+1)) z).2,λi z=>(tO (ok i) (ok (i+1)) z).1⟩,
  ⟨hr,xu,xl,λi=>(ok i).n0,λi z=>by have z':- tl r (cor h i)=0:=z;omega,λi z=>?_,λi z=>?_⟩⟩
 ·rw [xK]
  rw [neg] at z
  exact (tO (ok i) (ok (i+1)) z).2
 ·rw [xK]
  rw [neg] at z
  exact (tO (ok i) (ok (i+1)) z).1
theorem Bx {l:Nat} (H:uh b l h) {p q:T3} (hp:p∈h) (hq:q∈h) (p0:tl r p < 0) (q0:0 < tl r q):kS (low r h)+kS (high r h)=kS h:=by
 have ok:∀ i,P3 b (cor h i):=λi=>H.ok _ (cW H.pos i)
 have hr:r.u≠0\/r.v≠0\/r.w≠0:=by
  rcases Decidable.em (r.u=0) with z1 | z1
  ·rcases Decidable.em (r.v=0) with z2 | z2
   ·refine .inr (.inr λz3=>?_)
    unfold tl at p0
    rw [z1,z2,z3] at p0
    omega
   ·exact .inr (.inl z2)
  ·exact .inl z1
 have xs:∃ X:T3,0 < X.u/\tl r X=0:=by
  refine ⟨⟨tl r q*p.u + -(tl r p)*q.u,tl r q*p.v + -(tl r p)*q.v,tl r q*p.w + -(tl r p)*q.w⟩,?_,?_⟩
  ·show 0 < tl r q*p.u + -(tl r p)*q.u
   have:=Int.mul_pos q0 (H.ok p hp).n0
   have:=Int.mul_pos (show 0 < -(tl r p) by omega) (H.ok q hq).n0
   omega
  ·show r.u*(tl r q*p.v + -(tl r p)*q.v)+r.v*(tl r q*p.w + -(tl r p)*q.w)+r.w*(tl r q*p.u + -(tl r p)*q.u)=0
   simp only [tl]
   grind
 obtain ⟨X,xu,xl⟩:=xs
 obtain ⟨W1,W2⟩:=BQ ok hr xu xl
 have at_:∀{x:T3},x∈h->∃ i,i < h.length/\cor h i=x:=λhx=>by
  obtain ⟨i,hi,e⟩:=List.mem_iff_getElem.mp hx
  exact ⟨i,hi,(dW hi).trans e⟩
 have e1:low r h≠[]:=λz=>by
  obtain ⟨i,hi,e⟩:=at_ hp
  have:cor h i∈low r h:=Es hi (by unfold stp;rw [if_pos (show tv r h i<=0 by unfold tv;rw [e];omega)];simp)
  rw [z] at this
  cases this
 have e2:high r h≠[]:=λz=>by
  obtain ⟨i,hi,e⟩:=at_ hq
  have:cor h i∈high r h:=Es hi (by unfold stp;rw [if_pos (show tn r h i<=0 by unfold tn;rw [e];omega)];simp)
  rw [z] at this
  cases this
 have tl0:tv r h h.length=tv r h 0:=by unfold tv;rw [dC]
 have th0:tn r h h.length=tn r h 0:=by unfold tn;rw [dC]
 have a1:=si W1 H.pos tl0 e1
 have a2:=si W2 H.pos th0 e2
 have a3:=EL (h:=h) H.pos
 show kS (fl (stp h (tv r h)) h.length)+kS (fl (stp h (tn r h)) h.length)=kS h
 rw [<- a1,<- a2,<- a3,<- xf,uv (λi _=>g_sum ok hr xu xl i),xf,yC (λi=>if tv r h i=0 then cx (cor h i) X else 0)]
 rw [tl0,dC]
 grind
end
end Hu
namespace Hu
noncomputable def ue (L:List T3):Prop:=∀ p q r,[p,q,r].Sublist L->0 < det p q r
theorem ue.tri {L:List T3} (T:ue L):Tri L:=λp q r s=>Int.le_of_lt (T p q r s)
structure Cs (p q X:T3) (b0:Bool):Prop where
 ex:∃ g a b:Int,0 < g/\0 < a/\0<=b/\(b0=true->0 < b)/\g*X.u=a*p.u+b*q.u/\g*X.v=a*p.v+b*q.v/\g*X.w=a*p.w+b*q.w
theorem Cs.co {p q X:T3} {b0:Bool} (h:Cs p q X b0):Co p q X:=by
 obtain ⟨g,a,b,h1,h2,h3,_,e⟩:=h.ex
 exact ⟨g,a,b,h1,by omega,h3,e⟩
theorem ze {g x:Int} (hg:0 < g) (h:0 < g*x):0 < x:=by
 rcases Int.lt_or_le 0 x with z | z
 ·exact z
 ·have:=Int.mul_nonpos_of_nonneg_of_nonpos (show 0<=g by omega) z;omega
theorem cs_1 {p q X Y Z:T3} {b0:Bool} (h:Cs p q X b0) (h1:0 < det p Y Z) (h2:0<=det q Y Z):0 < det X Y Z:=by
 obtain ⟨g,a,b,hg,ha,hb,_,e1,e2,e3⟩:=h.ex
 refine ze hg ?_
 have e:g*det X Y Z=a*det p Y Z+b*det q Y Z:=by simp only [det];grind
 rw [e]
 have:=Int.mul_pos ha h1
 have:=Int.mul_nonneg hb h2
 omega
theorem cs_1' {p q X Y Z:T3} (h:Cs p q X true) (h1:0<=det p Y Z) (h2:0 < det q Y Z):0 < det X Y Z:=by
 obtain ⟨g,a,b,hg,ha,hb,hb',e1,e2,e3⟩:=h.ex
 refine ze hg ?_
 have e:g*det X Y Z=a*det p Y Z+b*det q Y Z:=by simp only [det];grind
 rw [e]
 have:=Int.mul_nonneg (show 0<=a by omega) h1
 have:=Int.mul_pos (hb' rfl) h2
 omega
theorem cs_2 {p q X Y Z:T3} {b0:Bool} (h:Cs p q Y b0) (h1:0 < det X p Z) (h2:0<=det X q Z):0 < det X Y Z:=by
 rw [bM,bM]
 rw [bM,bM] at h1 h2
 exact cs_1 h h1 h2
theorem cs_2' {p q X Y Z:T3} (h:Cs p q Y true) (h1:0<=det X p Z) (h2:0 < det X q Z):0 < det X Y Z:=by
 rw [bM,bM]
 rw [bM,bM] at h1 h2
 exact cs_1' h h1 h2
theorem cs_3 {p q X Y Z:T3} {b0:Bool} (h:Cs p q Z b0) (h1:0 < det X Y p) (h2:0<=det X Y q):0 < det X Y Z:=by
 rw [bM]
 rw [bM] at h1 h2
 exact cs_1 h h1 h2
theorem cs_3' {p q X Y Z:T3} (h:Cs p q Z true) (h1:0<=det X Y p) (h2:0 < det X Y q):0 < det X Y Z:=by
 rw [bM]
 rw [bM] at h1 h2
 exact cs_1' h h1 h2
theorem cs_own (p q:T3):Cs p q p false:=⟨1,1,0,by decide,by decide,by decide,(λz=>nomatch z),by omega,by omega,by omega⟩
theorem hI {h:List T3} (T:ue h) {i j k:Nat} (h1:i < j) (h2:j < k) (h3:k < h.length):0 < det (cor h i) (cor h j) (cor h k):=by
 rw [dW (show i < h.length by omega),dW (show j < h.length by omega),dW h3]
 exact T _ _ _ (mq h1 h2 h3)
section
variable {b l:Nat} {h:List T3} {t:Nat->Int}
theorem sv (ok:∀ i,P3 b (cor h i)) {i:Nat} {x:T3} (hx:x∈stp h t i):(t i<=0/\x=cor h i)\/(t i*t (i+1) < 0/\x=md h t i/\Cs (cor h i) (cor h (i+1)) x true):=by
 unfold stp at hx
 rcases List.mem_append.mp hx with z | z
 ·split at z
  ·rename_i c
   exact .inl ⟨c,List.mem_singleton.mp z⟩
  ·cases z
 ·split at z
  ·rename_i c
   have e:=List.mem_singleton.mp z
   refine .inr ⟨c,e,?_⟩
   have n0:=ic (ok i) (ok (i+1)) c
   have g0:=kR (V:=nm (cor h i).v (cor h (i+1)).v (t i) (t (i+1))) (W:=nm (cor h i).w (cor h (i+1)).w (t i) (t (i+1))) n0
   have s0:t i≠0:=λz=>by rw [z] at c;omega
   have t0:t (i+1)≠0:=λz=>by rw [z] at c;omega
   rw [e]
   exact ⟨_,(t (i+1)).natAbs,(t i).natAbs,g0,by omega,by omega,(λ_=>by omega),div_eq (wa _ _ _),div_eq (El _ _ _),div_eq (Ek _ _ _)⟩
  ·cases z
theorem md_cs (ok:∀ i,P3 b (cor h i)) {i:Nat} (c:t i*t (i+1) < 0):Cs (cor h i) (cor h (i+1)) (md h t i) true:=by
 have n0:=ic (ok i) (ok (i+1)) c
 have g0:=kR (V:=nm (cor h i).v (cor h (i+1)).v (t i) (t (i+1))) (W:=nm (cor h i).w (cor h (i+1)).w (t i) (t (i+1))) n0
 have s0:t i≠0:=λz=>by rw [z] at c;omega
 have t0:t (i+1)≠0:=λz=>by rw [z] at c;omega
 exact ⟨_,(t (i+1)).natAbs,(t i).natAbs,g0,by omega,by omega,(λ_=>by omega),div_eq (wa _ _ _),div_eq (El _ _ _),div_eq (Ek _ _ _)⟩
theorem lB (ok:∀ i,P3 b (cor h i)) {i:Nat} {x:T3} (hx:x∈stp h t i):∃ b0,Cs (cor h i) (cor h (i+1)) x b0:=by
 rcases sv ok hx with ⟨_,e⟩ | ⟨_,_,c⟩
 ·exact ⟨false,e ▸ cs_own _ _⟩
 ·exact ⟨true,c⟩
theorem yD {i:Nat} {x y:T3} (s:[x,y].Sublist (stp h t i)):x=cor h i/\y=md h t i/\t i<=0/\t i*t (i+1) < 0:=by
 by_cases a:t i<=0
 ·by_cases c:t i*t (i+1) < 0
  ·rw [oi a c] at s
   have e:=s.eq_of_length (by simp)
   simp at e
   exact ⟨e.1,e.2,a,c⟩
  ·rw [mv a c] at s
   have:=s.length_le
   simp at this
 ·by_cases c:t i*t (i+1) < 0
  ·rw [iE a c] at s
   have:=s.length_le
   simp at this
  ·rw [lA a c] at s
   have:=s.length_le
   simp at this
theorem ql (ok:∀ i,P3 b (cor h i)) (T:ue h) (n3:3<=h.length) (tn:t h.length=t 0):ue (fl (stp h t) h.length):=by
 have R:=T.tri
 intro p q r s
 rcases qW s with ⟨i,j,k,a,c,d,hp,hq,hr⟩ | ⟨i,k,a,d,hpq,hr⟩ | ⟨i,k,a,d,hp,hqr⟩ | ⟨i,a,d⟩
 ·obtain ⟨b1,h1⟩:=lB ok hp
  obtain ⟨b2,h2⟩:=lB ok hq
  obtain ⟨b3,h3⟩:=lB ok hr
  refine cs_1 h1 (cs_2 h2 (cs_3 h3 (hI T a c d) ?_) (co_3 h3.co ?_ ?_)) (co_2 h2.co (co_3 h3.co ?_ ?_) (co_3 h3.co ?_ ?_)) <;> exact sR R (by omega) (by omega) (by omega)
 ·
  obtain ⟨rfl,rfl,ti,tc⟩:=yD hpq
  have cm:=md_cs ok tc
  have ti0:t i < 0:=by
   rcases Int.lt_or_le (t i) 0 with z | z
   ·exact z
   ·have:t i=0:=by omega
    rw [this] at tc;omega
  have ti1:0 < t (i+1):=by
   rcases Int.lt_or_le 0 (t (i+1)) with z | z
   ·exact z
   ·have:=Int.mul_nonneg_of_nonpos_of_nonpos (show t i<=0 by omega) z
    omega
  obtain ⟨b3,h3⟩:=lB ok hr
  refine cs_2' cm (by rw [yb];exact Int.le_refl 0) ?_
  rcases Nat.lt_or_ge (i+1) k with z | z
  ·exact cs_3 h3 (hI T (by omega) z d) (sR R (by omega) (by omega) (by omega))
  ·have ek:k=i+1:=by omega
   subst ek
   rcases sv ok hr with ⟨y,_⟩ | ⟨_,_,cr⟩
   ·omega
   ·refine cs_3' cr (by rw [ya];exact Int.le_refl 0) ?_
    rcases Nat.lt_or_ge (i+1+1) h.length with y | y
    ·exact hI T (by omega) (by omega) y
    ·rw [show i+1+1=h.length by omega,dC,bM]
     exact hI T (by omega) (by omega) (by omega)
 ·
  obtain ⟨rfl,rfl,tk,tc⟩:=yD hqr
  have cm:=md_cs ok tc
  have tk0:t k < 0:=by
   rcases Int.lt_or_le (t k) 0 with z | z
   ·exact z
   ·have:t k=0:=by omega
    rw [this] at tc;omega
  have tk1:0 < t (k+1):=by
   rcases Int.lt_or_le 0 (t (k+1)) with z | z
   ·exact z
   ·have:=Int.mul_nonneg_of_nonpos_of_nonpos (show t k<=0 by omega) z
    omega
  refine cs_3' cm (by rw [ya];exact Int.le_refl 0) ?_
  rcases Nat.lt_or_ge (k+1) h.length with z | z
  ·obtain ⟨b1,h1⟩:=lB ok hp
   exact cs_1 h1 (hI T a (by omega) z) (sR R (by omega) (by omega) (by omega))
  ·have ek:k+1=h.length:=by omega
   rw [ek,dC]
   rcases sv ok hp with ⟨y,e⟩ | ⟨_,_,cp⟩
   ·rcases Nat.eq_zero_or_pos i with i0 | i0
    ·subst i0
     rw [ek,tn] at tk1
     omega
    ·rw [e,bM]
     exact hI T i0 a (by omega)
   ·rw [bM]
    rcases Nat.eq_zero_or_pos i with i0 | i0
    ·subst i0
     refine cs_2' cp (by rw [yb];exact Int.le_refl 0) ?_
     exact hI T (by omega) (by omega) (by omega)
    ·exact cs_2 cp (hI T i0 a (by omega)) (sR R (by omega) (by omega) (by omega))
 ·have l1:3<=(stp h t i).length:=d.length_le
  have:(stp h t i).length<=2:=by unfold stp;split <;> split <;> simp
  omega
end
theorem rat_pos {n d:Int} (hn:0 < n) (hd:0 < d):0 < (n:Rat) / (d:Rat):=by
 have h1:(0:Rat) < n:=by exact_mod_cast hn
 have h2:(0:Rat) < d:=by exact_mod_cast hd
 rw [Rat.div_def]
 exact Rat.mul_pos h1 (Rat.inv_pos.mpr h2)
theorem fan:∀(L:List T3) (a:T3),(∀ p∈a::L,0 < p.u)->ue (a::L)->(L.length<=1->sm (L++[a])+(match L with | []=>0 | x::_=>cx a x)=0)/\(2<=L.length->0 < sm (L++[a])+(match L with | []=>0 | x::_=>cx a x))
 | [],a,_,_=>⟨λ_=>by simp only [sm,List.nil_append];grind,λz=>absurd z (by simp)⟩
 | [x],a,_,_=>⟨λ_=>by simp only [sm,List.cons_append,List.nil_append];rw [qk a x];grind,λz=>absurd z (by simp)⟩
 | x::y::r,a,u,T=>by
  refine ⟨λz=>absurd z (by simp),λ_=>?_⟩
  have sub:ue (a::y::r):=λp q s h=>T p q s (h.trans (List.Sublist.cons₂ _ (List.Sublist.cons _ (List.Sublist.refl _))))
  have u2:∀ p∈a::y::r,0 < p.u:=λp hp=>by
   rcases List.mem_cons.mp hp with z | z
   ·exact u p (List.mem_cons.mpr (.inl z))
   ·exact u p (List.mem_cons_of_mem _ (List.mem_cons_of_mem _ z))
  obtain ⟨f1,f2⟩:=fan (y::r) a u2 sub
  have ua:=u a (by simp)
  have ux:=u x (by simp)
  have uy:=u y (by simp)
  have d:=T a x y (List.Sublist.cons₂ _ (List.Sublist.cons₂ _ (List.Sublist.cons₂ _ (List.nil_sublist _))))
  have c3:=wm ua ux uy
  have pos:0 < cx a x+cx x y+cx y a:=by
   rw [c3]
   have:=rat_pos d (Int.mul_pos (Int.mul_pos ua ux) uy)
   simp only [Rat.intCast_mul] at this
   exact this
  rw [qk a y] at pos
  have e:sm (x::y::r++[a])=cx x y+sm (y::r++[a]):=rfl
  show 0 < sm (x::y::r++[a])+cx a x
  rw [e]
  rcases Nat.lt_or_ge r.length 1 with z | z
  ·have:=f1 (by rw [List.length_cons];omega)
   dsimp only at this
   grind
  ·have:=f2 (by rw [List.length_cons];omega)
   dsimp only at this
   grind
theorem wz {L:List T3} (u:∀ p∈L,0 < p.u) (T:ue L) (n3:3<=L.length):0 < kS L:=by
 match L,n3 with
 | a::x::r,n3 =>
  have:=(fan (x::r) a u T).2 (by simp at n3 ⊢;omega)
  have e:kS (a::x::r)=cx a x+sm (x::r++[a]):=rfl
  rw [e]
  dsimp only at this
  grind
end Hu
namespace Hu
theorem Ex {a k b c:Int} (h1:a∣k*b) (h2:a∣k*c):a∣k*Lo.gc b c:=by
 have h:=Int.dvd_coe_gcd h1 h2
 rw [Int.gcd_mul_left] at h
 have e:((k.natAbs*Int.gcd b c:Nat):Int)=(k.natAbs:Int)*Lo.gc b c:=by unfold Lo.gc;rw [Int.natCast_mul]
 rw [e] at h
 rcases Int.natAbs_eq k with z | z
 ·rw [z];exact h
 ·rw [z,Int.neg_mul];exact Int.dvd_neg.mpr h
theorem Em {g u v w:Int} (hg:0 < g) (h:gg (g*u) (g*v) (g*w)=g):gg u v w=1:=by
 unfold gg at *
 rw [Lo.xW] at h
 have e:((g.natAbs:Nat):Int)=g:=by omega
 rw [e,Lo.xW,e] at h
 exact Int.eq_of_mul_eq_mul_left (show g≠0 by omega) (h.trans (Int.mul_one g).symm)
theorem DW {b:Nat} {p q:T3} {s t:Int} (hp:P3 b p) (hq:P3 b q) (h:s*t < 0):gg (mid p q s t).u (mid p q s t).v (mid p q s t).w=1:=by
 have n0:=ic hp hq h
 have g0:=kR (V:=nm p.v q.v s t) (W:=nm p.w q.w s t) n0
 refine Em g0 ?_
 have e1:=div_eq (wa (nm p.u q.u s t) (nm p.v q.v s t) (nm p.w q.w s t))
 have e2:=div_eq (El (nm p.u q.u s t) (nm p.v q.v s t) (nm p.w q.w s t))
 have e3:=div_eq (Ek (nm p.u q.u s t) (nm p.v q.v s t) (nm p.w q.w s t))
 show gg (_*(nm p.u q.u s t).fdiv _) (_*(nm p.v q.v s t).fdiv _) (_*(nm p.w q.w s t).fdiv _)=_
 rw [e1,e2,e3]
noncomputable def Nz (m:T3):Prop:=m.u≠0\/m.v≠0\/m.w≠0
theorem on_two {l r m p:T3} (hm:0 < m.u) (pr:gg m.u m.v m.w=1) (h1:tl l m=0) (h2:tl r m=0) (nl:Nz l) (p1:tl l p=0) (p2:tl r p≠0) :
  m.u.natAbs<=(l.u*r.v - l.v*r.u).natAbs/\m.v.natAbs<=(l.v*r.w - l.w*r.v).natAbs/\m.w.natAbs<=(l.w*r.u - l.u*r.w).natAbs:=by
 have e1:(l.u*r.v - l.v*r.u)*m.v=m.u*(l.v*r.w - l.w*r.v):=by simp only [tl] at h1 h2;grind
 have e2:(l.u*r.v - l.v*r.u)*m.w=m.u*(l.w*r.u - l.u*r.w):=by simp only [tl] at h1 h2;grind
 have x0:l.u*r.v - l.v*r.u≠0:=λz=>by
  rw [z,Int.zero_mul] at e1 e2
  have z1:l.v*r.w - l.w*r.v=0:=(Int.mul_eq_zero.mp e1.symm).resolve_left (by omega)
  have z2:l.w*r.u - l.u*r.w=0:=(Int.mul_eq_zero.mp e2.symm).resolve_left (by omega)
  have a1:l.u*tl r p=0:=by simp only [tl] at p1 ⊢;grind
  have a2:l.v*tl r p=0:=by simp only [tl] at p1 ⊢;grind
  have a3:l.w*tl r p=0:=by simp only [tl] at p1 ⊢;grind
  rcases nl with y | y | y
  ·exact (Int.mul_eq_zero.mp a1).elim y p2
  ·exact (Int.mul_eq_zero.mp a2).elim y p2
  ·exact (Int.mul_eq_zero.mp a3).elim y p2
 have d:m.u∣l.u*r.v - l.v*r.u:=by
  have d1:m.u∣(l.u*r.v - l.v*r.u)*m.u:=Int.dvd_mul_left _ _
  have d2:m.u∣(l.u*r.v - l.v*r.u)*m.v:=by rw [e1];exact Int.dvd_mul_right _ _
  have d3:m.u∣(l.u*r.v - l.v*r.u)*m.w:=by rw [e2];exact Int.dvd_mul_right _ _
  have d4:=Ex (Ex d1 d2) d3
  have pr':Lo.gc (Lo.gc m.u m.v) m.w=1:=pr
  rw [pr',Int.mul_one] at d4
  exact d4
 obtain ⟨q,eq⟩:=d
 have q0:q≠0:=λz=>by rw [z,Int.mul_zero] at eq;exact x0 eq
 have f1:l.v*r.w - l.w*r.v=q*m.v:=by
  rw [eq,Int.mul_assoc] at e1
  exact (Int.eq_of_mul_eq_mul_left (show m.u≠0 by omega) e1).symm
 have f2:l.w*r.u - l.u*r.w=q*m.w:=by
  rw [eq,Int.mul_assoc] at e2
  exact (Int.eq_of_mul_eq_mul_left (show m.u≠0 by omega) e2).symm
 have big:∀ x:Int,x.natAbs<=(q*x).natAbs:=λx=>by
  rw [Int.natAbs_mul]
  exact Nat.le_mul_of_pos_left _ (by omega)
 refine ⟨?_,?_,?_⟩
 ·rw [eq,Int.mul_comm];exact big _
 ·rw [f1];exact big _
 ·rw [f2];exact big _
theorem tN {a b c d:Int} (h1:a.natAbs < 2 ^ 64) (h2:b.natAbs < 2 ^ 64) (h3:c.natAbs < 2 ^ 64) (h4:d.natAbs < 2 ^ 64):(a*b - c*d).natAbs < 2 ^ 130:=by
 have y1:=kO (m:=64) (n:=64) h1 h2
 have y2:=kO (m:=64) (n:=64) h3 h4
 omega
noncomputable def Shr (p q:T3):Prop:=∃ m:T3,R3 64 m/\Nz m/\tl m p=0/\tl m q=0
noncomputable def Nb:List T3->Prop
 | []=>True
 | [_]=>True
 | a::b::r=>Shr a b/\Nb (b::r)
theorem tL:∀{L:List T3} {a b:T3},Nb (L++[a])->Shr a b->Nb (L++[a,b])
 | [],_,_,_,h=>⟨h,trivial⟩
 | [x],_,_,n,h=>⟨n.1,h,trivial⟩
 | x::y::r,_,_,n,h=>⟨n.1,tL (L:=y::r) n.2 h⟩
theorem nb_at:∀{L:List T3} {i:Nat} {a b:T3},Nb L->L[i]?=some a->L[i+1]?=some b->Shr a b
 | [],_,_,_,_,h,_=>by cases h
 | [_],i,_,_,_,_,h=>by cases i <;> cases h
 | _::_::_,0,_,_,n,h,g=>by cases h;cases g;exact n.1
 | _::y::r,i+1,_,_,n,h,g=>nb_at (L:=y::r) (i:=i) n.2 h g
theorem DA {b:Nat} {p q m:T3} {s t:Int} (hp:P3 b p) (hq:P3 b q) (h:s*t < 0) (h1:tl m p=0) (h2:tl m q=0):tl m (mid p q s t)=0:=by
 obtain ⟨g,x,y,g0,_,_,e1,e2,e3⟩:=(pU hp hq h).ex
 have z:g*tl m (mid p q s t)=0:=by
  have e:g*tl m (mid p q s t)=m.u*(g*(mid p q s t).v)+m.v*(g*(mid p q s t).w)+m.w*(g*(mid p q s t).u):=by simp only [tl];grind
  rw [e,e1,e2,e3]
  simp only [tl] at h1 h2
  grind
 exact (Int.mul_eq_zero.mp z).resolve_left (by omega)
structure HK (h:List T3):Prop where
 tri:ue h
 n3:3<=h.length
 ok:∀ p∈h,P3 130 p
 pr:∀ p∈h,gg p.u p.v p.w=1
 sh:∀ i,i < h.length->Shr (cor h i) (cor h (i+1))
theorem HK.cok {h:List T3} (H:HK h):∀ i,P3 130 (cor h i):=λi=>H.ok _ (cW (by have:=H.n3;omega) i)
section
variable {h:List T3} {r X:T3} {t:Nat->Int}
theorem md_ok (H:HK h) (hr:R3 64 r) (et:∀ i,t i=tl r (cor h i)\/t i = - tl r (cor h i)) (W:Wk h t r X) {i:Nat} (hi:i < h.length) (c:t i*t (i+1) < 0):P3 130 (md h t i)/\gg (md h t i).u (md h t i).v (md h t i).w=1:=by
 have ok:=H.cok
 have pr:=DW (ok i) (ok (i+1)) c
 refine ⟨?_,pr⟩
 obtain ⟨m,m5,mz,m1,m2⟩:=H.sh i hi
 have o1:=DA (ok i) (ok (i+1)) c m1 m2
 have o2:=W.ml i c
 have u0:=W.mu i c
 have tp:tl r (cor h i)≠0:=λz=>by
  have:t i=0:=by rcases et i with e | e <;> rw [e,z] <;> rfl
  rw [this] at c
  omega
 obtain ⟨b1,b2,b3⟩:=on_two (m:=md h t i) u0 pr o1 o2 mz m1 tp
 have k1:=tN m5.a hr.b m5.b hr.a
 have k2:=tN m5.b hr.c m5.c hr.b
 have k3:=tN m5.c hr.a m5.a hr.c
 obtain ⟨g,x,y,g0,x0,y0,e1,e2,e3⟩:=(pU (ok i) (ok (i+1)) c).ex
 have v0:0<=(md h t i).v:=sZ g0 (by
  have e:g*(md h t i).v=x*(cor h i).v+y*(cor h (i+1)).v:=e2
  rw [e]
  have:=Int.mul_nonneg x0 (ok i).x0
  have:=Int.mul_nonneg y0 (ok (i+1)).x0
  omega)
 have w0:0<=(md h t i).w:=sZ g0 (by
  have e:g*(md h t i).w=x*(cor h i).w+y*(cor h (i+1)).w:=e3
  rw [e]
  have:=Int.mul_nonneg x0 (ok i).y0
  have:=Int.mul_nonneg y0 (ok (i+1)).y0
  omega)
 exact ⟨u0,v0,w0,by omega,by omega,by omega⟩
theorem zq (H:HK h) (hr:R3 64 r) (W:Wk h t r X):∀ k,k<=h.length->Nb (fl (stp h t) k)/\∀ L e,fl (stp h t) k=L++[e]->(t k<=0->Shr e (cor h k))/\(¬t k<=0->tl r e=0)
 | 0,_=>⟨trivial,λL e z=>by rw [tW] at z;exact absurd z (by simp)⟩
 | k+1,hk=>by
  obtain ⟨n,o⟩:=zq H hr W k (by omega)
  have ok:=H.cok
  have on_r:∀{a b:T3},tl r a=0->tl r b=0->Shr a b:=λh1 h2=>⟨r,hr,W.m0,h1,h2⟩
  have sd:t k*t (k+1) < 0->Shr (cor h k) (md h t k)/\Shr (md h t k) (cor h (k+1)):=λc=>by
   obtain ⟨m,m5,mz,m1,m2⟩:=H.sh k (by omega)
   have o1:=DA (ok k) (ok (k+1)) c m1 m2
   exact ⟨⟨m,m5,mz,m1,o1⟩,⟨m,m5,mz,o1,m2⟩⟩
  have add:∀ x,(∀ L e,fl (stp h t) k=L++[e]->Shr e x)->Nb (fl (stp h t) k++[x]):=λx hx=>by
   rcases List.eq_nil_or_concat (fl (stp h t) k) with z | ⟨L,e,z⟩
   ·rw [z];exact trivial
   ·rw [List.concat_eq_append] at z
    have n':=n
    rw [z] at n' ⊢
    have:=tL n' (hx L e z)
    simpa using this
  have last1:∀{A:List T3} {x:T3} {L:List T3} {e:T3},A++[x]=L++[e]->e=x:=λz=>by
   have:=congrArg List.getLast? z
   simp at this
   exact this.symm
  rw [ba]
  by_cases a:t k<=0
  ·have nk:=add (cor h k) λL e z=>(o L e z).1 a
   by_cases b:t (k+1)<=0
   ·have c:¬t k*t (k+1) < 0:=by
     have:=Int.mul_nonneg_of_nonpos_of_nonpos a b
     omega
    rw [mv a c]
    refine ⟨nk,λL e z=>?_⟩
    rw [last1 z]
    exact ⟨λ_=>H.sh k (by omega),λy=>absurd b y⟩
   ·by_cases d:t k < 0
    ·have c:t k*t (k+1) < 0:=Int.mul_neg_of_neg_of_pos d (by omega)
     rw [oi a c]
     refine ⟨tL nk (sd c).1,λL e z=>?_⟩
     have z':(fl (stp h t) k++[cor h k])++[md h t k]=L++[e]:=by rw [<- z];simp
     rw [last1 z']
     exact ⟨λy=>absurd y b,λ_=>W.ml k c⟩
    ·have t0:t k=0:=by omega
     rw [mv a (by rw [t0];omega)]
     refine ⟨nk,λL e z=>?_⟩
     rw [last1 z]
     exact ⟨λy=>absurd y b,λ_=>W.cz k t0⟩
  ·by_cases b:t (k+1) < 0
   ·have c:t k*t (k+1) < 0:=Int.mul_neg_of_pos_of_neg (by omega) b
    rw [iE a c]
    refine ⟨add _ λL e z=>on_r ((o L e z).2 a) (W.ml k c),λL e z=>?_⟩
    rw [last1 z]
    exact ⟨λ_=>(sd c).2,λy=>absurd (show t (k+1)<=0 by omega) y⟩
   ·have c:¬t k*t (k+1) < 0:=by
     have:=Int.mul_nonneg (show 0<=t k by omega) (show 0<=t (k+1) by omega)
     omega
    rw [lA a c,List.append_nil]
    refine ⟨n,λL e z=>?_⟩
    have q:=(o L e z).2 a
    refine ⟨λy=>?_,λ_=>q⟩
    exact on_r q (W.cz (k+1) (by omega))
theorem we (a:t 0<=0):∀ n,∃ s,fl (stp h t) (n+1)=cor h 0::s
 | 0=>by
  rw [ba,tW,List.nil_append]
  unfold stp
  rw [if_pos a]
  exact ⟨_,rfl⟩
 | n+1=>by
  obtain ⟨s,e⟩:=we a n
  rw [ba,e]
  exact ⟨_,rfl⟩
theorem vI {L:List T3} {x:T3} {s:List T3} (e:L=x::s) (n:Nb L) (c:∀ A z,L=A++[z]->Shr z x):∀ i,i < L.length->Shr (cor L i) (cor L (i+1)):=λi hi=>by
 rcases Nat.lt_or_ge (i+1) L.length with z | z
 ·rw [dW hi,dW z]
  exact nb_at (i:=i) n (List.getElem?_eq_getElem hi) (List.getElem?_eq_getElem z)
 ·have ei:i+1=L.length:=by omega
  rw [ei,dC,dW hi,dW (show 0 < L.length by omega)]
  have hne:L≠[]:=by rw [e];simp
  have q:=c L.dropLast (L.getLast hne) (List.dropLast_concat_getLast hne).symm
  have g1:L[i]=L.getLast hne:=by rw [List.getLast_eq_getElem];congr 1;omega
  have g0:L[0]'(by omega)=x:=by simp only [e,List.getElem_cons_zero]
  rw [g1,g0]
  exact q
theorem cut_sh (H:HK h) (hr:R3 64 r) (W:Wk h t r X) (tn:t h.length=t 0) (ne:fl (stp h t) h.length≠[]):∀ i,i < (fl (stp h t) h.length).length->Shr (cor (fl (stp h t) h.length) i) (cor (fl (stp h t) h.length) (i+1)):=by
 obtain ⟨n,o⟩:=zq H hr W h.length (Nat.le_refl _)
 by_cases a:t 0<=0
 ·obtain ⟨m,em⟩:∃ m,h.length=m+1:=⟨h.length - 1,by have:=H.n3;omega⟩
  obtain ⟨s,es⟩:=we (h:=h) a m
  rw [<- em] at es
  refine vI es n λA z e=>?_
  have:=(o A z e).1 (by rw [tn];exact a)
  rw [dC] at this
  exact this
 ·cases e:fl (stp h t) h.length with
  | nil=>exact absurd e ne
  | cons x s =>
   rw [<- e]
   have ox:=qg W a _ x s e
   refine vI e n λA z ez=>?_
   exact ⟨r,hr,W.m0,(o A z ez).2 (by rw [tn];exact a),ox.1⟩
noncomputable def ca (h:List T3) (t:Nat->Int) (i:Nat):List T3:=if t i<=0 then [cor h i] else []
noncomputable def cb (h:List T3) (t:Nat->Int) (i:Nat):List T3:=if t i*t (i+1) < 0 then [md h t i] else []
theorem Cf (i:Nat):stp h t i=ca h t i++cb h t i:=rfl
theorem zB:∀ n,(fl (stp h t) n).length=(fl (ca h t) n).length+(fl (cb h t) n).length
 | 0=>rfl
 | n+1=>by
  rw [ba,ba,ba,List.length_append,List.length_append,List.length_append,zB n,Cf,List.length_append]
  omega
theorem EI {j:Nat} (tj:0 < t j):∀ n,(fl (ca h t) n).length<=n/\(j < n->(fl (ca h t) n).length+1<=n)
 | 0=>⟨Nat.le_refl _,λz=>absurd z (Nat.not_lt_zero _)⟩
 | n+1=>by
  obtain ⟨a,b⟩:=EI tj n
  rw [ba,List.length_append]
  have c:(ca h t n).length<=1:=by unfold ca;split <;> simp
  refine ⟨by omega,λz=>?_⟩
  rcases Nat.lt_or_ge j n with y | y
  ·have:=b y;omega
  ·have ej:j=n:=by omega
   subst ej
   have:ca h t j=[]:=by unfold ca;rw [if_neg (by omega)]
   rw [this]
   simp
   omega
theorem EG:∀ n,(fl (cb h t) n).Sublist (fl (stp h t) n)
 | 0=>List.Sublist.refl _
 | n+1=>by
  rw [ba,ba,Cf]
  exact (EG n).append (List.sublist_append_right _ _)
theorem EH (W:Wk h t r X) {n:Nat} {x:T3} (hx:x∈fl (cb h t) n):tl r x=0:=by
 obtain ⟨i,_,hi⟩:=sub_one hx
 unfold cb at hi
 split at hi
 ·rename_i c
  rw [List.mem_singleton.mp hi]
  exact W.ml i c
 ·cases hi
theorem zO (H:HK h) (W:Wk h t r X) (tn:t h.length=t 0) {j:Nat} (hj:j < h.length) (tj:0 < t j):(fl (stp h t) h.length).length<=h.length+1:=by
 have S:=ql H.cok H.tri H.n3 tn
 have a:=(EI (h:=h) tj h.length).2 hj
 have b:(fl (cb h t) h.length).length<=2:=by
  rcases Nat.lt_or_ge 2 (fl (cb h t) h.length).length with z | z
  ·exfalso
   have s3:=mq (L:=fl (cb h t) h.length) (show 0 < 1 by omega) (show 1 < 2 by omega) z
   have d:=S _ _ _ (s3.trans (EG h.length))
   have d0:=qj W.m0 (EH W (n:=h.length) (List.getElem_mem (show 0 < (fl (cb h t) h.length).length by omega))) (EH W (n:=h.length) (List.getElem_mem (show 1 < (fl (cb h t) h.length).length by omega))) (EH W (n:=h.length) (List.getElem_mem z))
   omega
  ·exact z
 rw [zB]
 omega
theorem fU {f:Nat->List T3} {i:Nat}:∀ d,(fl f i).length<=(fl f (i+d)).length
 | 0=>Nat.le_refl _
 | d+1=>by
  rw [<- Nat.add_assoc,ba,List.length_append]
  have:=fU (f:=f) (i:=i) d
  omega
theorem zi {i j:Nat} (hij:i < j) (ti:t i < 0) (tj:0 < t j):(fl (stp h t) i).length+2<=(fl (stp h t) j).length:=by
 have s1:1<=(stp h t i).length:=by unfold stp;rw [if_pos (by omega)];simp
 rcases Int.lt_or_le 0 (t (i+1)) with z | z
 ·have c:t i*t (i+1) < 0:=Int.mul_neg_of_neg_of_pos ti z
  have m:=fU (f:=stp h t) (i:=i+1) (j - (i+1))
  rw [show i+1+(j - (i+1))=j by omega,ba,List.length_append,oi (by omega) c] at m
  simpa using m
 ·have ij:i+1 < j:=by
   rcases Nat.lt_or_ge (i+1) j with y | y
   ·exact y
   ·rw [show j=i+1 by omega] at tj;omega
  have s2:1<=(stp h t (i+1)).length:=by unfold stp;rw [if_pos z];simp
  have m:=fU (f:=stp h t) (i:=i+1+1) (j - (i+1+1))
  rw [show i+1+1+(j - (i+1+1))=j by omega,ba,ba,List.length_append,List.length_append] at m
  omega
theorem tS:∀(d:Nat) {j:Nat},0 < t j->t (j+d) < 0->(fl (stp h t) j).length+1<=(fl (stp h t) (j+d)).length
 | 0,j,tj,ti=>by rw [Nat.add_zero] at ti;omega
 | d+1,j,tj,ti=>by
  have e:j+(d+1)=j+1+d:=by omega
  rw [e] at ti ⊢
  have m:=fU (f:=stp h t) (i:=j+1) d
  rcases Int.lt_trichotomy (t (j+1)) 0 with z | z | z
  ·have c:t j*t (j+1) < 0:=Int.mul_neg_of_pos_of_neg tj z
   rw [ba,List.length_append,iE (by omega) c] at m
   simp at m
   omega
  ·cases d with
   | zero=>rw [Nat.add_zero] at ti;omega
   | succ d =>
    have s2:1<=(stp h t (j+1)).length:=by unfold stp;rw [if_pos (by omega)];simp
    have m2:=fU (f:=stp h t) (i:=j+1+1) d
    rw [show j+1+1+d=j+1+(d+1) by omega,ba (j+1),List.length_append,ba j,List.length_append] at m2
    omega
  ·have:=tS d z ti
   rw [ba,List.length_append] at this
   omega
theorem Bq {n i j:Nat} (hi:i < n) (hj:j < n) (tn:t n=t 0) (ti:t i < 0) (tj:0 < t j):3<=(fl (stp h t) n).length:=by
 rcases Nat.lt_or_ge i j with z | z
 ·have o:=zi (h:=h) z ti tj
  rcases Int.lt_trichotomy (t 0) 0 with y | y | y
  ·have k:=tS (h:=h) (n - j) tj (by rw [show j+(n - j)=n by omega,tn];exact y)
   rw [show j+(n - j)=n by omega] at k
   omega
  ·have m:=fU (f:=stp h t) (i:=j) (n - j)
   rw [show j+(n - j)=n by omega] at m
   have i0:0 < i:=by
    rcases Nat.eq_zero_or_pos i with x | x
    ·rw [x] at ti;omega
    ·exact x
   have m2:=fU (f:=stp h t) (i:=1) (i - 1)
   rw [show 1+(i - 1)=i by omega,ba,List.length_append] at m2
   have s2:1<=(stp h t 0).length:=by unfold stp;rw [if_pos (by omega)];simp
   omega
  ·have k:=tS (h:=h) (t:=t) i (j:=0) y (by rw [Nat.zero_add];exact ti)
   rw [Nat.zero_add] at k
   have m:=fU (f:=stp h t) (i:=j) (n - j)
   rw [show j+(n - j)=n by omega] at m
   omega
 ·have ij:j < i:=by
   rcases Nat.lt_or_ge j i with y | y
   ·exact y
   ·rw [show i=j by omega] at ti;omega
  have k:=tS (h:=h) (i - j) tj (by rw [show j+(i - j)=i by omega];exact ti)
  rw [show j+(i - j)=i by omega] at k
  rcases Int.lt_or_le 0 (t 0) with y | y
  ·have o:=zi (h:=h) hi ti (by rw [tn];exact y)
   omega
  ·
   have s2:1<=(stp h t 0).length:=by unfold stp;rw [if_pos y];simp
   have s3:1<=(stp h t i).length:=by unfold stp;rw [if_pos (by omega)];simp
   have j0:0 < j:=by
    rcases Nat.eq_zero_or_pos j with x | x
    ·rw [x] at tj;omega
    ·exact x
   have m2:=fU (f:=stp h t) (i:=1) (j - 1)
   rw [show 1+(j - 1)=j by omega,ba,List.length_append] at m2
   have m3:=fU (f:=stp h t) (i:=i+1) (n - (i+1))
   rw [show i+1+(n - (i+1))=n by omega,ba,List.length_append] at m3
   omega
theorem EC (H:HK h) (hr:R3 64 r) (et:∀ i,t i=tl r (cor h i)\/t i = - tl r (cor h i)) (W:Wk h t r X) (tn:t h.length=t 0) {i j:Nat} (hi:i < h.length) (hj:j < h.length) (ti:t i < 0) (tj:0 < t j):HK (fl (stp h t) h.length):=by
 have n3:=Bq (h:=h) hi hj tn ti tj
 have mem:∀ x∈fl (stp h t) h.length,P3 130 x/\gg x.u x.v x.w=1:=λx hx=>by
  obtain ⟨k,hk,hx⟩:=sub_one hx
  rcases sv H.cok hx with ⟨_,e⟩ | ⟨c,e,_⟩
  ·rw [e]
   have:=cW (h:=h) (by omega) k
   exact ⟨H.ok _ this,H.pr _ this⟩
  ·rw [e]
   exact md_ok H hr et W hk c
 exact ⟨ql H.cok H.tri H.n3 tn,n3,λx hx=>(mem x hx).1,λx hx=>(mem x hx).2,cut_sh H hr W tn (λz=>by rw [z] at n3;exact absurd n3 (by decide))⟩
end
section
variable {h:List T3} {r:T3}
structure Cut (h:List T3) (r:T3):Prop where
 lo:HK (low r h)
 hi:HK (high r h)
 ll:(low r h).length<=h.length+1
 lh:(high r h).length<=h.length+1
 pl:0 < kS (low r h)
 ph:0 < kS (high r h)
 ad:kS (low r h)+kS (high r h)=kS h
theorem HK.hull (H:HK h):uh 130 h.length h:=⟨H.tri.tri,H.ok,by have:=H.n3;omega,Nat.le_refl _⟩
theorem zP (H:HK h) (hr:R3 64 r) {p q:T3} (hp:p∈h) (hq:q∈h) (p0:tl r p < 0) (q0:0 < tl r q):Cut h r:=by
 have ok:=H.cok
 have nz:r.u≠0\/r.v≠0\/r.w≠0:=by
  rcases Decidable.em (r.u=0) with z1 | z1
  ·rcases Decidable.em (r.v=0) with z2 | z2
   ·refine .inr (.inr λz3=>?_)
    unfold tl at p0
    rw [z1,z2,z3] at p0
    omega
   ·exact .inr (.inl z2)
  ·exact .inl z1
 have xs:∃ X:T3,0 < X.u/\tl r X=0:=by
  refine ⟨⟨tl r q*p.u + -(tl r p)*q.u,tl r q*p.v + -(tl r p)*q.v,tl r q*p.w + -(tl r p)*q.w⟩,?_,?_⟩
  ·show 0 < tl r q*p.u + -(tl r p)*q.u
   have:=Int.mul_pos q0 (H.ok p hp).n0
   have:=Int.mul_pos (show 0 < -(tl r p) by omega) (H.ok q hq).n0
   omega
  ·show r.u*(tl r q*p.v + -(tl r p)*q.v)+r.v*(tl r q*p.w + -(tl r p)*q.w)+r.w*(tl r q*p.u + -(tl r p)*q.u)=0
   simp only [tl]
   grind
 obtain ⟨X,xu,xl⟩:=xs
 obtain ⟨W1,W2⟩:=BQ ok nz xu xl
 obtain ⟨i,hi,ei⟩:=List.mem_iff_getElem.mp hp
 obtain ⟨j,hj,ej⟩:=List.mem_iff_getElem.mp hq
 have ei':cor h i=p:=(dW hi).trans ei
 have ej':cor h j=q:=(dW hj).trans ej
 have tl0:tv r h h.length=tv r h 0:=by unfold tv;rw [dC]
 have th0:tn r h h.length=tn r h 0:=by unfold tn;rw [dC]
 have a1:tv r h i < 0:=by unfold tv;rw [ei'];exact p0
 have a2:0 < tv r h j:=by unfold tv;rw [ej'];exact q0
 have b1:0 < tn r h i:=by unfold tn;rw [ei'];omega
 have b2:tn r h j < 0:=by unfold tn;rw [ej'];omega
 have L:=EC H hr (λk=>.inl rfl) W1 tl0 hi hj a1 a2
 have G:=EC H hr (λk=>.inr rfl) W2 th0 hj hi b2 b1
 exact ⟨L,G,zO H W1 tl0 hj a2,zO H W2 th0 hi b1,wz (λx hx=>(L.ok x hx).n0) L.tri L.n3,wz (λx hx=>(G.ok x hx).n0) G.tri G.n3,Bx H.hull hp hq p0 q0⟩
theorem ny:HK sqH:=by
 refine ⟨λp q r s=>?_,by decide,λp hp=>?_,λp hp=>?_,λi hi=>?_⟩
 ·simp only [sqH,List.sublist_cons_iff,List.sublist_nil,List.cons.injEq,reduceCtorEq,false_or,or_false] at s
  simp only [List.nil_eq,exists_eq_right_right',and_assoc] at s
  grind [det]
 ·have:=(sq_hull.ok p hp).mono (show 1<=130 by decide)
  exact this
 ·simp only [sqH,List.mem_cons,List.not_mem_nil,or_false] at hp
  rcases hp with e | e | e | e <;> rw [e] <;> decide
 ·have hi':i < 4:=hi
  rcases (by omega:i=0\/i=1\/i=2\/i=3) with e | e | e | e <;> rw [e]
  ·exact ⟨⟨0,1,0⟩,⟨by decide,by decide,by decide⟩,.inr (.inl (by decide)),by decide,by decide⟩
  ·exact ⟨⟨1,0,-1⟩,⟨by decide,by decide,by decide⟩,.inl (by decide),by decide,by decide⟩
  ·exact ⟨⟨0,1,-1⟩,⟨by decide,by decide,by decide⟩,.inr (.inl (by decide)),by decide,by decide⟩
  ·exact ⟨⟨1,0,0⟩,⟨by decide,by decide,by decide⟩,.inl (by decide),by decide,by decide⟩
end
end Hu
namespace Hu
section
variable {h:List T3} {r X:T3} {t:Nat->Int} {Rl:T3->T3->Prop}
end
end Hu
namespace Hu
noncomputable def gZ (h:List T3) (p:T3):Prop:=∀ f:T3,(∀ c∈h,0<=tl f c)->0<=tl f p
theorem BV (f p:T3):tl ⟨-f.u,-f.v,-f.w⟩ p = - tl f p:=by simp only [tl];grind
theorem gZ.le {h:List T3} {p:T3} (C:gZ h p) {f:T3} (hf:∀ c∈h,tl f c<=0):tl f p<=0:=by
 have z:=C ⟨-f.u,-f.v,-f.w⟩ λc hc=>by rw [BV];have:=hf c hc;omega
 rw [BV] at z
 omega
theorem jO {h:List T3} {c:T3} (hc:c∈h):gZ h c:=λf hf=>hf c hc
theorem gZ.sub {h g:List T3} (s:∀ c∈g,gZ h c) {p:T3} (C:gZ g p):gZ h p:=λf hf=>C f λc hc=>s c hc f hf
inductive Row where
 | lf (k:Nat)
 | nt (i:Nat)
 | fd (k i j:Nat)
noncomputable def z0:T3:=⟨0,0,0⟩
noncomputable def fld (k:Nat) (n a b:Int):Int :=
 if k=0 then (if a+b < n then a+b else n) else if k=1 then (if a+b - n > 0 then a+b - n else 0) else if k=2 then (if b > a then b else a) else if k=3 then (if b < a then b else a) else (if n - a+b < n then n - a+b else n)
noncomputable def lfw (k:Nat) (p:T3):Int:=if k=0 then 0 else if k=1 then p.u else if k=2 then p.v else p.w
noncomputable def wof (ws:List Int) (p:T3):Row->Int
 | .lf k=>lfw k p
 | .nt i=>p.u - ws.getD i 0
 | .fd k i j=>fld k p.u (ws.getD i 0) (ws.getD j 0)
noncomputable def lft (k:Nat):T3:=if k=0 then ⟨0,0,0⟩ else if k=1 then ⟨0,0,1⟩ else if k=2 then ⟨1,0,0⟩ else ⟨0,1,0⟩
noncomputable def pl (a b:T3):T3:=⟨a.u+b.u,a.v+b.v,a.w+b.w⟩
noncomputable def mi (a b:T3):T3:=⟨a.u - b.u,a.v - b.v,a.w - b.w⟩
noncomputable def al:T3:=⟨0,0,1⟩
theorem uq (a b p:T3):tl (pl a b) p=tl a p+tl b p:=by simp only [tl,pl];grind
theorem ku (a b p:T3):tl (mi a b) p=tl a p - tl b p:=by simp only [tl,mi];grind
theorem lg (p:T3):tl al p=p.u:=by simp only [tl,al];grind
theorem nv (p:T3):tl z0 p=0:=by simp only [tl,z0];grind
theorem mn (k:Nat) (p:T3):tl (lft k) p=lfw k p:=by
 unfold lft lfw tl
 split
 ·simp
 ·split
  ·simp
  ·split <;> simp
noncomputable def fch (k:Nat) (a b:T3):T3×T3×T3 :=
 if k=0 then (mi (pl a b) al,pl a b,al) else if k=1 then (mi (pl a b) al,z0,mi (pl a b) al) else if k=2 then (mi a b,b,a) else if k=3 then (mi a b,a,b) else (mi b a,pl al (mi b a),al)
noncomputable def choice (rs:List T3):Row->T3×T3×T3
 | .lf k=>(z0,lft k,lft k)
 | .nt i=>(z0,mi al (rs.getD i z0),mi al (rs.getD i z0))
 | .fd k i j=>fch k (rs.getD i z0) (rs.getD j z0)
open Classical in
noncomputable def aX (h:List T3) (c:T3×T3×T3):Option T3:=if ∀ q∈h,tl c.1 q<=0 then some c.2.1 else if ∀ q∈h,0<=tl c.1 q then some c.2.2 else none
inductive Out where
 | rules (rs:List T3)
 | mixed (k:Nat) (t:T3)
noncomputable def run (h:List T3):List Row->List T3->Out
 | [],rs=>.rules rs
 | r::rest,rs=>match aX h (choice rs r) with
  | some x=>run h rest (rs++[x])
  | none=>.mixed rs.length (choice rs r).1
noncomputable def tv2 (rs:List T3) (p:T3):List Int:=rs.map λr=>tl r p
theorem oK (rs:List T3) (p:T3) (i:Nat):(tv2 rs p).getD i 0=tl (rs.getD i z0) p:=by
 unfold tv2
 rw [List.getD_eq_getElem?_getD,List.getD_eq_getElem?_getD,List.getElem?_map]
 cases rs[i]? with
 | none=>exact (nv p).symm
 | some r=>rfl
noncomputable def wV (ws:List Int) (p:T3):Row->Int
 | .lf _=>0
 | .nt _=>0
 | .fd k i j=>if k=0 then ws.getD i 0+ws.getD j 0 - p.u else if k=1 then ws.getD i 0+ws.getD j 0 - p.u else if k=2 then ws.getD i 0 - ws.getD j 0 else if k=3 then ws.getD i 0 - ws.getD j 0 else ws.getD j 0 - ws.getD i 0
theorem fA (rs:List T3) (p:T3) (r:Row):tl (choice rs r).1 p=wV (tv2 rs p) p r:=by
 cases r with
 | lf k=>exact nv p
 | nt i=>exact nv p
 | fd k i j =>
  show tl (fch k _ _).1 p=wV _ p (.fd k i j)
  unfold fch wV
  simp only [oK]
  split
  ·show tl (mi (pl _ _) al) p=_
   rw [ku,uq,lg]
  ·split
   ·show tl (mi (pl _ _) al) p=_
    rw [ku,uq,lg]
   ·split
    ·show tl (mi _ _) p=_
     rw [ku]
    ·split
     ·show tl (mi _ _) p=_
      rw [ku]
     ·show tl (mi _ _) p=_
      rw [ku]
theorem DZ (rs:List T3) (p:T3) (r:Row) (h:wV (tv2 rs p) p r<=0):tl (choice rs r).2.1 p=wof (tv2 rs p) p r:=by
 cases r with
 | lf k=>exact mn k p
 | nt i =>
  show tl (mi al _) p=p.u - _
  rw [ku,lg,oK]
 | fd k i j =>
  show tl (fch k _ _).2.1 p=fld k p.u _ _
  unfold wV at h
  unfold fch fld
  simp only [oK] at h ⊢
  split at h <;> rename_i c0
  ·rw [if_pos c0,if_pos c0]
   show tl (pl _ _) p=_
   rw [uq]
   split <;> omega
  ·rw [if_neg c0,if_neg c0]
   split at h <;> rename_i c1
   ·rw [if_pos c1,if_pos c1]
    show tl z0 p=_
    rw [nv]
    split <;> omega
   ·rw [if_neg c1,if_neg c1]
    split at h <;> rename_i c2
    ·rw [if_pos c2,if_pos c2]
     show tl (rs.getD j z0) p=_
     split <;> omega
    ·rw [if_neg c2,if_neg c2]
     split at h <;> rename_i c3
     ·rw [if_pos c3,if_pos c3]
      show tl (rs.getD i z0) p=_
      split <;> omega
     ·rw [if_neg c3,if_neg c3]
      show tl (pl al (mi _ _)) p=_
      rw [uq,lg,ku]
      split <;> omega
theorem Eh (rs:List T3) (p:T3) (r:Row) (h:0<=wV (tv2 rs p) p r):tl (choice rs r).2.2 p=wof (tv2 rs p) p r:=by
 cases r with
 | lf k=>exact mn k p
 | nt i =>
  show tl (mi al _) p=p.u - _
  rw [ku,lg,oK]
 | fd k i j =>
  show tl (fch k _ _).2.2 p=fld k p.u _ _
  unfold wV at h
  unfold fch fld
  simp only [oK] at h ⊢
  split at h <;> rename_i c0
  ·rw [if_pos c0,if_pos c0]
   show tl al p=_
   rw [lg]
   split <;> omega
  ·rw [if_neg c0,if_neg c0]
   split at h <;> rename_i c1
   ·rw [if_pos c1,if_pos c1]
    show tl (mi (pl _ _) al) p=_
    rw [ku,uq,lg]
    split <;> omega
   ·rw [if_neg c1,if_neg c1]
    split at h <;> rename_i c2
    ·rw [if_pos c2,if_pos c2]
     show tl (rs.getD i z0) p=_
     split <;> omega
    ·rw [if_neg c2,if_neg c2]
     split at h <;> rename_i c3
     ·rw [if_pos c3,if_pos c3]
      show tl (rs.getD j z0) p=_
      split <;> omega
     ·rw [if_neg c3,if_neg c3]
      show tl al p=_
      rw [lg]
      split <;> omega
theorem eZ {h:List T3} {rs:List T3} {r:Row} {x:T3} (e:aX h (choice rs r)=some x) {p:T3} (C:gZ h p):tl x p=wof (tv2 rs p) p r:=by
 unfold aX at e
 split at e
 ·rename_i c
  cases e
  exact DZ rs p r (by rw [<- fA];exact C.le c)
 ·split at e
  ·rename_i c
   cases e
   exact Eh rs p r (by rw [<- fA];exact C _ c)
  ·cases e
theorem kY (rs:List T3) (x p:T3):tv2 (rs++[x]) p=tv2 rs p++[tl x p]:=by unfold tv2;rw [List.map_append];rfl
theorem ig {h:List T3} {c:T3×T3×T3} (e:aX h c=none):(∃ q∈h,0 < tl c.1 q)/\∃ q∈h,tl c.1 q < 0:=by
 unfold aX at e
 split at e
 ·cases e
 ·rename_i c1
  split at e
  ·cases e
  ·rename_i c2
   constructor
   ·refine Classical.byContradiction λz=>c1 λq hq=>?_
    refine Classical.byContradiction λy=>z ⟨q,hq,by omega⟩
   ·refine Classical.byContradiction λz=>c2 λq hq=>?_
    refine Classical.byContradiction λy=>z ⟨q,hq,by omega⟩
theorem vn {h g:List T3} (s:∀ c∈g,gZ h c):∀(rows:List Row) (rs rs':List T3),rs.length=rs'.length->(∀ p,gZ g p->tv2 rs p=tv2 rs' p)->∀ k t,run h rows rs=.mixed k t->
  ((∀ c∈g,tl t c<=0)\/∀ c∈g,0<=tl t c)->∀ k' t',run g rows rs'=.mixed k' t'->k < k'
 | [],rs,rs',_,_,k,t,e,_,_,_,_=>by cases e
 | r::rest,rs,rs',el,et,k,t,e,hs,k',t',e'=>by
  have tt:∀ c∈g,tl (choice rs r).1 c=tl (choice rs' r).1 c:=λc hc=>by rw [fA,fA,et c (jO hc)]
  have ex:((∀ c∈g,tl (choice rs r).1 c<=0)\/∀ c∈g,0<=tl (choice rs r).1 c)->∃ x,aX g (choice rs' r)=some x:=λhh=>by
   cases q:aX g (choice rs' r) with
   | some x=>exact ⟨x,rfl⟩
   | none =>
    exfalso
    obtain ⟨⟨a,ha,a0⟩,b,hb,b0⟩:=ig q
    rw [<- tt a ha] at a0
    rw [<- tt b hb] at b0
    rcases hh with z | z
    ·have:=z a ha;omega
    ·have:=z b hb;omega
  unfold run at e
  cases q:aX h (choice rs r) with
  | none =>
   rw [q] at e
   injection e with e1 e2
   subst e2
   obtain ⟨x,qx⟩:=ex hs
   unfold run at e'
   rw [qx] at e'
   have ge:∀(rows:List Row) (rs:List T3) (k:Nat) (t:T3),run g rows rs=.mixed k t->rs.length<=k:=by
    intro rows
    induction rows with
    | nil=>intro rs k t z;cases z
    | cons r rest ih =>
     intro rs k t z
     unfold run at z
     cases y:aX g (choice rs r) with
     | none=>rw [y] at z;injection z with z1 z2;omega
     | some x =>
      rw [y] at z
      have:=ih _ _ _ z
      rw [List.length_append,List.length_singleton] at this
      omega
   have:=ge _ _ _ _ e'
   rw [List.length_append,List.length_singleton] at this
   omega
  | some y =>
   rw [q] at e
   have us:(∀ c∈g,tl (choice rs r).1 c<=0)\/∀ c∈g,0<=tl (choice rs r).1 c:=by
    unfold aX at q
    split at q
    ·rename_i c
     exact .inl λc' hc=>(s c' hc).le c
    ·split at q
     ·rename_i c
      exact .inr λc' hc=>s c' hc _ c
     ·cases q
   obtain ⟨x,qx⟩:=ex us
   unfold run at e'
   rw [qx] at e'
   refine vn s rest _ _ (by simp [el]) (λp hp=>?_) k t e hs k' t' e'
   rw [kY,kY,eZ q (hp.sub s),eZ qx hp,et p hp]
noncomputable def Rb (rs:List T3):Prop:=∀ i x,rs[i]?=some x->R3 (i+1) x
theorem r3_pl {m:Nat} {a b:T3} (ha:R3 m a) (hb:R3 m b):R3 (m+1) (pl a b):=by
 have e:2 ^ (m+1)=2*2 ^ m:=by rw [Nat.pow_succ];omega
 have:=ha.a;have:=ha.b;have:=ha.c;have:=hb.a;have:=hb.b;have:=hb.c
 refine ⟨?_,?_,?_⟩ <;> (simp only [pl];rw [e];omega)
theorem rq {m:Nat} {a b:T3} (ha:R3 m a) (hb:R3 m b):R3 (m+1) (mi a b):=by
 have e:2 ^ (m+1)=2*2 ^ m:=by rw [Nat.pow_succ];omega
 have:=ha.a;have:=ha.b;have:=ha.c;have:=hb.a;have:=hb.b;have:=hb.c
 refine ⟨?_,?_,?_⟩ <;> (simp only [mi];rw [e];omega)
theorem xp {m:Nat} {a b:T3} (ha:R3 m a) (hb:R3 m b):R3 (m+1) (mi (pl a b) al):=by
 have e:2 ^ (m+1)=2*2 ^ m:=by rw [Nat.pow_succ];omega
 have:=ha.a;have:=ha.b;have:=ha.c;have:=hb.a;have:=hb.b;have:=hb.c
 refine ⟨?_,?_,?_⟩ <;> (simp only [pl,mi,al];rw [e];omega)
theorem r3_alm {m:Nat} {a b:T3} (ha:R3 m a) (hb:R3 m b):R3 (m+1) (pl al (mi b a)):=by
 have e:2 ^ (m+1)=2*2 ^ m:=by rw [Nat.pow_succ];omega
 have:=ha.a;have:=ha.b;have:=ha.c;have:=hb.a;have:=hb.b;have:=hb.c
 refine ⟨?_,?_,?_⟩ <;> (simp only [pl,mi,al];rw [e];omega)
theorem sV (m:Nat):R3 (m+1) al:=by
 have:=Nat.one_le_two_pow (n:=m)
 have e:2 ^ (m+1)=2*2 ^ m:=by rw [Nat.pow_succ];omega
 refine ⟨?_,?_,?_⟩ <;> (simp only [al];rw [e];omega)
theorem Df (m:Nat):R3 (m+1) z0:=by
 have:=Nat.one_le_two_pow (n:=m)
 have e:2 ^ (m+1)=2*2 ^ m:=by rw [Nat.pow_succ];omega
 refine ⟨?_,?_,?_⟩ <;> (simp only [z0];rw [e];omega)
theorem Dg (k m:Nat):R3 (m+1) (lft k):=by
 have:=Nat.one_le_two_pow (n:=m)
 have e:2 ^ (m+1)=2*2 ^ m:=by rw [Nat.pow_succ];omega
 unfold lft
 split
 ·refine ⟨?_,?_,?_⟩ <;> (simp only [];rw [e];omega)
 ·split
  ·refine ⟨?_,?_,?_⟩ <;> (simp only [];rw [e];omega)
  ·split <;> (refine ⟨?_,?_,?_⟩ <;> (simp only [];rw [e];omega))
noncomputable def Row.Ok (n:Nat):Row->Prop
 | .lf k=>k < 4
 | .nt i=>i < n
 | .fd k i j=>k < 5/\i < n/\j < n
theorem nG {rs:List T3} (h:Rb rs) {i:Nat} (hi:i < rs.length):R3 rs.length (rs.getD i z0):=by
 have e:rs[i]?=some (rs.getD i z0):=by rw [List.getD_eq_getElem?_getD,List.getElem?_eq_getElem hi];rfl
 exact (h i _ e).mono (by omega)
theorem jP {rs:List T3} (h:Rb rs) {r:Row} (ok:r.Ok rs.length):R3 (rs.length+1) (choice rs r).1/\R3 (rs.length+1) (choice rs r).2.1/\R3 (rs.length+1) (choice rs r).2.2:=by
 cases r with
 | lf k=>exact ⟨Df _,Dg k _,Dg k _⟩
 | nt i =>
  have a:=nG h ok
  have l0:∃ m,rs.length=m+1:=⟨rs.length - 1,by have:i < rs.length:=ok;omega⟩
  obtain ⟨m,em⟩:=l0
  have o:R3 rs.length al:=by rw [em];exact sV m
  exact ⟨Df _,rq o a,rq o a⟩
 | fd k i j =>
  obtain ⟨_,hi,hj⟩:=ok
  have a:=nG h hi
  have b:=nG h hj
  show R3 _ (fch k _ _).1/\R3 _ (fch k _ _).2.1/\R3 _ (fch k _ _).2.2
  unfold fch
  split
  ·exact ⟨xp a b,r3_pl a b,sV _⟩
  ·split
   ·exact ⟨xp a b,Df _,xp a b⟩
   ·split
    ·exact ⟨rq a b,b.mono (by omega),a.mono (by omega)⟩
    ·split
     ·exact ⟨rq a b,a.mono (by omega),b.mono (by omega)⟩
     ·exact ⟨rq b a,r3_alm a b,sV _⟩
theorem sT {rs:List T3} {x:T3} (h:Rb rs) (hx:R3 (rs.length+1) x):Rb (rs++[x]):=λi y e=>by
 rcases Nat.lt_or_ge i rs.length with z | z
 ·rw [List.getElem?_append_left z] at e
  exact h i y e
 ·rw [List.getElem?_append_right z] at e
  have:i - rs.length=0:=by
   rcases Nat.eq_zero_or_pos (i - rs.length) with q | q
   ·exact q
   ·rw [List.getElem?_eq_none (by simp;omega)] at e;cases e
  rw [this] at e
  cases e
  rw [show i=rs.length by omega]
  exact hx
theorem qq {rs:List T3} {h:List T3} {r:Row} {x:T3} (hb:Rb rs) (ok:r.Ok rs.length) (e:aX h (choice rs r)=some x):R3 (rs.length+1) x:=by
 obtain ⟨_,b1,b2⟩:=jP hb ok
 unfold aX at e
 split at e
 ·cases e;exact b1
 ·split at e
  ·cases e;exact b2
  ·cases e
end Hu
end Mine
set_option maxHeartbeats 1000000
namespace Mine
namespace Hu
theorem jZ {h:List T3} (H:HK h) {t:Nat->Int}:∀ c∈fl (stp h t) h.length,gZ h c:=λc hc=>by
 have ok:=H.cok
 have n3:=H.n3
 obtain ⟨i,hi,hx⟩:=sub_one hc
 unfold stp at hx
 rcases List.mem_append.mp hx with z | z
 ·split at z
  ·rw [List.mem_singleton.mp z];exact jO (cW (by omega) i)
  ·cases z
 ·split at z
  ·rename_i c0
   rw [List.mem_singleton.mp z]
   intro f hf
   obtain ⟨g,x,y,g0,x0,y0,e1,e2,e3⟩:=(pU (ok i) (ok (i+1)) c0).ex
   have a1:=hf _ (cW (show 0 < h.length by omega) i)
   have a2:=hf _ (cW (show 0 < h.length by omega) (i+1))
   have e:g*tl f (mid (cor h i) (cor h (i+1)) (t i) (t (i+1)))=x*tl f (cor h i)+y*tl f (cor h (i+1)):=by
    have:g*tl f (mid (cor h i) (cor h (i+1)) (t i) (t (i+1)))=f.u*(g*(mid (cor h i) (cor h (i+1)) (t i) (t (i+1))).v)+f.v*(g*(mid (cor h i) (cor h (i+1)) (t i) (t (i+1))).w)+f.w*(g*(mid (cor h i) (cor h (i+1)) (t i) (t (i+1))).u):=by simp only [tl];grind
    rw [this,e1,e2,e3]
    simp only [tl]
    grind
   have m1:=Int.mul_nonneg x0 a1
   have m2:=Int.mul_nonneg y0 a2
   exact sZ g0 (by rw [e];omega)
  ·cases z
theorem rB {h:List T3} {r X:T3} {t:Nat->Int} (W:Wk h t r X) {s:Int} (et:∀ i,t i=s*tl r (cor h i)):∀ c∈fl (stp h t) h.length,s*tl r c<=0:=λc hc=>by
 obtain ⟨i,hi,hx⟩:=sub_one hc
 unfold stp at hx
 rcases List.mem_append.mp hx with z | z
 ·split at z
  ·rename_i c0
   rw [List.mem_singleton.mp z,<- et i];exact c0
  ·cases z
 ·split at z
  ·rename_i c0
   rw [List.mem_singleton.mp z]
   have:=W.ml i c0
   have e:tl r (mid (cor h i) (cor h (i+1)) (t i) (t (i+1)))=0:=this
   rw [e]
   omega
  ·cases z
theorem wk_cut {h:List T3} {r:T3} (H:HK h) {p q:T3} (hp:p∈h) (hq:q∈h) (p0:tl r p < 0) (q0:0 < tl r q):∃ X,Wk h (tv r h) r X/\Wk h (tn r h) r X:=by
 have ok:=H.cok
 have nz:r.u≠0\/r.v≠0\/r.w≠0:=by
  rcases Decidable.em (r.u=0) with z1 | z1
  ·rcases Decidable.em (r.v=0) with z2 | z2
   ·refine .inr (.inr λz3=>?_)
    unfold tl at p0
    rw [z1,z2,z3] at p0
    omega
   ·exact .inr (.inl z2)
  ·exact .inl z1
 have xs:∃ X:T3,0 < X.u/\tl r X=0:=by
  refine ⟨⟨tl r q*p.u + -(tl r p)*q.u,tl r q*p.v + -(tl r p)*q.v,tl r q*p.w + -(tl r p)*q.w⟩,?_,?_⟩
  ·show 0 < tl r q*p.u + -(tl r p)*q.u
   have:=Int.mul_pos q0 (H.ok p hp).n0
   have:=Int.mul_pos (show 0 < -(tl r p) by omega) (H.ok q hq).n0
   omega
  ·show r.u*(tl r q*p.v + -(tl r p)*q.v)+r.v*(tl r q*p.w + -(tl r p)*q.w)+r.w*(tl r q*p.u + -(tl r p)*q.u)=0
   simp only [tl]
   grind
 obtain ⟨X,xu,xl⟩:=xs
 obtain ⟨W1,W2⟩:=BQ ok nz xu xl
 exact ⟨X,W1,W2⟩
theorem mP {h:List T3}:∀(rows:List Row) (rs:List T3) (k:Nat) (t:T3),run h rows rs=.mixed k t->(∃ q∈h,0 < tl t q)/\∃ q∈h,tl t q < 0
 | [],rs,k,t,e=>by cases e
 | r::rest,rs,k,t,e=>by
  unfold run at e
  cases q:aX h (choice rs r) with
  | some x=>rw [q] at e;exact mP rest _ k t e
  | none =>
   rw [q] at e
   injection e with e1 e2
   rw [<- e2]
   exact ig q
theorem rD {h:List T3} {rows:List Row} {k:Nat} {t:T3} (e:run h rows []=.mixed k t):¬gX t h:=λz=>by
 obtain ⟨⟨a,ha,a0⟩,b,hb,b0⟩:=mP rows [] k t e
 rcases z with z | z
 ·have:=z b hb;omega
 ·have:=z a ha;omega
noncomputable def isFd:Row->Bool
 | .fd _ _ _=>true
 | _=>false
noncomputable def fds (rows:List Row):Nat:=rows.countP isFd
theorem pS {h:List T3}:∀(rows:List Row) (rs:List T3) (k:Nat) (t:T3),run h rows rs=.mixed k t->∃ i r,rows[i]?=some r/\k=rs.length+i/\isFd r=true
 | [],rs,k,t,e=>by cases e
 | r::rest,rs,k,t,e=>by
  unfold run at e
  cases q:aX h (choice rs r) with
  | some x =>
   rw [q] at e
   obtain ⟨i,r',h1,h2,h3⟩:=pS rest _ k t e
   exact ⟨i+1,r',by simpa using h1,by rw [h2,List.length_append,List.length_singleton];omega,h3⟩
  | none =>
   rw [q] at e
   injection e with e1 e2
   refine ⟨0,r,rfl,by omega,?_⟩
   cases r with
   | fd _ _ _=>rfl
   | lf k' =>
    obtain ⟨⟨a,_,a0⟩,_⟩:=ig q
    have:tl z0 a=0:=nv a
    have a0':0 < tl z0 a:=a0
    omega
   | nt i =>
    obtain ⟨⟨a,_,a0⟩,_⟩:=ig q
    have:tl z0 a=0:=nv a
    have a0':0 < tl z0 a:=a0
    omega
theorem Eu {rows:List Row} {k:Nat} {r:Row} (h:rows[k]?=some r) (f:isFd r=true):fds (rows.drop k)=fds (rows.drop (k+1))+1:=by
 have hk:k < rows.length:=(List.getElem?_eq_some_iff.mp h).1
 have e:rows.drop k=r::rows.drop (k+1):=by
  rw [List.drop_eq_getElem_cons hk]
  rw [List.getElem?_eq_getElem hk] at h
  cases h
  rfl
 rw [e]
 unfold fds
 rw [List.countP_cons_of_pos f]
theorem qh {rows:List Row} {i j:Nat} (h:i<=j):fds (rows.drop j)<=fds (rows.drop i):=by
 have e:rows.drop j=(rows.drop i).drop (j - i):=by rw [List.drop_drop];congr 1;omega
 rw [e]
 exact (List.drop_sublist _ _).countP_le
theorem run_b {h:List T3}:∀(rows:List Row) (rs:List T3),Rb rs->(∀(i:Nat) (r:Row),rows[i]?=some r->r.Ok (rs.length+i))->(∀ k t,run h rows rs=.mixed k t->R3 (k+1) t)/\∀ out,run h rows rs=.rules out->Rb out/\out.length=rs.length+rows.length
 | [],rs,hb,_=>⟨λk t e=>(by cases e),λout e=>(by cases e;exact ⟨hb,by simp⟩)⟩
 | r::rest,rs,hb,ok=>by
  have o0:r.Ok rs.length:=by have:=ok 0 r rfl;rwa [Nat.add_zero] at this
  have cb:=jP hb o0
  cases q:aX h (choice rs r) with
  | none =>
   refine ⟨λk t e=>?_,λout e=>?_⟩
   ·unfold run at e
    rw [q] at e
    injection e with e1 e2
    rw [<- e2,<- e1]
    exact cb.1
   ·unfold run at e
    rw [q] at e
    cases e
  | some x =>
   have hx:=qq hb o0 q
   obtain ⟨i1,i2⟩:=run_b (h:=h) rest (rs++[x]) (sT hb hx) (λi r' hr=>by have:=ok (i+1) r' (by simpa using hr);rw [List.length_append,List.length_singleton];rwa [show rs.length+1+i=rs.length+(i+1) by omega])
   refine ⟨λk t e=>?_,λout e=>?_⟩
   ·unfold run at e
    rw [q] at e
    exact i1 k t e
   ·unfold run at e
    rw [q] at e
    obtain ⟨j1,j2⟩:=i2 out e
    exact ⟨j1,by rw [j2,List.length_append,List.length_singleton,List.length_cons];omega⟩
inductive Tc where
 | leaf
 | cut (r:T3) (l g:Tc)
noncomputable def Tc.jf:Tc->Nat
 | .leaf=>0
 | .cut _ l g=>1+l.jf+g.jf
end Hu
namespace Hu
theorem jf {h:List T3} (H:HK h) {r:T3} (hr:R3 64 r) (n:¬gX r h):Cut h r:=by
 have a:∃ p∈h,tl r p < 0:=Decidable.byContradiction λz=>n (.inl λp hp=>by
  rcases Int.lt_or_le (tl r p) 0 with y | y
  ·exact absurd ⟨p,hp,y⟩ z
  ·exact y)
 have b:∃ p∈h,0 < tl r p:=Decidable.byContradiction λz=>n (.inr λp hp=>by
  rcases Int.lt_or_le 0 (tl r p) with y | y
  ·exact absurd ⟨p,hp,y⟩ z
  ·exact y)
 obtain ⟨p,hp,p0⟩:=a
 obtain ⟨q,hq,q0⟩:=b
 exact zP H hr hp hq p0 q0
namespace Tc
noncomputable def deep:Tc->Nat
 | leaf=>0
 | cut _ l g=>max l.deep g.deep+1
noncomputable def size:Tc->Nat
 | leaf=>1
 | cut _ l g=>l.size+g.size+1
noncomputable def Sm (b:Nat):Tc->Prop
 | leaf=>True
 | cut r l g=>R3 b r/\l.Sm b/\g.Sm b
theorem Sm.mono {a b:Nat} (h:a<=b):∀{t:Tc},t.Sm a->t.Sm b
 | leaf,_=>trivial
 | cut r l g,⟨x,y,z⟩=>⟨x.mono h,Sm.mono h y,Sm.mono h z⟩
theorem size_pos:∀ t:Tc,0 < t.size
 | leaf=>by decide
 | cut _ l g=>by simp only [size];omega
theorem size_le:∀{t:Tc} {d:Nat},t.deep<=d->t.size+1<=2 ^ (d+1)
 | leaf,d,_=>by
  have:=Nat.one_le_two_pow (n:=d)
  simp only [size]
  rw [Nat.pow_succ]
  omega
 | cut r l g,0,h=>by simp only [deep] at h;omega
 | cut r l g,d+1,h=>by
  simp only [deep] at h
  have a:=size_le (t:=l) (d:=d) (by omega)
  have b:=size_le (t:=g) (d:=d) (by omega)
  simp only [size]
  rw [Nat.pow_succ]
  omega
open Classical in
noncomputable def told:Tc->List T3->Option (List (List T3))
 | leaf,h=>some [h]
 | cut r l g,h=>if gX r h then none else match l.told (low r h),g.told (high r h) with
  | some a,some b=>some (a++b)
  | _,_=>none
theorem kZ:∀{t:Tc} {h:List T3} {L:List (List T3)},HK h->t.Sm 64->t.told h=some L->∀ g∈L,HK g/\g.length<=h.length+t.deep
 | leaf,h,L,H,_,e,g,hg=>by
  cases e
  rw [List.mem_singleton.mp hg]
  exact ⟨H,Nat.le_add_right _ _⟩
 | cut r l g,h,L,H,sm,e,x,hx=>by
  unfold told at e
  split at e
  ·cases e
  ·rename_i nc
   have c:=Hu.jf H sm.1 nc
   cases ea:l.told (low r h) with
   | none=>rw [ea] at e;cases e
   | some a=>cases eb:g.told (high r h) with
    | none=>rw [ea,eb] at e;cases e
    | some b =>
     rw [ea,eb] at e
     cases e
     have l1:=c.ll
     have l2:=c.lh
     rcases List.mem_append.mp hx with z | z
     ·have:=kZ c.lo sm.2.1 ea x z
      exact ⟨this.1,by simp only [deep];have:=this.2;omega⟩
     ·have:=kZ c.hi sm.2.2 eb x z
      exact ⟨this.1,by simp only [deep];have:=this.2;omega⟩
noncomputable def dG:List (Tc×List T3)->Option (List (List T3))
 | []=>some []
 | (t,h)::r=>match t.told h,dG r with
  | some a,some b=>some (a++b)
  | _,_=>none
theorem wX (h:List T3) (r:List (Tc×List T3)):dG ((leaf,h)::r)=(dG r).map (h::·):=by
 simp only [dG,told]
 cases dG r <;> rfl
theorem BS {q:T3} {l g:Tc} {h:List T3} (n:gX q h) (r:List (Tc×List T3)):dG ((cut q l g,h)::r)=none:=by
 simp only [dG,told,if_pos n]
theorem Af {q:T3} {l g:Tc} {h:List T3} (n:¬gX q h) (r:List (Tc×List T3)):dG ((cut q l g,h)::r)=dG ((l,low q h)::(g,high q h)::r):=by
 simp only [dG,told,if_neg n]
 cases l.told (low q h) with
 | none=>rfl
 | some a=>cases g.told (high q h) with
  | none=>cases dG r <;> rfl
  | some b=>cases dG r with
   | none=>rfl
   | some c=>simp only [List.append_assoc]
end Tc
theorem CM {h:List T3}:∀(rows:List Row) (rs:List T3) (k:Nat) (t:T3),run h rows rs=.mixed k t->rs.length<=k
 | [],rs,k,t,e=>by cases e
 | r::rest,rs,k,t,e=>by
  unfold run at e
  cases q:aX h (choice rs r) with
  | some x =>
   rw [q] at e
   have:=CM rest _ k t e
   rw [List.length_append] at this
   exact Nat.le_of_succ_le this
  | none=>rw [q] at e;injection e with e1 _;omega
theorem yd {g:List T3} {c:T3×T3×T3} (h:(∀ q∈g,tl c.1 q<=0)\/∀ q∈g,0<=tl c.1 q):∃ x,aX g c=some x:=by
 unfold aX
 split
 ·exact ⟨_,rfl⟩
 ·rename_i n
  rcases h with z | z
  ·exact absurd z n
  ·rw [if_pos z];exact ⟨_,rfl⟩
theorem wt {h:List T3} {c:T3×T3×T3} {x:T3} (e:aX h c=some x):(∀ q∈h,tl c.1 q<=0)\/∀ q∈h,0<=tl c.1 q:=by
 unfold aX at e
 split at e
 ·rename_i z;exact .inl z
 ·split at e
  ·rename_i z;exact .inr z
  ·cases e
theorem za {h g:List T3} (s:∀ c∈g,gZ h c):∀(rows:List Row) (rs rs':List T3),rs.length=rs'.length->(∀ p,gZ g p->tv2 rs p=tv2 rs' p)->∀ k' t',run g rows rs'=.mixed k' t'->∃ k t,run h rows rs=.mixed k t/\k<=k'
 | [],rs,rs',_,_,k',t',e'=>by cases e'
 | r::rest,rs,rs',el,et,k',t',e'=>by
  have tt:∀ c∈g,tl (choice rs r).1 c=tl (choice rs' r).1 c:=λc hc=>by rw [fA,fA,et c (jO hc)]
  cases q:aX h (choice rs r) with
  | none =>
   refine ⟨rs.length,(choice rs r).1,by unfold run;rw [q],?_⟩
   rw [el]
   exact CM _ _ _ _ e'
  | some x =>
   have sg:(∀ c∈g,tl (choice rs' r).1 c<=0)\/∀ c∈g,0<=tl (choice rs' r).1 c:=by
    rcases wt q with z | z
    ·exact .inl λc hc=>by rw [<- tt c hc];exact (s c hc).le z
    ·exact .inr λc hc=>by rw [<- tt c hc];exact (s c hc) _ z
   obtain ⟨x',q'⟩:=yd sg
   unfold run at e'
   rw [q'] at e'
   obtain ⟨k,t,e,l⟩:=za s rest (rs++[x]) (rs'++[x']) (by simp [el]) (λp C=>by rw [kY,kY,et p C,eZ q (C.sub s),eZ q' C,et p C]) k' t' e'
   exact ⟨k,t,by unfold run;rw [q];exact e,l⟩
noncomputable def need (h:List T3) (rows:List Row):Nat:=match run h rows [] with
 | .rules _=>0
 | .mixed k _=>fds (rows.drop k)
theorem need_le (h:List T3) (rows:List Row):need h rows<=fds rows:=by
 unfold need
 split
 ·exact Nat.zero_le _
 ·rename_i k t _
  have:=qh (rows:=rows) (Nat.zero_le k)
  simpa using this
theorem vG {h g:List T3} (s:∀ c∈g,gZ h c) (rows:List Row):need g rows<=need h rows:=by
 unfold need
 cases e:run g rows [] with
 | rules rs=>exact Nat.zero_le _
 | mixed k' t' =>
  obtain ⟨k,t,e2,l⟩:=za s rows [] [] rfl (λ_ _=>rfl) k' t' e
  rw [e2]
  exact qh l
theorem vH {h g:List T3} (s:∀ c∈g,gZ h c) {rows:List Row} {k:Nat} {t:T3} (e:run h rows []=.mixed k t) (hs:(∀ c∈g,tl t c<=0)\/∀ c∈g,0<=tl t c):need g rows+1<=need h rows:=by
 obtain ⟨i,r,hr,ek,fr⟩:=pS rows [] k t e
 have ek:k=i:=by rw [ek];simp
 subst ek
 have fk:=Eu hr fr
 unfold need
 rw [e]
 cases e':run g rows [] with
 | rules rs=>show 0+1<=fds (rows.drop k);omega
 | mixed k' t' =>
  have:=vn s rows [] [] rfl (λ_ _=>rfl) k t e hs k' t' e'
  have:=qh (rows:=rows) (show k+1<=k' by omega)
  show fds (rows.drop k')+1<=fds (rows.drop k)
  omega
structure TnL (Ls:List (List Row)) (d:Nat) (h:List T3):Prop where
 hk:HK h
 ln:h.length+d<=20
 nd:(Ls.map (need h)).sum<=d
theorem xc {α:Type} {f g:α->Nat}:∀(l:List α),(∀ x∈l,f x<=g x)->(l.map f).sum<=(l.map g).sum
 | [],_=>Nat.le_refl _
 | a::l,h=>by
  have:=h a List.mem_cons_self
  have:=xc l λx hx=>h x (List.mem_cons_of_mem _ hx)
  simp only [List.map_cons,List.sum_cons]
  omega
theorem xb {α:Type} {f g:α->Nat}:∀(l:List α) {x:α},(∀ x∈l,f x<=g x)->x∈l->f x+1<=g x->(l.map f).sum+1<=(l.map g).sum
 | a::l,x,h,hx,k=>by
  have h1:=h a List.mem_cons_self
  have h2:=λx hx=>h x (List.mem_cons_of_mem a hx)
  simp only [List.map_cons,List.sum_cons]
  rcases List.mem_cons.mp hx with rfl | z
  ·have:=xc l h2;omega
  ·have:=xb l h2 z k;omega
theorem TnL.cut {Ls:List (List Row)} {d:Nat} {h:List T3} (T:TnL Ls d h) {rows:List Row} (hm:rows∈Ls) (ok:∀(i:Nat) (r:Row),rows[i]?=some r->r.Ok i) (few:rows.length<=60) {k:Nat} {t:T3} (e:run h rows []=.mixed k t):R3 61 t/\∃ d',d=d'+1/\TnL Ls d' (low t h)/\TnL Ls d' (high t h):=by
 obtain ⟨i,r,hr,ek,fr⟩:=pS rows [] k t e
 have ek:k=i:=by rw [ek];simp
 subst ek
 have hk:k < rows.length:=(List.getElem?_eq_some_iff.mp hr).1
 have bt:R3 61 t:=((run_b (h:=h) rows [] (λ_ _ z=>by simp at z) (λi r hr=>by simpa using ok i r hr)).1 k t e).mono (by omega)
 obtain ⟨⟨p2,hp2,ep2⟩,p1,hp1,ep1⟩:=mP rows [] k t e
 have cut:=zP T.hk (bt.mono (by decide)) hp1 hp2 ep1 ep2
 obtain ⟨X,W1,W2⟩:=wk_cut T.hk hp1 hp2 ep1 ep2
 have e1:∀ i,tv t h i=1*tl t (cor h i):=λi=>(Int.one_mul _).symm
 have e2:∀ i,tn t h i = -1*tl t (cor h i):=λi=>by show - tl t _=_;omega
 have t1:=rB W1 e1
 have t2:=rB W2 e2
 have c1:∀ c∈low t h,gZ h c:=jZ T.hk
 have c2:∀ c∈high t h,gZ h c:=jZ T.hk
 have l1:=cut.ll
 have l2:=cut.lh
 have ln:=T.ln
 have nd:=T.nd
 have n1:=xb (f:=need (low t h)) (g:=need h) Ls (λx _=>vG c1 x) hm (vH c1 e (.inl λc hc=>by have:=t1 c hc;omega))
 have n2:=xb (f:=need (high t h)) (g:=need h) Ls (λx _=>vG c2 x) hm (vH c2 e (.inr λc hc=>by have:=t2 c hc;omega))
 exact ⟨bt,d - 1,by omega,⟨cut.lo,by omega,by omega⟩,⟨cut.hi,by omega,by omega⟩⟩
end Hu
end Mine
set_option maxHeartbeats 4000000
namespace L2
open PySem PySem.Spec PyProof.Rows
noncomputable def tDead:TS:=λ_ _ _=>False
theorem ps_dead {X:Cx} {s:Stmt}:PS X s tDead:=λ_ _ _ _ _ _ h=>h.elim
theorem Bs {X:Cx} (hc:X.calm=true):ft X (.builtin "sum") (λxs H Q=>∃(l:Addr) (ns:List Int),xs=[.ref l]/\SqL X.K H l (ns.map V.int)/\Q (.int ns.sum) H):=by
 intro pins s σ H xs us Q I r h
 obtain ⟨l,ns,rfl,hq,q⟩:=h
 obtain ⟨u,rfl,rx⟩:=vals1 r
 cases rx
 obtain ⟨its,rv,pl,_⟩:=I.list hq
 have hi:IntsAre its ns:=intsAre_of rv
 have hl:=pl.isList
 obtain ⟨ys,e⟩:=hi.allInts.items
 have en:ns=ys.toList.map (·.1):=by rw [<- hi.numsOf,<- nums_intItems,<- e]
 rw [e] at hl
 refine sum_intListG (I.ok.hd hc) hl λh' tk t' hk=>?_
 have es:preSum (numAt ys) ys.size=ns.sum:=by rw [preSum_eq,<- en,List.take_of_length_le (by rw [en];simp)]
 rw [es]
 exact ⟨.int ns.sum,H,I.kept hk,⟨t',rfl⟩,q⟩
section
variable {X:Cx} {pins:List (Addr×Obj)} {σ:St} {H:Hp} {s:Shared} {scope:Scope} {cl:List (Str×Addr)} {x:Str} {js:List Nat} {fp:List Addr}
end
section
variable {X:Cx} {elt iter:Expr} {x:Str} {px pos:Pos} {ifs:List Expr} {scope:Scope} {cl:List (Str×Addr)} {wi:TI} {tc:TT} {te:TE} {js:List Nat}
end
open PySem.Calls PySem.W
section
variable {P:Program} {w:World} {K:PySem.W.Frag} {mg:Str->Option Value} {base:Heap} {N:List Str} {qual:Str} {scope:Scope} {f:Addr} {cd:Value} {A:Around} {outer:List Env} {s:Shared} {H:Hp} {E:XK}
theorem Dy:Passes (CXr P w) (cS (CXr P w) P w K mg base N qual scope f cd A outer s H E) E:=by
 intro pins σ H1 s1 e s' I hq
 obtain ⟨ea,C,H2,rfl,⟨t,B,ho,hgn,un,hok,fl,h0,h1,cov⟩,q⟩:=hq
 have hthere:∀ b o,s.heap.get? b=some o->∃ o',s1.heap.get? b=some o':=λb o z=>I.base.there b o z (λz=>nomatch z)
 show wpAny (model P w) (A.deeper (envOfC qual scope s.heap.objs.size f cd)) (leaving (envOfC qual scope s.heap.objs.size f cd) (.ref ea)) _ _ _
 refine wpAny_leaves_onW I.ok.frames rfl fl λg fl2 up=>?_
 have I2:Inv (cS (CXr P w) P w K mg base N qual scope f cd A outer s H E) pins σ H2 {s' with heap:=g,toks:=s'.toks}:=I.caught (C:=C) (ea:=ea) (t:=ea) ho hgn un hok cov fl2.1 up
 have new:s.heap.get? ea=none:=by
  cases z:s.heap.get? ea with
  | none=>rfl
  | some o=>obtain ⟨o',e'⟩:=hthere ea o z;rw [h1] at e';cases e'
 refine ⟨ea,C,H2,rfl,⟨t,B,I2.os,I2.bare,I2.base,I2.hok,fl2,h0,new,λb o z n hb=>?_⟩,q⟩
 have nf:b ∉ frs (envOfC qual scope s.heap.objs.size f cd::outer):=λk=>by
  rcases hb with ⟨u,hu⟩ | ⟨o',ho'⟩
  ·have:=I2.stkFree b k
   rw [hu] at this;cases this
  ·exact (List.mem_cons.mp (I.stkSub b k)).elim (λy=>absurd (Nat.lt_of_lt_of_le (Heap.lt_size ho') I.ok.above) (by rw [y];exact Nat.lt_irrefl _)) n
 have key:(∃ o1,s'.heap.get? b=some o1)/\((∃ u,H2 b=some u)\/∃ o',s1.heap.get? b=some o'):=by
  rcases hb with ⟨u,hu⟩ | ⟨o',ho'⟩
  ·exact ⟨(hok b u hu).there,.inl ⟨u,hu⟩⟩
  ·obtain ⟨o2,e2⟩:=hthere b o' ho'
   exact ⟨un.there b o2 e2 (λz=>nomatch z),.inr ⟨o2,e2⟩⟩
 obtain ⟨⟨o1,e1⟩,k2⟩:=key
 have e2:=cov b o1 e1 nf k2
 have e3:=fl2.1 b o1 e2
 have e4:some o=some o1:=z.symm.trans e3
 cases e4
 exact e2
theorem pe_defR {n:Nat} {x:Str} {ps:List Str} {sp:Sp} {e:Expr} {es:List Expr} {t:TA} {p pos:Pos} (D:wH P w K mg base n x ps sp) (hr:cX n (cS (CXr P w) P w K mg base N qual scope f cd A outer s H E).A) (hg:Gl (cS (CXr P w) P w K mg base N qual scope f cd A outer s H E) x) (ha:PA (cS (CXr P w) P w K mg base N qual scope f cd A outer s H E) (e::es) t)
  (hdb:(x == ("__debug__":Str))=false:=by decide) (he:starEach (e::es) (envOfC qual scope s.heap.objs.size f cd)=(false,eval e (envOfC qual scope s.heap.objs.size f cd))::starEach es (envOfC qual scope s.heap.objs.size f cd):=by rfl) (hpl:(backTo pos (starEach es (envOfC qual scope s.heap.objs.size f cd))).any (·.1)=false:=by rfl) :
  PE (cS (CXr P w) P w K mg base N qual scope f cd A outer s H E) (.Call (.Name x p) (e::es) [] pos) (oO sp [] E t):=by
 obtain ⟨g,fd,F,b,kp,m⟩:=D.ex
 exact tH F hr hg m kp b .nil Dy ha hdb he hpl
end
variable {X:Cx}
noncomputable def plainArg (e:Expr):Bool:=match e with
 | .Starred _ _=>false
 | _=>true
theorem iX {e:Expr} {es:List Expr} {env:Env} (h:plainArg e=true):starEach (e::es) env=(false,eval e env)::starEach es env:=by
 cases e <;> first | rfl | cases h
theorem paS {e:Expr} {es:List Expr} {te:TE} {t:TA} (ha:PE X e te) (hr:PA X es t) (h:plainArg e=true:=by rfl):PA X (e::es) (eA te t):=aa ha hr (iX h)
section
variable {prog:Program} {w:World} {A:Around} {E:Value->Shared->Prop} {h:Heap} {g:Array GenState} {d:Drawn} {t:Nat} {os:OsState}
variable {C fI:Addr} {bmB:List Value} {B newId initId:String}
end
section
variable {M:Model} {A:Around} {E:Value->Shared->Prop} {s:Shared} {base:Heap} {env:Env} {outer l:List Env} {L e:Addr} {cl fl:Value} {dc:Option Addr} {Q:Unit->Shared->Prop}
end
open PySem.Builtin PySem.Builtin.ObjectAttr
section
variable {prog:Program} {w:World} {A:Around} {s:Shared} {K:Frag} {x C:Addr} {ox:Obj} {od:Option Obj} {name:Str} {v:Value}
end
section
variable {P:Program} {w:World} {H:Hp} {h:Heap} {e C d:Addr} {dc:Option Addr} {fs:List (Str×V)}
end
section
variable {X:Cx} {pins:List (Addr×Obj)} {σ:St} {H:Hp} {s:Shared} {a C d:Addr} {fs:List (Str×V)} {f:Str} {y:V} {u:Value} {A:Around} {E:Value->Shared->Prop} {Q:Unit->Shared->Prop}
end
section
variable {X:Cx} {k:Nat} {f C:Addr} {fd:FuncData} {ps:List Str} {sp:Sp} {x:Str} {p pos:Pos} {e:Expr} {es:List Expr} {t:TA}
end
section
variable {P:Program} {w:World} {K:PySem.W.Frag} {mg:Str->Option Value} {base:Heap} {N:List Str} {qual:Str} {scope:Scope} {f:Addr} {cd:Value} {A:Around} {outer:List Env} {s:Shared} {H:Hp} {E:XK}
end
open PySem.Builtin.Getset_descriptor
section
variable {P:Program} {w:World} {K:PySem.W.Frag} {mg:Str->Option Value} {base:Heap} {N:List Str} {qual:Str} {scope:Scope} {f:Addr} {cd:Value} {A:Around} {outer:List Env} {s:Shared} {H:Hp} {E:XK}
end
section
variable {X:Cx}
end
section
variable {P:Program} {w:World} {K:PySem.W.Frag} {mg:Str->Option Value} {base:Heap} {N:List Str} {qual:Str} {scope:Scope} {f:Addr} {cd:Value} {A:Around} {outer:List Env} {s:Shared} {H:Hp} {E:XK}
end
section
variable {P:Program} {w:World} {K:PySem.W.Frag} {mg:Str->Option Value} {base:Heap} {N:List Str} {qual:Str} {scope:Scope} {f:Addr} {cd:Value} {A:Around} {outer:List Env} {s:Shared} {H:Hp} {E:XK}
end
end L2
namespace Mine
open PySem L2
noncomputable def top (i:Nat):Stmt:=PySem.Challenge.pw_leansay_k50_whole_least_worths.main.body.getD i (.Pass ⟨0,0,0,0⟩)
noncomputable abbrev bU:Stmt:=inClass (top 23) 0
noncomputable abbrev ck:Stmt:=inClass (top 23) 1
noncomputable abbrev eJ:Stmt:=inClass (top 23) 2
noncomputable abbrev kA:Stmt:=inClass (top 23) 3
noncomputable abbrev gk:Stmt:=inClass (top 23) 4
noncomputable abbrev jA:Stmt:=inClass (top 23) 5
noncomputable abbrev cJ:Stmt:=inClass (top 23) 6
noncomputable abbrev cE:Stmt:=inClass (top 24) 0
noncomputable abbrev fO:Stmt:=inClass (top 24) 1
noncomputable abbrev cy:Stmt:=inClass (top 25) 0
noncomputable abbrev eP:Stmt:=inClass (top 25) 1
noncomputable abbrev fQ:Stmt:=inClass (top 26) 0
noncomputable abbrev bD:Stmt:=inClass (top 26) 1
noncomputable abbrev cK:Stmt:=inClass (top 26) 2
noncomputable abbrev ja:Stmt:=inClass (top 27) 0
noncomputable abbrev fN:Stmt:=inClass (top 27) 1
noncomputable abbrev cV:Stmt:=inClass (top 27) 2
noncomputable abbrev gv:Stmt:=inClass (top 27) 3
noncomputable abbrev hV:Stmt:=inClass (top 27) 4
noncomputable abbrev hX:Stmt:=inClass (top 28) 0
noncomputable abbrev eO:Stmt:=inClass (top 28) 1
noncomputable abbrev fS:Stmt:=inClass (top 28) 2
noncomputable abbrev gw:Stmt:=inClass (top 28) 3
noncomputable abbrev cO:Stmt:=inClass (top 29) 0
noncomputable abbrev fP:Stmt:=inClass (top 29) 1
noncomputable abbrev cP:Stmt:=inClass (top 30) 0
noncomputable abbrev fR:Stmt:=inClass (top 30) 1
noncomputable abbrev bY:Stmt:=inClass (top 31) 0
noncomputable abbrev dk:Stmt:=inClass (top 31) 1
noncomputable abbrev cw:Stmt:=inClass (top 32) 0
noncomputable abbrev dN:Stmt:=inClass (top 32) 1
noncomputable abbrev cF:Stmt:=inClass (top 33) 0
noncomputable abbrev eM:Stmt:=inClass (top 33) 1
noncomputable abbrev sLaid:Stmt:=eJ
noncomputable abbrev sOut:Stmt:=gk
noncomputable abbrev gj:Stmt:=top 8
noncomputable abbrev kK:Stmt:=top 9
noncomputable abbrev xi:Stmt:=top 10
noncomputable abbrev lH:Stmt:=top 12
noncomputable abbrev mI:Stmt:=top 13
noncomputable abbrev cq:Stmt:=top 14
noncomputable abbrev bO:Stmt:=top 15
noncomputable abbrev jx:Stmt:=top 16
noncomputable abbrev kI:Stmt:=top 18
noncomputable abbrev dR:Stmt:=top 19
noncomputable abbrev gh:Stmt:=top 20
noncomputable abbrev sI:Stmt:=top 21
noncomputable abbrev fB:Stmt:=top 35
noncomputable abbrev pG:Stmt:=top 41
noncomputable abbrev iL:Stmt:=top 42
noncomputable abbrev jw:Stmt:=top 43
noncomputable abbrev iu:Stmt:=top 44
noncomputable abbrev jz:Stmt:=top 45
noncomputable abbrev jy:Stmt:=top 46
noncomputable abbrev gf:Stmt:=top 47
noncomputable abbrev kJ:Stmt:=top 51
noncomputable abbrev ip:Stmt:=top 52
noncomputable abbrev mH:Stmt:=top 53
noncomputable abbrev mM:Stmt:=top 54
noncomputable abbrev ir:Stmt:=top 56
noncomputable abbrev Aq:Stmt:=top 58
noncomputable abbrev sL:Stmt:=top 58
noncomputable abbrev CB:Stmt:=top 59
noncomputable abbrev sNext:Stmt:=top 59
noncomputable abbrev xj:Stmt:=top 60
noncomputable abbrev jV:Stmt:=top 60
noncomputable abbrev xk:Stmt:=top 61
noncomputable abbrev yZ:Stmt:=top 61
noncomputable abbrev iN:Stmt:=top 62
noncomputable abbrev CD:Stmt:=top 63
noncomputable abbrev CI:Stmt:=top 63
noncomputable abbrev Ap:Stmt:=top 64
noncomputable abbrev CG:Stmt:=top 64
noncomputable abbrev mJ:Stmt:=top 65
noncomputable abbrev fV:Stmt:=top 66
noncomputable abbrev mK:Stmt:=top 67
noncomputable abbrev de:Stmt:=top 68
noncomputable abbrev cN:Stmt:=top 69
noncomputable abbrev lI:Stmt:=top 70
noncomputable abbrev gM:Stmt:=top 71
noncomputable abbrev mL:Stmt:=top 72
noncomputable abbrev iM:Stmt:=top 73
noncomputable abbrev s_l_holds : Stmt := top 74
noncomputable abbrev gi:Stmt:=top 75
noncomputable abbrev eI:Stmt:=top 76
noncomputable abbrev sJ:Stmt:=top 77
noncomputable abbrev vm:Stmt:=top 78
noncomputable abbrev sLaw:Stmt:=top 78
section
variable {P:Program} {w:World} {K:PySem.W.Frag} {mg:Str->Option Value} {base:Heap}
theorem pA:aA ["self","name"] ["self","name"] (ah fQ):=L2.fsc rfl (by decide +kernel)
theorem xE {x:Str} {C:Addr} (T:MkF K mg x C "Letter.__init__" fQ) (n:fh K C "name"):qw P w K mg base x C 1 ["self","name"] (jS C lX):=by
 refine DV T pA (λ_ _ _ _ _ _=>L2.ar2 λ_ _=>rfl) (λvs H Q E h=>?_) (λf cdv A outer s H vs Q E hr h=>?_)
 ·obtain ⟨a,dx,y,rfl,e,q⟩:=h
  rfl
 obtain ⟨a,dx,y,rfl,e,q⟩:=h
 have nd:=pA.nd
 refine ⟨_,(ak (sX (pv 0) (pv 1) rfl)),?_⟩
 exact ⟨_,rfl,_,rfl,a,C,dx,[],rfl,e,T.cl,n,(by show 0 < 1000;decide),q⟩
theorem yX:aA ["self","part"] ["self","part"] (ah ja):=L2.fsc rfl (by decide +kernel)
theorem ok_iNot {x:Str} {C:Addr} (T:MkF K mg x C "Not.__init__" ja) (n:fh K C "part"):qw P w K mg base x C 1 ["self","part"] (jS C qi):=by
 refine DV T yX (λ_ _ _ _ _ _=>L2.ar2 λ_ _=>rfl) (λvs H Q E h=>?_) (λf cdv A outer s H vs Q E hr h=>?_)
 ·obtain ⟨a,dx,y,rfl,e,q⟩:=h
  rfl
 obtain ⟨a,dx,y,rfl,e,q⟩:=h
 have nd:=yX.nd
 refine ⟨_,(ak (sX (pv 0) (pv 1) rfl)),?_⟩
 exact ⟨_,rfl,_,rfl,a,C,dx,[],rfl,e,T.cl,n,(by show 0 < 1000;decide),q⟩
theorem vh:aA ["self","one","other"] ["self","one","other"] (ah hX):=L2.fsc rfl (by decide +kernel)
theorem DM {x:Str} {C:Addr} (T:MkF K mg x C "Fold.__init__" hX) (n:fh K C "one") (n':fh K C "other"):qw P w K mg base x C 1 ["self","one","other"] (sG C):=by
 refine DV T vh (λ_ _ _ _ _ _=>L2.ar3 λ_ _ _=>rfl) (λvs H Q E h=>?_) (λf cdv A outer s H vs Q E hr h=>?_)
 ·obtain ⟨a,dx,y,z,rfl,e,q⟩:=h
  rfl
 obtain ⟨a,dx,y,z,rfl,e,q⟩:=h
 have nd:=vh.nd
 refine ⟨_,(ag (sX (pv 0) (pv 1) rfl)
  (ak (sX (pv 0) (pv 2) rfl))),?_⟩
 refine ⟨_,rfl,_,rfl,a,C,dx,[],rfl,e,T.cl,n,(by show 0 < 1000;decide),?_⟩
 refine ⟨_,rfl,_,rfl,a,C,dx,_,rfl,ae,T.cl,n',(by show 1 < 1000;decide),?_⟩
 rw [Dj,og]
 exact q
theorem sc_mS:aA ["self"] ["self"] (ah bU):=L2.fsc rfl (by decide +kernel)
theorem zm {c:CCs} {C:Addr} {t:Tr} (T:aR K C "made_of" "Saying.made_of" bU) (ht:t.kids=[]):aT P w K mg base C "made_of" 1 ["self"] (sF c t):=by
 refine bj T sc_mS (λ_ _ _ _ _ _=>L2.ar1 λ_=>rfl) (λvs H Q E h=>?_) (λf cdv A outer s H vs Q E hr h=>?_)
 ·obtain ⟨a,rfl,o,q⟩:=h
  rfl
 obtain ⟨a,rfl,o,q⟩:=h
 have nd:=sc_mS.nd
 refine ⟨_,(ak (av (bF af))),?_⟩
 refine ⟨(by show 0<=sizeLine;decide),λl hl=>q l [] hl ?_⟩
 rw [ht]
 exact .nil
theorem yU:aA ["self"] ["self"] (ah fN):=L2.fsc rfl (by decide +kernel)
theorem ok_mNot {c:CCs} {t:Tr} (T:aR K c.no "made_of" "Not.made_of" fN) (F:Fx K c):aT P w K mg base c.no "made_of" 1 ["self"] (sF c (.no t)):=by
 refine bj T yU (λ_ _ _ _ _ _=>L2.ar1 λ_=>rfl) (λvs H Q E h=>?_) (λf cdv A outer s H vs Q E hr h=>?_)
 ·obtain ⟨a,rfl,o,q⟩:=h
  rfl
 obtain ⟨a,rfl,o,q⟩:=h
 have nd:=yU.nd
 refine ⟨_,(ak (av (bF (aa (iw (pv 0) rfl) af)))),?_⟩
 cases o with
 | no e o =>
  refine ⟨_,rfl,a,c.no,_,_,_,rfl,e,T.cl,F.nPart,rE _,(by show 1<=sizeLine;decide),λl hl=>q l _ hl ?_⟩
  exact .cons ⟨_,rfl,o⟩ .nil
theorem va:aA ["self"] ["self"] (ah eO):=L2.fsc rfl (by decide +kernel)
theorem DK {c:CCs} {u:W5} {t t':Tr} (T:aR K (c.fold u) "made_of" "Fold.made_of" eO) (F:Fx K c):aT P w K mg base (c.fold u) "made_of" 1 ["self"] (sF c (.fold u t t')):=by
 refine bj T va (λ_ _ _ _ _ _=>L2.ar1 λ_=>rfl) (λvs H Q E h=>?_) (λf cdv A outer s H vs Q E hr h=>?_)
 ·obtain ⟨a,rfl,o,q⟩:=h
  rfl
 obtain ⟨a,rfl,o,q⟩:=h
 have nd:=va.nd
 refine ⟨_,(ak (av (bF (aa (iw (pv 0) rfl) (aa (iw (pv 0) rfl) af))))),?_⟩
 cases o with
 | fold e o o' =>
  refine ⟨_,rfl,a,_,_,_,_,rfl,e,T.cl,F.nOne u,vW _ _,_,rfl,a,_,_,_,_,rfl,e,T.cl,F.nOther u,pW _ _,(by show 2<=sizeLine;decide),λl hl=>q l _ hl ?_⟩
  exact .cons ⟨_,rfl,o⟩ (.cons ⟨_,rfl,o'⟩ .nil)
theorem rh:aA ["self"] ["self"] (ah cE):=L2.fsc rfl (by decide +kernel)
theorem Az {c:CCs} {C:Addr} (T:aR K C "making_word" "Never.making_word" cE):aT P w K mg base C "making_word" 1 ["self"] (eB c .never):=by
 refine bj T rh (λ_ _ _ _ _ _=>L2.ar1 λ_=>rfl) (λvs H Q E h=>?_) (λf cdv A outer s H vs Q E hr h=>?_)
 ·obtain ⟨a,rfl,o,q⟩:=h
  rfl
 obtain ⟨a,rfl,o,q⟩:=h
 have nd:=rh.nd
 refine ⟨_,(ak (av aM)),?_⟩
 exact q
theorem oZ:aA ["self"] ["self"] (ah cy):=L2.fsc rfl (by decide +kernel)
theorem xB {c:CCs} {C:Addr} (T:aR K C "making_word" "Always.making_word" cy):aT P w K mg base C "making_word" 1 ["self"] (eB c .always):=by
 refine bj T oZ (λ_ _ _ _ _ _=>L2.ar1 λ_=>rfl) (λvs H Q E h=>?_) (λf cdv A outer s H vs Q E hr h=>?_)
 ·obtain ⟨a,rfl,o,q⟩:=h
  rfl
 obtain ⟨a,rfl,o,q⟩:=h
 have nd:=oZ.nd
 refine ⟨_,(ak (av aM)),?_⟩
 exact q
theorem Cy:aA ["self"] ["self"] (ah bD):=L2.fsc rfl (by decide +kernel)
theorem ok_wLp {c:CCs} (T:aR K c.le "making_word" "Letter.making_word" bD) (F:Fx K c):aT P w K mg base c.le "making_word" 1 ["self"] (eB c .lp):=by
 refine bj T Cy (λ_ _ _ _ _ _=>L2.ar1 λ_=>rfl) (λvs H Q E h=>?_) (λf cdv A outer s H vs Q E hr h=>?_)
 ·obtain ⟨a,rfl,o,q⟩:=h
  rfl
 obtain ⟨a,rfl,o,q⟩:=h
 have nd:=Cy.nd
 refine ⟨_,(ak (av (iw (pv 0) rfl))),?_⟩
 cases o with
 | lp e=>exact ⟨_,rfl,a,_,_,_,_,rfl,e,T.cl,F.nName,ke _,q⟩
theorem Cw:aA ["self"] ["self"] (ah bD):=L2.fsc rfl (by decide +kernel)
theorem ok_wLq {c:CCs} (T:aR K c.le "making_word" "Letter.making_word" bD) (F:Fx K c):aT P w K mg base c.le "making_word" 1 ["self"] (eB c .lq):=by
 refine bj T Cw (λ_ _ _ _ _ _=>L2.ar1 λ_=>rfl) (λvs H Q E h=>?_) (λf cdv A outer s H vs Q E hr h=>?_)
 ·obtain ⟨a,rfl,o,q⟩:=h
  rfl
 obtain ⟨a,rfl,o,q⟩:=h
 have nd:=Cw.nd
 refine ⟨_,(ak (av (iw (pv 0) rfl))),?_⟩
 cases o with
 | lq e=>exact ⟨_,rfl,a,_,_,_,_,rfl,e,T.cl,F.nName,ke _,q⟩
theorem yQ:aA ["self"] ["self"] (ah cV):=L2.fsc rfl (by decide +kernel)
theorem ok_wNot {c:CCs} {C:Addr} {t:Tr} (T:aR K C "making_word" "Not.making_word" cV):aT P w K mg base C "making_word" 1 ["self"] (eB c (.no t)):=by
 refine bj T yQ (λ_ _ _ _ _ _=>L2.ar1 λ_=>rfl) (λvs H Q E h=>?_) (λf cdv A outer s H vs Q E hr h=>?_)
 ·obtain ⟨a,rfl,o,q⟩:=h
  rfl
 obtain ⟨a,rfl,o,q⟩:=h
 have nd:=yQ.nd
 refine ⟨_,(ak (av aM)),?_⟩
 exact q
theorem uW:aA ["self"] ["self"] (ah cO):=L2.fsc rfl (by decide +kernel)
theorem DE {c:CCs} {C:Addr} {t t':Tr} (T:aR K C "making_word" "More.making_word" cO):aT P w K mg base C "making_word" 1 ["self"] (eB c (.fold .more t t')):=by
 refine bj T uW (λ_ _ _ _ _ _=>L2.ar1 λ_=>rfl) (λvs H Q E h=>?_) (λf cdv A outer s H vs Q E hr h=>?_)
 ·obtain ⟨a,rfl,o,q⟩:=h
  rfl
 obtain ⟨a,rfl,o,q⟩:=h
 have nd:=uW.nd
 refine ⟨_,(ak (av aM)),?_⟩
 exact q
theorem vj:aA ["self","n","first","second"] ["self","n","first","second"] (ah fP):=L2.fsc rfl (by decide +kernel)
theorem DP {C:Addr} (T:aR K C "folded" "More.folded" fP) (bN:mg "min"=none):aT P w K mg base C "folded" 1 ["self","n","first","second"] (gJ .more):=by
 refine bj T vj (λ_ _ _ _ _ _=>L2.ar4 λ_ _ _ _=>rfl) (λvs H Q E h=>?_) (λf cdv A outer s H vs Q E hr h=>?_)
 ·obtain ⟨a,n,i,j,rfl,q⟩:=h
  rfl
 obtain ⟨a,n,i,j,rfl,q⟩:=h
 have nd:=vj.nd
 refine ⟨_,(ak (av (aB (fK rfl) rfl bN (by decide +kernel) (aa (aK bR (pv 2) (pv 3)) (aa (pv 1) af))))),?_⟩
 refine ⟨_,rfl,_,rfl,_,_,rfl,rfl,_,rfl,_,_,rfl,?_⟩
 rw [je]
 exact q
theorem uX:aA ["self"] ["self"] (ah cP):=L2.fsc rfl (by decide +kernel)
theorem DF {c:CCs} {C:Addr} {t t':Tr} (T:aR K C "making_word" "Less.making_word" cP):aT P w K mg base C "making_word" 1 ["self"] (eB c (.fold .less t t')):=by
 refine bj T uX (λ_ _ _ _ _ _=>L2.ar1 λ_=>rfl) (λvs H Q E h=>?_) (λf cdv A outer s H vs Q E hr h=>?_)
 ·obtain ⟨a,rfl,o,q⟩:=h
  rfl
 obtain ⟨a,rfl,o,q⟩:=h
 have nd:=uX.nd
 refine ⟨_,(ak (av aM)),?_⟩
 exact q
theorem vk:aA ["self","n","first","second"] ["self","n","first","second"] (ah fR):=L2.fsc rfl (by decide +kernel)
theorem DQ {C:Addr} (T:aR K C "folded" "Less.folded" fR) (bZ:mg "max"=none):aT P w K mg base C "folded" 1 ["self","n","first","second"] (gJ .less):=by
 refine bj T vk (λ_ _ _ _ _ _=>L2.ar4 λ_ _ _ _=>rfl) (λvs H Q E h=>?_) (λf cdv A outer s H vs Q E hr h=>?_)
 ·obtain ⟨a,n,i,j,rfl,q⟩:=h
  rfl
 obtain ⟨a,n,i,j,rfl,q⟩:=h
 have nd:=vk.nd
 refine ⟨_,(ak (av (aB (iU rfl) rfl bZ (by decide +kernel) (aa (aK eU (aK bR (pv 2) (pv 3)) (pv 1)) (ia af))))),?_⟩
 refine ⟨_,rfl,_,rfl,_,_,rfl,rfl,_,rfl,_,_,rfl,rfl,_,_,rfl,?_⟩
 rw [kP]
 exact q
theorem nB:aA ["self"] ["self"] (ah bY):=L2.fsc rfl (by decide +kernel)
theorem vA {c:CCs} {C:Addr} {t t':Tr} (T:aR K C "making_word" "Greater.making_word" bY):aT P w K mg base C "making_word" 1 ["self"] (eB c (.fold .greater t t')):=by
 refine bj T nB (λ_ _ _ _ _ _=>L2.ar1 λ_=>rfl) (λvs H Q E h=>?_) (λf cdv A outer s H vs Q E hr h=>?_)
 ·obtain ⟨a,rfl,o,q⟩:=h
  rfl
 obtain ⟨a,rfl,o,q⟩:=h
 have nd:=nB.nd
 refine ⟨_,(ak (av aM)),?_⟩
 exact q
theorem nF:aA ["self","n","first","second"] ["self","n","first","second"] (ah dk):=L2.fsc rfl (by decide +kernel)
theorem vD {C:Addr} (T:aR K C "folded" "Greater.folded" dk) (bZ:mg "max"=none):aT P w K mg base C "folded" 1 ["self","n","first","second"] (gJ .greater):=by
 refine bj T nF (λ_ _ _ _ _ _=>L2.ar4 λ_ _ _ _=>rfl) (λvs H Q E h=>?_) (λf cdv A outer s H vs Q E hr h=>?_)
 ·obtain ⟨a,n,i,j,rfl,q⟩:=h
  rfl
 obtain ⟨a,n,i,j,rfl,q⟩:=h
 have nd:=nF.nd
 refine ⟨_,(ak (av (aB (iU rfl) rfl bZ (by decide +kernel) (aa (pv 2) (aa (pv 3) af))))),?_⟩
 refine ⟨_,rfl,_,rfl,_,_,rfl,?_⟩
 rw [kP]
 exact q
theorem oY:aA ["self"] ["self"] (ah cw):=L2.fsc rfl (by decide +kernel)
theorem xA {c:CCs} {C:Addr} {t t':Tr} (T:aR K C "making_word" "Lesser.making_word" cw):aT P w K mg base C "making_word" 1 ["self"] (eB c (.fold .lesser t t')):=by
 refine bj T oY (λ_ _ _ _ _ _=>L2.ar1 λ_=>rfl) (λvs H Q E h=>?_) (λf cdv A outer s H vs Q E hr h=>?_)
 ·obtain ⟨a,rfl,o,q⟩:=h
  rfl
 obtain ⟨a,rfl,o,q⟩:=h
 have nd:=oY.nd
 refine ⟨_,(ak (av aM)),?_⟩
 exact q
theorem pC:aA ["self","n","first","second"] ["self","n","first","second"] (ah dN):=L2.fsc rfl (by decide +kernel)
theorem xF {C:Addr} (T:aR K C "folded" "Lesser.folded" dN) (bN:mg "min"=none):aT P w K mg base C "folded" 1 ["self","n","first","second"] (gJ .lesser):=by
 refine bj T pC (λ_ _ _ _ _ _=>L2.ar4 λ_ _ _ _=>rfl) (λvs H Q E h=>?_) (λf cdv A outer s H vs Q E hr h=>?_)
 ·obtain ⟨a,n,i,j,rfl,q⟩:=h
  rfl
 obtain ⟨a,n,i,j,rfl,q⟩:=h
 have nd:=pC.nd
 refine ⟨_,(ak (av (aB (fK rfl) rfl bN (by decide +kernel) (aa (pv 2) (aa (pv 3) af))))),?_⟩
 refine ⟨_,rfl,_,rfl,_,_,rfl,?_⟩
 rw [je]
 exact q
theorem ri:aA ["self"] ["self"] (ah cF):=L2.fsc rfl (by decide +kernel)
theorem AB {c:CCs} {C:Addr} {t t':Tr} (T:aR K C "making_word" "Leads.making_word" cF):aT P w K mg base C "making_word" 1 ["self"] (eB c (.fold .leads t t')):=by
 refine bj T ri (λ_ _ _ _ _ _=>L2.ar1 λ_=>rfl) (λvs H Q E h=>?_) (λf cdv A outer s H vs Q E hr h=>?_)
 ·obtain ⟨a,rfl,o,q⟩:=h
  rfl
 obtain ⟨a,rfl,o,q⟩:=h
 have nd:=ri.nd
 refine ⟨_,(ak (av aM)),?_⟩
 exact q
theorem rp:aA ["self","n","first","second"] ["self","n","first","second"] (ah eM):=L2.fsc rfl (by decide +kernel)
theorem AN {C:Addr} (T:aR K C "folded" "Leads.folded" eM) (bN:mg "min"=none):aT P w K mg base C "folded" 1 ["self","n","first","second"] (gJ .leads):=by
 refine bj T rp (λ_ _ _ _ _ _=>L2.ar4 λ_ _ _ _=>rfl) (λvs H Q E h=>?_) (λf cdv A outer s H vs Q E hr h=>?_)
 ·obtain ⟨a,n,i,j,rfl,q⟩:=h
  rfl
 obtain ⟨a,n,i,j,rfl,q⟩:=h
 have nd:=rp.nd
 refine ⟨_,(ak (av (aB (fK rfl) rfl bN (by decide +kernel) (aa (aK bR (aK eU (pv 1) (pv 2)) (pv 3)) (aa (pv 1) af))))),?_⟩
 refine ⟨_,rfl,_,rfl,_,_,rfl,rfl,_,rfl,_,_,rfl,rfl,_,rfl,_,_,rfl,?_⟩
 rw [je]
 exact q
theorem yR:aA ["self"] ["self"] (ah ck):=L2.fsc rfl (by decide +kernel)
theorem oA {c:CCs} {t:Tr} (T:aR K (c.of t) "pieces" "Saying.pieces" ck) (ht:t.pieces=[.w t.word]) (G:aT P w K mg base (c.of t) "making_word" 1 ["self"] (eB c t)):aT P w K mg base (c.of t) "pieces" 2 ["self"] (lD c t):=by
 refine bj T yR (λ_ _ _ _ _ _=>L2.ar1 λ_=>rfl) (λvs H Q E h=>?_) (λf cdv A outer s H vs Q E hr h=>?_)
 ·obtain ⟨a,rfl,o,q⟩:=h
  rfl
 obtain ⟨a,rfl,o,q⟩:=h
 have nd:=yR.nd
 refine ⟨_,(ak (av (bF (aa (dA (k:=1) (pv 0) (hr.mono (by decide))) af)))),?_⟩
 obtain ⟨dx,fs,ea,nf⟩:=o.cls
 refine ⟨_,rfl,a,_,_,_,_,_,rfl,ea,nf _ (by decide +kernel),G,a,rfl,o,(by show 1<=sizeLine;decide),λl hl=>q l _ hl ?_⟩
 rw [ht]
 exact .cons (.w _) .nil
theorem yS:aA ["self"] ["self"] (ah gv):=L2.fsc rfl (by decide +kernel)
theorem ok_pNot {c:CCs} {t:Tr} (T:aR K c.no "pieces" "Not.pieces" gv) (F:Fx K c):aT P w K mg base c.no "pieces" 2 ["self"] (lD c (.no t)):=by
 refine bj T yS (λ_ _ _ _ _ _=>L2.ar1 λ_=>rfl) (λvs H Q E h=>?_) (λf cdv A outer s H vs Q E hr h=>?_)
 ·obtain ⟨a,rfl,o,q⟩:=h
  rfl
 obtain ⟨a,rfl,o,q⟩:=h
 have nd:=yS.nd
 refine ⟨_,(ak (av (bF (aa aM (aa (iw (pv 0) rfl) af))))),?_⟩
 cases o with
 | no e o=>exact ⟨_,rfl,a,_,_,_,_,rfl,e,T.cl,F.nPart,rE _,(by show 2<=sizeLine;decide),λl hl=>q l _ hl (.cons (.w _) (.cons (.t o) .nil))⟩
theorem uY:aA ["self"] ["self"] (ah fS):=L2.fsc rfl (by decide +kernel)
theorem DH {c:CCs} {u:W5} {t t':Tr} (T:aR K (c.fold u) "pieces" "Fold.pieces" fS) (F:Fx K c) (G:aT P w K mg base (c.fold u) "making_word" 1 ["self"] (eB c (.fold u t t'))):aT P w K mg base (c.fold u) "pieces" 2 ["self"] (lD c (.fold u t t')):=by
 refine bj T uY (λ_ _ _ _ _ _=>L2.ar1 λ_=>rfl) (λvs H Q E h=>?_) (λf cdv A outer s H vs Q E hr h=>?_)
 ·obtain ⟨a,rfl,o,q⟩:=h
  rfl
 obtain ⟨a,rfl,o,q⟩:=h
 have nd:=uY.nd
 refine ⟨_,(ak (av (bF (aa aM (aa (iw (pv 0) rfl) (aa (dA (k:=1) (pv 0) (hr.mono (by decide))) (aa (iw (pv 0) rfl) (aa aM af)))))))),?_⟩
 cases o with
 | fold e o o' =>
  refine ⟨_,rfl,a,_,_,_,_,rfl,e,T.cl,F.nOne u,vW _ _,_,rfl,a,_,_,_,_,_,rfl,e,fJ (by decide +kernel) (fJ (by decide +kernel) rfl),G,a,rfl,.fold e o o',?_⟩
  exact ⟨_,rfl,a,_,_,_,_,rfl,e,T.cl,F.nOther u,pW _ _,(by show 5<=sizeLine;decide),λl hl=>q l _ hl (.cons (.w _) (.cons (.t o) (.cons (.w _) (.cons (.t o') (.cons (.w _) .nil)))))⟩
theorem oX:aA ["self","worths","n","x","y"] ["self","worths","n","x","y"] (ah fO):=L2.fsc rfl (by decide +kernel)
theorem xy {c:CCs} {C:Addr} (T:aR K C "weigh" "Never.weigh" fO):aT P w K mg base C "weigh" 2 ["self","worths","n","x","y"] (iY c .never):=by
 refine bj T oX (λ_ _ _ _ _ _=>L2.ar5 λ_ _ _ _ _=>rfl) (λvs H Q E h=>?_) (λf cdv A outer s H vs Q E hr h=>?_)
 ·obtain ⟨a,l,n,i,j,R,R',rfl,o,e,hz,hs,q⟩:=h
  rfl
 obtain ⟨a,l,n,i,j,R,R',rfl,o,e,hz,hs,q⟩:=h
 have nd:=oX.nd
 refine ⟨_,(ak (bb (cD PySem.F.plainAttrs_list PySem.F.slot_list_append PySem.F.type_list_append aY (pv 1) (ia af)))),?_⟩
 have es:R'=(gG n i j).leaf .never::R:=iF hs rfl
 subst es
 refine ⟨_,rfl,.inl ⟨rfl,_,SqL.of e⟩,l,_,_,rfl,rfl,e,lC hz,?_⟩
 exact q _ (jv _ _) (by rw [ae];exact congrArg _ (congrArg _ (eQ _ _)))
theorem nA:aA ["self","worths","n","x","y"] ["self","worths","n","x","y"] (ah eP):=L2.fsc rfl (by decide +kernel)
theorem vz {c:CCs} {C:Addr} (T:aR K C "weigh" "Always.weigh" eP):aT P w K mg base C "weigh" 2 ["self","worths","n","x","y"] (iY c .always):=by
 refine bj T nA (λ_ _ _ _ _ _=>L2.ar5 λ_ _ _ _ _=>rfl) (λvs H Q E h=>?_) (λf cdv A outer s H vs Q E hr h=>?_)
 ·obtain ⟨a,l,n,i,j,R,R',rfl,o,e,hz,hs,q⟩:=h
  rfl
 obtain ⟨a,l,n,i,j,R,R',rfl,o,e,hz,hs,q⟩:=h
 have nd:=nA.nd
 refine ⟨_,(ak (bb (cD PySem.F.plainAttrs_list PySem.F.slot_list_append PySem.F.type_list_append aY (pv 1) (aa (pv 2) af)))),?_⟩
 have es:R'=(gG n i j).leaf .always::R:=iF hs rfl
 subst es
 refine ⟨_,rfl,.inl ⟨rfl,_,SqL.of e⟩,_,rfl,l,_,_,rfl,rfl,e,lC hz,?_⟩
 exact q _ (jv _ _) (by rw [ae];exact congrArg _ (congrArg _ (eQ _ _)))
theorem yP:aA ["self","worths","n","x","y"] ["self","worths","n","x","y"] (ah cK):=L2.fsc rfl (by decide +kernel)
theorem ok_wgLp {c:CCs} (T:aR K c.le "weigh" "Letter.weigh" cK) (F:Fx K c):aT P w K mg base c.le "weigh" 2 ["self","worths","n","x","y"] (iY c .lp):=by
 refine bj T yP (λ_ _ _ _ _ _=>L2.ar5 λ_ _ _ _ _=>rfl) (λvs H Q E h=>?_) (λf cdv A outer s H vs Q E hr h=>?_)
 ·obtain ⟨a,l,n,i,j,R,R',rfl,o,e,hz,hs,q⟩:=h
  rfl
 obtain ⟨a,l,n,i,j,R,R',rfl,o,e,hz,hs,q⟩:=h
 have nd:=yP.nd
 refine ⟨_,(ak (bb (cD PySem.F.plainAttrs_list PySem.F.slot_list_append PySem.F.type_list_append aY (pv 1) (aa (lR (aC bQ (iw (pv 0) rfl) aM (aF _)) (pv 3) (pv 4)) af)))),?_⟩
 have es:R'=(gG n i j).leaf .lp::R:=iF hs rfl
 subst es
 cases o with
 | lp eo =>
  refine ⟨_,rfl,.inl ⟨rfl,_,SqL.of e⟩,_,rfl,a,_,_,_,_,rfl,eo,T.cl,F.nName,ke _,rfl,_,rfl,?_⟩
  rw [is_pp]
  refine dI ⟨_,rfl,l,_,_,rfl,rfl,e,lC hz,?_⟩
  exact q _ (jv _ _) (by rw [ae];exact congrArg _ (congrArg _ (eQ _ _)))
theorem yO:aA ["self","worths","n","x","y"] ["self","worths","n","x","y"] (ah cK):=L2.fsc rfl (by decide +kernel)
theorem ok_wgLq {c:CCs} (T:aR K c.le "weigh" "Letter.weigh" cK) (F:Fx K c):aT P w K mg base c.le "weigh" 2 ["self","worths","n","x","y"] (iY c .lq):=by
 refine bj T yO (λ_ _ _ _ _ _=>L2.ar5 λ_ _ _ _ _=>rfl) (λvs H Q E h=>?_) (λf cdv A outer s H vs Q E hr h=>?_)
 ·obtain ⟨a,l,n,i,j,R,R',rfl,o,e,hz,hs,q⟩:=h
  rfl
 obtain ⟨a,l,n,i,j,R,R',rfl,o,e,hz,hs,q⟩:=h
 have nd:=yO.nd
 refine ⟨_,(ak (bb (cD PySem.F.plainAttrs_list PySem.F.slot_list_append PySem.F.type_list_append aY (pv 1) (aa (lR (aC bQ (iw (pv 0) rfl) aM (aF _)) (pv 3) (pv 4)) af)))),?_⟩
 have es:R'=(gG n i j).leaf .lq::R:=iF hs rfl
 subst es
 cases o with
 | lq eo =>
  refine ⟨_,rfl,.inl ⟨rfl,_,SqL.of e⟩,_,rfl,a,_,_,_,_,rfl,eo,T.cl,F.nName,ke _,rfl,_,rfl,?_⟩
  rw [is_qp]
  refine bB ⟨_,rfl,l,_,_,rfl,rfl,e,lC hz,?_⟩
  exact q _ (jv _ _) (by rw [ae];exact congrArg _ (congrArg _ (eQ _ _)))
theorem uV:aA ["self","worths","n","x","y"] ["self","worths","n","x","y"] (ah hV):=L2.fsc rfl (by decide +kernel)
theorem DD {c:CCs} {C:Addr} {t:Tr} (T:aR K C "weigh" "Not.weigh" hV):aT P w K mg base C "weigh" 2 ["self","worths","n","x","y"] (iY c (.no t)):=by
 refine bj T uV (λ_ _ _ _ _ _=>L2.ar5 λ_ _ _ _ _=>rfl) (λvs H Q E h=>?_) (λf cdv A outer s H vs Q E hr h=>?_)
 ·obtain ⟨a,l,n,i,j,R,R',rfl,o,e,hz,hs,q⟩:=h
  rfl
 obtain ⟨a,l,n,i,j,R,R',rfl,o,e,hz,hs,q⟩:=h
 have nd:=uV.nd
 refine ⟨_,(ak (bb (cD PySem.F.plainAttrs_list PySem.F.slot_list_append PySem.F.type_list_append aY (pv 1) (aa (aK eU (pv 2) (ix PySem.F.plainAttrs_list PySem.F.slot_list_pop PySem.F.type_list_pop jH (pv 1))) af)))),?_⟩
 obtain ⟨b,R1,rfl,rfl⟩:=yE hs
 have hz':R1.length < 1000:=hz
 have el:H l=some (.lst (R1.reverse.map V.int++[V.int b])):=by rw [e];exact congrArg _ (congrArg _ (eQ b R1).symm)
 refine ⟨_,rfl,.inl ⟨rfl,_,SqL.of el⟩,_,rfl,_,rfl,.inl ⟨rfl,_,SqL.of el⟩,l,_,_,rfl,rfl,el,iG _ _,?_⟩
 rw [List.dropLast_concat]
 refine ⟨_,_,rfl,rfl,l,_,_,rfl,rfl,ae,by rw [List.length_map,List.length_reverse];exact Nat.lt_trans hz' (by decide),?_⟩
 rw [og]
 exact q _ (jv _ _) (by rw [ae];exact congrArg _ (congrArg _ (eQ _ _)))
theorem rg:aA ["self","worths","n","x","y","second","first"] ["self","worths","n","x","y"] (ah gw):=L2.fsc rfl (by decide +kernel)
theorem Ay {c:CCs} {u:W5} {t t':Tr} (T:aR K (c.fold u) "weigh" "Fold.weigh" gw) (G:aT P w K mg base (c.fold u) "folded" 1 ["self","n","first","second"] (gJ u)):aT P w K mg base (c.fold u) "weigh" 2 ["self","worths","n","x","y"] (iY c (.fold u t t')):=by
 refine bj T rg (λ_ _ _ _ _ _=>L2.ar5 λ_ _ _ _ _=>rfl) (λvs H Q E h=>?_) (λf cdv A outer s H vs Q E hr h=>?_)
 ·obtain ⟨a,l,n,i,j,R,R',rfl,o,e,hz,hs,q⟩:=h
  rfl
 obtain ⟨a,l,n,i,j,R,R',rfl,o,e,hz,hs,q⟩:=h
 have nd:=rg.nd
 refine ⟨_,(ag (aJ (i:=5) nd rfl (Or.inl rfl) (ix PySem.F.plainAttrs_list PySem.F.slot_list_pop PySem.F.type_list_pop jH (pv 1)))
  (ag (aJ (i:=6) nd rfl (Or.inl rfl) (ix PySem.F.plainAttrs_list PySem.F.slot_list_pop PySem.F.type_list_pop jH (pv 1)))
  (ak (bb (cD PySem.F.plainAttrs_list PySem.F.slot_list_append PySem.F.type_list_append aY (pv 1) (aa (pM (k:=1) (pv 0) (hr.mono (by decide)) (aa (pv 2) (aa (pv 6) (aa (pv 5) af)))) af)))))),?_⟩
 obtain ⟨b2,b1,R1,rfl,rfl⟩:=qX hs
 have hz':R1.length+1 < 1000:=hz
 have el:H l=some (.lst (R1.reverse.map V.int++[V.int b1]++[V.int b2])):=by rw [e,eQ,eQ]
 obtain ⟨dx,fs,ea,nf⟩:=o.cls
 have nal:a≠l:=pP ea e (by intro z;cases z)
 refine ⟨_,rfl,.inl ⟨rfl,_,SqL.of el⟩,l,_,_,rfl,rfl,el,iG _ _,?_⟩
 rw [List.dropLast_concat]
 refine ⟨_,rfl,.inl ⟨rfl,_,SqL.of ae⟩,l,_,_,rfl,rfl,ae,iG _ _,?_⟩
 rw [List.dropLast_concat,og]
 refine ⟨_,rfl,.inl ⟨rfl,_,SqL.of ae⟩,_,rfl,a,_,_,_,_,_,rfl,by rw [au nal];exact ea,nf _ (by decide +kernel),G,_,rfl,_,rfl,_,rfl,a,n,b1,b2,rfl,?_⟩
 refine ⟨l,_,_,rfl,rfl,ae,by rw [List.length_map,List.length_reverse];exact Nat.lt_trans (Nat.lt_of_succ_lt hz') (by decide),?_⟩
 rw [og]
 exact q _ (jv _ _) (by rw [ae];exact congrArg _ (congrArg _ (eQ _ _)))
end
noncomputable abbrev nQ:List Str:=["one","other","greater","lesser","rest"]
theorem iK:aA nQ ["one","other"] (ah gj):=L2.fsc rfl (by decide +kernel)
noncomputable abbrev xI:List Str:=["top","bottom","factor"]
theorem nE:aA xI ["top","bottom"] (ah kK):=L2.fsc rfl (by decide +kernel)
noncomputable abbrev n_less:List Str:=["one","other"]
theorem yV:aA n_less ["one","other"] (ah xi):=L2.fsc rfl (by decide +kernel)
noncomputable abbrev DT:List Str:=[]
theorem Ao:aA DT [] (ah lH):=L2.fsc rfl (by decide +kernel)
noncomputable abbrev AV:List Str:=["rule","point"]
theorem pd:aA AV ["rule","point"] (ah mI):=L2.fsc rfl (by decide +kernel)
noncomputable abbrev lU:List Str:=["rule","hull"]
theorem gK:aA lU ["rule","hull"] (ah cq):=L2.fsc rfl (by decide +kernel)
noncomputable abbrev mV:List Str:=["one","other","at_one","at_other","numbers","factor"]
theorem hU:aA mV ["one","other","at_one","at_other"] (ah bO):=L2.fsc rfl (by decide +kernel)
noncomputable abbrev vN:List Str:=["hull","rule","told","low","high","k","corner","following","between"]
theorem CA:aA vN ["hull","rule"] (ah jx):=L2.fsc rfl (by decide +kernel)
noncomputable abbrev n_both:List Str:=["one","other"]
theorem yY:aA n_both ["one","other"] (ah pG):=L2.fsc rfl (by decide +kernel)
noncomputable abbrev AS:List Str:=["one","other"]
theorem oV:aA AS ["one","other"] (ah iL):=L2.fsc rfl (by decide +kernel)
noncomputable abbrev vK:List Str:=["word"]
theorem lE:aA vK ["word"] (ah jw):=L2.fsc rfl (by decide +kernel)
noncomputable abbrev qI:List Str:=["word","one","other"]
theorem ju:aA qI ["word","one","other"] (ah iu):=L2.fsc rfl (by decide +kernel)
noncomputable abbrev vP:List Str:=["row","rules","rule"]
theorem lG:aA vP ["row","rules"] (ah jz):=L2.fsc rfl (by decide +kernel)
noncomputable abbrev vO:List Str:=["hull","choice","told"]
theorem lF:aA vO ["hull","choice"] (ah jy):=L2.fsc rfl (by decide +kernel)
noncomputable abbrev nO:List Str:=["rows","hull","rules","k","row","choice","rule"]
theorem iI:aA nO ["rows","hull"] (ah gf):=L2.fsc rfl (by decide +kernel)
noncomputable abbrev xH:List Str:=["tree","found","trees","hulls","branch","hull","parts"]
theorem nC:aA xH ["tree"] (ah kJ):=L2.fsc rfl (by decide +kernel)
noncomputable abbrev qG:List Str:=["folds"]
theorem jr:aA qG ["folds"] (ah ip):=L2.fsc rfl (by decide +kernel)
noncomputable abbrev AU:List Str:=["hull","rows","told","test","parts"]
theorem kF:aA AU ["hull","rows"] (ah mH):=L2.fsc rfl (by decide +kernel)
noncomputable abbrev Ba:List Str:=["saying"]
theorem pD:aA Ba ["saying"] (ah mM):=L2.fsc rfl (by decide +kernel)
noncomputable abbrev qH:List Str:=["saying","tree","least","point","hull","corner","found"]
theorem jt:aA qH ["saying"] (ah ir):=L2.fsc rfl (by decide +kernel)
noncomputable abbrev AZ:List Str:=["_law_tree"]
theorem kH:aA AZ ["_law_tree"] (ah iN):=L2.fsc rfl (by decide +kernel)
noncomputable abbrev vM:List Str:=["_law_tree","_law_rows","_law_places","_law_row"]
theorem iZ:aA vM ["_law_tree","_law_rows"] (ah fV):=L2.fsc rfl (by decide +kernel)
noncomputable abbrev AW:List Str:=["_law_rule_here","_law_corner"]
theorem pj:aA AW ["_law_rule_here","_law_corner"] (ah mK):=L2.fsc rfl (by decide +kernel)
noncomputable abbrev xG:List Str:=["_law_point","_law_by","_law_number"]
theorem hJ:aA xG ["_law_point"] (ah de):=L2.fsc rfl (by decide +kernel)
noncomputable abbrev lV:List Str:=["_law_hull","_law_rule_here","_law_some","_law_low","_law_high","_law_k","_law_corner","_law_here","_law_there","_law_other","_law_fresh"]
theorem vg:aA lV ["_law_hull","_law_rule_here"] (ah cN):=L2.fsc rfl (by decide +kernel)
noncomputable abbrev n_l_sum:List Str:=["_law_one","_law_other","_law_by"]
theorem vd:aA n_l_sum ["_law_one","_law_other","_law_by"] (ah lI):=L2.fsc rfl (by decide +kernel)
noncomputable abbrev vL:List Str:=["_law_row","_law_rules_here","_law_hull","_law_known","_law_one","_law_other","_law_test","_law_ways","_law_some"]
theorem rn:aA vL ["_law_row","_law_rules_here","_law_hull"] (ah gM):=L2.fsc rfl (by decide +kernel)
noncomputable abbrev AX:List Str:=["_law_rows","_law_hull","_law_rules_here","_law_row","_law_rule_here","_law_test"]
theorem pq:aA AX ["_law_rows","_law_hull"] (ah mL):=L2.fsc rfl (by decide +kernel)
noncomputable abbrev AY:List Str:=["_law_tree","_law_hull","_law_both","_law_low","_law_high"]
theorem kG:aA AY ["_law_tree","_law_hull"] (ah iM):=L2.fsc rfl (by decide +kernel)
noncomputable abbrev n_l_holds : List Str := ["_law_tree", "_law_rows", "_law_top", "_law_bottom", "_law_hulls_here", "_law_hull", "_law_rules_here", "_law_some"]
theorem sc_l_holds : aA n_l_holds ["_law_tree", "_law_rows", "_law_top", "_law_bottom"] (ah s_l_holds) := L2.fsc rfl (by decide +kernel)
noncomputable abbrev nP:List Str:=["_law_found"]
theorem iJ:aA nP ["_law_found"] (ah gi):=L2.fsc rfl (by decide +kernel)
noncomputable abbrev tM:List Str:=["_law_found"]
theorem kz:aA tM ["_law_found"] (ah eI):=L2.fsc rfl (by decide +kernel)
noncomputable abbrev n_l_few:List Str:=["_law_cells","_law_room","_law_most","_law_tree"]
theorem ve:aA n_l_few ["_law_cells","_law_room","_law_most"] (ah sJ):=L2.fsc rfl (by decide +kernel)
noncomputable def t3D (p:T3):PyData:=.tuple [.int p.u,.int p.v,.int p.w]
section
variable {K:PySem.W.Frag} {H H':Hp} {a:Addr} {v:V} {p:T3}
theorem bW (g:SqT K H a [.int p.u,.int p.v,.int p.w]):Dat K H (t3D p) (.ref a):=⟨a,_,rfl,g,_,_,rfl,rfl,_,_,rfl,rfl,_,_,rfl,rfl,rfl⟩
theorem dH (g:Dat K H (t3D p) v):∃ a,v=.ref a/\SqT K H a [.int p.u,.int p.v,.int p.w]:=by
 obtain ⟨a,xs,rfl,g,x,r,rfl,hx,y,t,rfl,hy,z,u,rfl,hz,hu⟩:=g
 cases (show x=V.int p.u from hx)
 cases (show y=V.int p.v from hy)
 cases (show z=V.int p.w from hz)
 cases (show u=[] from hu)
 exact ⟨a,rfl,g⟩
theorem lx {xs:List V} {h:List T3} (g:DatAll K H (h.map t3D) xs) {i:Nat} (e:h[i]?=some p):∃ x,xs[i]?=some x/\Dat K H (t3D p) x:=g.get (by rw [List.getElem?_map,e];rfl)
theorem so {xs:List V} {h:List T3} (g:DatAll K H (h.map t3D) xs) {i:Nat} {x:V} (e:xs[i]?=some x):∃ p,h[i]?=some p/\Dat K H (t3D p) x:=by
 obtain ⟨d,e1,e2⟩:=g.get' e
 rw [List.getElem?_map] at e1
 cases z:h[i]? with
 | none=>rw [z] at e1;cases e1
 | some s=>rw [z] at e1;cases e1;exact ⟨s,rfl,e2⟩
theorem il {xs:List V} {h:List T3} (g:DatAll K H (h.map t3D) xs):xs.length=h.length:=by rw [g.len,List.length_map]
end
noncomputable def Bg (x:Int):Prop:=x.natAbs < 2 ^ 8000
theorem gP {a b:Int} (ha:Bg a) (hb:Bg b):IntMulOk a b:=IntMulOk.of_le (m:=8000) (n:=8000) (zT ha) (zT hb) (by decide)
theorem gU {x:Int} {n:Nat} (h:x.natAbs < 2 ^ n) (hn:n<=8000):Bg x:=Nat.lt_of_lt_of_le h (Nat.pow_le_pow_right (by decide) hn)
theorem xZ {t x:Int} (h0:x≠0) (h:Bg x):CDivK t x:=⟨h0,Nat.lt_of_lt_of_le ((Nat.log2_lt (by omega)).mpr h) (by decide)⟩
noncomputable def oS:Sp:=λvs H Q _=>∃ a b:Int,vs=[.int a,.int b]/\Q (.int (Lo.gc a b)) H
noncomputable def Al (K:PySem.W.Frag):Sp:=λvs H Q _=>∃(x y:V) (r p:T3),vs=[x,y]/\Dat K H (t3D r) x/\Dat K H (t3D p) y/\Hu.R3 3000 r/\Hu.R3 3000 p/\Q (.int (Hu.tl r p)) H
noncomputable def Ci (K:PySem.W.Frag):Sp:=λvs H Q _=>∃(x:V) (l:Addr) (us:List V) (r:T3) (h:List T3),vs=[x,.ref l]/\Dat K H (t3D r) x/\SqL K H l us/\DatAll K H (h.map t3D) us/\Hu.R3 3000 r/\(∀ p∈h,Hu.R3 3000 p)/\h.length<=900/\(∀ H',aI H H'->SqL K H' l us)/\
 ∀(d:Addr) (H':Hp),aI H H'->H d=none->H' d=some (.lst ((h.map (Hu.tl r)).map V.int))->Q (.ref d) H'
noncomputable def spCB (K:PySem.W.Frag):Sp:=λvs H Q _=>∃(x y:V) (p q:T3) (s t:Int),vs=[x,y,.int s,.int t]/\Dat K H (t3D p) x/\Dat K H (t3D q) y/\Hu.P3 600 p/\Hu.P3 600 q/\s*t < 0/\s.natAbs < 2 ^ 2000/\t.natAbs < 2 ^ 2000/\
 ∀(v:V) (H':Hp),aI H H'->Dat K H' (t3D (Hu.mid p q s t)) v->Q v H'
section
variable {P:Program} {w:World} {K:PySem.W.Frag} {mg:Str->Option Value} {base:Heap}
theorem AM (T:aD K mg "common_factor" gj) (ff:mg "abs"=none):Def P w K mg base 1 "common_factor" ["one","other"] oS:=by
 refine aN T iK (λ_ _ _ _ _ _=>L2.ar2 λ_ _=>rfl) (λvs H Q E h=>?_) (λf cdv A outer s H vs Q E hr h=>?_)
 ·obtain ⟨a,b,rfl,_⟩:=h
  rfl
 obtain ⟨a,b,rfl,q⟩:=h
 have nd:=iK.nd
 refine ⟨_,(ag (aJ (i:=2) nd rfl (Or.inl rfl) (aB fc rfl ff (by decide +kernel) (aa (pv 0) af)))
  (ag (aJ (i:=3) nd rfl (Or.inl rfl) (aB fc rfl ff (by decide +kernel) (aa (pv 1) af)))
  (ag (iQ PassesOwn.never (aC lS (pv 3) aq (aF _)) (ag (aJ (i:=4) nd rfl (Or.inl rfl) (aK ib (pv 2) (pv 3)))
  (ag (aJ (i:=2) nd rfl (Or.inl rfl) (pv 3))
  (ak (aJ (i:=3) nd rfl (Or.inl rfl) (pv 4))))))
  (ak (av (pv 2)))))),?_⟩
 refine ⟨_,rfl,_,rfl,_,rfl,_,rfl,?_⟩
 rw [cM,cM]
 refine ⟨λm σ H'=>H'=H/\∃(g l:Int) (o:Option V),σ=[some (.int a),some (.int b),some (.int g),some (.int l),o]/\0<=g/\0<=l/\l.toNat=m/\Lo.gc g l=Lo.gc a b,⟨_,rfl,_,_,_,rfl,by omega,by omega,rfl,Lo.Bn a b⟩,?_⟩
 rintro m σ H' ⟨rfl,g,l,o,rfl,hg,hl,rfl,e⟩
 refine ⟨_,rfl,rfl,_,rfl,?_⟩
 refine dB (λc=>?_) (λc=>?_)
 ·have c':l≠0:=λz=>by
   rw [z,decide_eq_true (rfl:V.int 0=V.int 0)] at c
   cases c
  have c2:0 < l:=by omega
  refine ⟨fun σ' H''=>H''=H'/\σ'=[some (.int a),some (.int b),some (.int l),some (.int (g.fmod l)),some (.int (g.fmod l))],?_,?_⟩
  ·rintro σ' H'' ⟨rfl,rfl⟩
   have z0:=Int.fmod_nonneg_of_pos g c2
   have z1:=Int.fmod_lt_of_pos g c2
   exact ⟨_,(show (g.fmod l).toNat < l.toNat by omega),rfl,l,g.fmod l,_,rfl,by omega,z0,rfl,by rw [Lo.tV];exact e⟩
  ·exact ⟨_,rfl,_,rfl,_,_,rfl,rfl,c',_,rfl,_,rfl,rfl,rfl⟩
 ·have l0:l=0:=by
   by_cases z:l=0
   ·exact z
   ·exfalso
    refine c ?_
    have n:¬ (V.int l=V.int 0):=λq=>z (V.int.inj q)
    simp [n]
  subst l0
  rw [Lo.tU hg] at e
  subst e
  exact ⟨_,rfl,q⟩
theorem r3b {r:T3} (h:Hu.R3 3000 r):Bg r.u/\Bg r.v/\Bg r.w:=⟨gU h.a (by decide),gU h.b (by decide),gU h.c (by decide)⟩
theorem ok_told (T:aD K mg "told_by" mI):Def P w K mg base 1 "told_by" ["rule","point"] (Al K):=by
 refine aN T pd (λ_ _ _ _ _ _=>L2.ar2 λ_ _=>rfl) (λvs H Q E h=>?_) (λf cdv A outer s H vs Q E hr h=>?_)
 ·obtain ⟨x,y,r,p,rfl,_⟩:=h
  rfl
 obtain ⟨x,y,r,p,rfl,dx,dy,br,bp,q⟩:=h
 obtain ⟨ar,rfl,sr⟩:=dH dx
 obtain ⟨ap,rfl,st⟩:=dH dy
 obtain ⟨r1,r2,r3⟩:=r3b br
 obtain ⟨p1,p2,p3⟩:=r3b bp
 have nd:=pd.nd
 refine ⟨_,(ak (av (aK bR (aK bR (aK bE (aE az (pv 0) aq (λ_ _=>rfl)) (aE az (pv 1) aq (λ_ _=>rfl))) (aK bE (aE az (pv 0) aq (λ_ _=>rfl)) (aE az (pv 1) aq (λ_ _=>rfl)))) (aK bE (aE az (pv 0) aq (λ_ _=>rfl)) (aE az (pv 1) aq (λ_ _=>rfl)))))),?_⟩
 exact ⟨_,rfl,_,_,_,_,rfl,rfl,sr,rfl,_,rfl,_,_,_,_,rfl,rfl,st,rfl,_,_,rfl,rfl,gP r1 p2,_,rfl,_,_,_,_,rfl,rfl,sr,rfl,_,rfl,_,_,_,_,rfl,rfl,st,rfl,_,_,rfl,rfl,gP r2 p3,_,_,rfl,rfl,_,rfl,_,_,_,_,rfl,rfl,sr,rfl,_,rfl,_,_,_,_,rfl,rfl,st,rfl,_,_,rfl,rfl,gP r3 p1,_,_,rfl,rfl,q⟩
theorem oM {H1:Hp} {l D:Addr} {us:List V} {r:T3} {h:List T3} {te:TE} {js:List Nat} {σ:St} {R:Hp->Prop} (hl:∀ H',aI H1 H'->SqL K H' l us) (da:DatAll K H1 (h.map t3D) us) (few:h.length<=900) (hD:H1 D=none)
  (step:∀(v:V) (p:T3) (H':Hp) (k:VK),aI H1 H'->p∈h->Dat K H' (t3D p) v->k (.int (Hu.tl r p)) H'->te (some v::bI js σ) H' k)
  (fin:∀ H',aI H1 H'->H' D=some (.lst ((h.map (Hu.tl r)).map V.int))->R H') :
  ∃ W:Nat->Nat->Hp->Prop,(∃ m,W 0 m (upd H1 D (.lst [])))/\∀ i m H2,W i m H2->((Itl K l).stop i H2/\R H2)\/
   ((
    Itl K l).go i H2/\∀ v H3,(Itl K l).yld i H2 v H3->ky (some v::bI js σ) H3 λb H4=>if b=true then te (some v::bI js σ) H4 λy H5 =>
    ∃ ys,H5 D=some (.lst ys)/\ys.length < sizeLine/\∃ m',m' < m/\W (i+1) m' (upd H5 D (.lst (ys++[y]))) else ∃ m',m' < m/\W (i+1) m' H4):=by
 have lu:=il da
 refine ⟨λi m H2=>m=us.length - i/\i<=us.length/\aI H1 H2/\H2 D=some (.lst (((h.take i).map (Hu.tl r)).map V.int)),⟨_,rfl,Nat.zero_le _,ao hD _,ae⟩,?_⟩
 rintro i m H2 ⟨rfl,hi,sm,hlD⟩
 by_cases hlt:i < us.length
 ·refine .inr ⟨⟨us,_,hl _ sm,List.getElem?_eq_getElem hlt⟩,λv H3 y=>?_⟩
  obtain ⟨rfl,y⟩:=y
  obtain ⟨p,hp,dp⟩:=so (da.ts sm.ts) (y us (hl _ sm))
  refine iC ?_
  refine step v p _ _ sm (List.mem_of_getElem? hp) dp ?_
  refine ⟨_,hlD,aQ (by simp;omega),us.length - (i+1),by omega,rfl,hlt,aU sm hD _,?_⟩
  rw [ae]
  have e:h.take (i+1)=h.take i++[p]:=by
   obtain ⟨q1,q2⟩:=List.getElem?_eq_some_iff.mp hp
   rw [List.take_succ_eq_append_getElem q1,q2]
  rw [e,List.map_append,List.map_append]
  rfl
 ·have ei:i=us.length:=by omega
  subst ei
  refine .inl ⟨⟨us,hl _ sm,Nat.le_refl _⟩,fin _ sm ?_⟩
  rw [hlD,lu,List.take_length]
theorem ok_tic (T:aD K mg "told_in_corners" cq) (BL:Def P w K mg base 1 "told_by" ["rule","point"] (Al K)):Def P w K mg base 2 "told_in_corners" ["rule","hull"] (Ci K):=by
 refine aN T gK (λ_ _ _ _ _ _=>L2.ar2 λ_ _=>rfl) (λvs H Q E h=>?_) (λf cdv A outer s H vs Q E hr h=>?_)
 ·obtain ⟨x,l,us,r,h,rfl,_⟩:=h
  rfl
 obtain ⟨x,l,us,r,h,rfl,dx,sl,da,br,bp,few,hl,k⟩:=h
 have nd:=gK.nd
 refine ⟨_,(ak (av (eT rfl (cQ (pv 1)) rfl (by decide +kernel) (by decide +kernel) rfl (show ∀ p∈Scope.names _,p.2=NameKind.free->List.lookup p.1 (ah cq).names=some .cell\/List.lookup p.1 (ah cq).names=some .free by decide +kernel) (cI (j:=0) rfl (Or.inl rfl) (by decide +kernel) (Or.inl rfl) cR) (show (["corner","rule"]:List Str).Nodup by decide +kernel) (λ_ _ _ _=>dq) (λ_ _ _ _=>(aH BL (hr.mono (by decide)) rfl (aa (pv 1) (aa (pv 0) af))))))),?_⟩
 refine ⟨_,rfl,l,rfl,⟨us,sl⟩,λD hD=>?_⟩
 exact oM (r:=r) hl da few hD (λv p H' kk sm hp dp q=>⟨_,rfl,_,rfl,x,v,r,p,rfl,dx.ts sm.ts,dp,br,bp p hp,q⟩) λH' sm e=>k D H' sm hD e
end
theorem lQ {X:Cx} {K:PySem.W.Frag} {es:List Expr} {k:Nat} {pos:Pos} {t:TGs} {n:Nat} (e:X.K=K) (hc:X.calm=true) (h:PGs X es t)
  (hn:(assignEach es X.env).length=n:=by rfl) (hst:(assignEach es X.env).findIdx? (·.1)=none:=by rfl):PG X (.Tuple es k pos) (gTup K n t):=by
 subst e
 exact jB hc h hn hst
theorem len2 {o:St} (h:o.length=2):∃ a b,o=[a,b]:=match o,h with | [a,b],_=>⟨a,b,rfl⟩
section
variable {P:Program} {w:World} {K:PySem.W.Frag} {mg:Str->Option Value} {base:Heap}
theorem EA {H1:Hp} {l D:Addr} {a b c g:Int} {te:TE} {js:List Nat} {σ:St} {R:Hp->Prop} (hl:H1 l=some (.lst [.int a,.int b,.int c])) (hD:H1 D=none)
  (step:∀(n:Int) (H':Hp) (k:VK),k (.int (n.fdiv g)) H'->te (some (.int n)::bI js σ) H' k)
  (fin:∀ H',aI H1 H'->H' D=some (.lst [.int (a.fdiv g),.int (b.fdiv g),.int (c.fdiv g)])->R H') :
  ∃ W:Nat->Nat->Hp->Prop,(∃ m,W 0 m (upd H1 D (.lst [])))/\∀ i m H2,W i m H2->((Itl K l).stop i H2/\R H2)\/
   ((
    Itl K l).go i H2/\∀ v H3,(Itl K l).yld i H2 v H3->ky (some v::bI js σ) H3 λb H4=>if b=true then te (some v::bI js σ) H4 λy H5 =>
    ∃ ys,H5 D=some (.lst ys)/\ys.length < sizeLine/\∃ m',m' < m/\W (i+1) m' (upd H5 D (.lst (ys++[y]))) else ∃ m',m' < m/\W (i+1) m' H4):=by
 refine ⟨λi m H2=>m=3 - i/\i<=3/\aI H1 H2/\H2 D=some (.lst ([V.int (a.fdiv g),.int (b.fdiv g),.int (c.fdiv g)].take i)),⟨_,rfl,Nat.zero_le _,ao hD _,ae⟩,?_⟩
 rintro i m H2 ⟨rfl,hi,sm,hlD⟩
 have sl:SqL K H2 l [.int a,.int b,.int c]:=SqL.of (sm _ _ hl)
 by_cases hlt:i < 3
 ·refine .inr ⟨⟨_,_,sl,List.getElem?_eq_getElem (show i < 3 from hlt)⟩,λv H3 y=>?_⟩
  obtain ⟨rfl,y⟩:=y
  have z:=y _ sl
  refine iC ?_
  rcases (show i=0\/i=1\/i=2 by omega) with rfl | rfl | rfl
  ·cases z
   exact step _ _ _ ⟨_,hlD,aQ (by simp),3 - 1,by omega,rfl,by omega,aU sm hD _,ae⟩
  ·cases z
   exact step _ _ _ ⟨_,hlD,aQ (by simp),3 - 2,by omega,rfl,by omega,aU sm hD _,ae⟩
  ·cases z
   exact step _ _ _ ⟨_,hlD,aQ (by simp),3 - 3,by omega,rfl,by omega,aU sm hD _,ae⟩
 ·have ei:i=3:=by omega
  subst ei
  exact .inl ⟨⟨_,sl,Nat.le_refl _⟩,fin _ sm hlD⟩
theorem rC {p q s t:Int} {a b:T3} (p0:0<=p) (q0:0<=q) (p1:p < 2 ^ 600) (q1:q < 2 ^ 600) (hs:s.natAbs < 2 ^ 2000) (ht:t.natAbs < 2 ^ 2000):0<=Hu.nm p q s t/\Bg (Hu.nm p q s t):=by
 obtain ⟨a,b⟩:=Hu.nm_b p0 q0 p1 q1 hs ht
 exact ⟨a,gU b (by decide)⟩
theorem gg_bg {U V W:Int} (h0:0 < U) (h:Bg U):Hu.gg U V W≠0/\Bg (Hu.gg U V W):=by
 have g0:=Hu.kR (V:=V) (W:=W) h0
 have g1:=Hu.gg_le (V:=V) (W:=W) h0
 exact ⟨by omega,Nat.lt_of_le_of_lt (by omega) h⟩
theorem ok_cb (T:aD K mg "corner_between" bO) (gW:mg "zip"=none) (ff:mg "abs"=none) (aP:mg "tuple"=none) (dQ:Def P w K mg base 1 "common_factor" ["one","other"] oS):Def P w K mg base 2 "corner_between" ["one","other","at_one","at_other"] (spCB K):=by
 refine aN T hU (λ_ _ _ _ _ _=>L2.ar4 λ_ _ _ _=>rfl) (λvs H Q E h=>?_) (λf cdv A outer s H vs Q E hr h=>?_)
 ·obtain ⟨x,y,p,q,s,t,rfl,_⟩:=h
  rfl
 obtain ⟨x,y,p,q,s,t,rfl,dx,dy,hp,hq,st,hs,ht,k⟩:=h
 obtain ⟨ax,rfl,sx⟩:=dH dx
 obtain ⟨ay,rfl,sy⟩:=dH dy
 have nd:=hU.nd
 obtain ⟨u0,ub⟩:=rC (a:=p) (b:=p) (Int.le_of_lt hp.n0) (Int.le_of_lt hq.n0) hp.n1 hq.n1 hs ht
 obtain ⟨v0,vb⟩:=rC (a:=p) (b:=p) hp.x0 hq.x0 hp.x1 hq.x1 hs ht
 obtain ⟨w0,wb⟩:=rC (a:=p) (b:=p) hp.y0 hq.y0 hp.y1 hq.y1 hs ht
 have up:=Hu.ic hp hq st
 obtain ⟨g0,gb⟩:=gg_bg (V:=Hu.nm p.v q.v s t) (W:=Hu.nm p.w q.w s t) up ub
 have bs:Bg (s.natAbs:Int):=gU (n:=2000) (by simpa using hs) (by decide)
 have bt:Bg (t.natAbs:Int):=gU (n:=2000) (by simpa using ht) (by decide)
 have pb:=r3b (hp.r.mono (by decide))
 have qb:=r3b (hq.r.mono (by decide))
 refine ⟨_,(ag (Dl (i:=4) (xs:=["first","second"]) nd rfl (Or.inl rfl) (Or.inl rfl) rfl rfl (lP rfl gW (pv 0) (pv 1)) rfl (by decide +kernel) (by decide +kernel) (show ∀ p∈Scope.names _,p.2=NameKind.free->List.lookup p.1 (ah bO).names=some .cell\/List.lookup p.1 (ah bO).names=some .free by decide +kernel) (cI (j:=3) rfl (Or.inl rfl) (by decide +kernel) (Or.inl rfl) (cI (j:=2) rfl (Or.inl rfl) (by decide +kernel) (Or.inl rfl) cR)) (show (["first","second","at_other","at_one"]:List Str).Nodup by decide +kernel) (λ_ _ _ _=>lQ (K:=K) (n:=2) rfl rfl (bg (aV (i:=0) (show (["first","second","at_other","at_one"]:List Str).Nodup by decide +kernel) rfl (Or.inl rfl) (.inr rfl)) (bg (aV (i:=1) (show (["first","second","at_other","at_one"]:List Str).Nodup by decide +kernel) rfl (Or.inl rfl) (.inr rfl)) dO))) (λ_ _ _ _=>(aK bR (aK bE (aB fc rfl ff (by decide +kernel) (aa (pv 2) af)) (pv 0)) (aK bE (aB fc rfl ff (by decide +kernel) (aa (pv 3) af)) (pv 1)))))
  (ag (aJ (i:=5) nd rfl (Or.inr rfl) (aH dQ (hr.mono (by decide)) rfl (aa (aH dQ (hr.mono (by decide)) rfl (aa (aE bL (pv 4) aq (λ_ _=>rfl)) (aa (aE bL (pv 4) aq (λ_ _=>rfl)) af))) (aa (aE bL (pv 4) aq (λ_ _=>rfl)) af))))
  (ak (av (bV bS rfl aP (by decide +kernel) (aa (eT rfl (cQ (pv 4)) rfl (by decide +kernel) (by decide +kernel) rfl (show ∀ p∈Scope.names _,p.2=NameKind.free->List.lookup p.1 (ah bO).names=some .cell\/List.lookup p.1 (ah bO).names=some .free by decide +kernel) (cI (j:=5) rfl (Or.inl rfl) (by decide +kernel) (Or.inl rfl) cR) (show (["number","factor"]:List Str).Nodup by decide +kernel) (λ_ _ _ _=>dq) (λ_ _ _ _=>(aK jG (pv 0) (pv 1)))) af)))))),?_⟩
 refine ⟨_,rfl,_,rfl,ax,ay,_,_,rfl,rfl,sx,sy,λD hD=>?_⟩
 refine ⟨λi m H2=>m=3 - i/\i<=3/\aI H H2/\H2 D=some (.lst ([V.int (Hu.nm p.u q.u s t),.int (Hu.nm p.v q.v s t),.int (Hu.nm p.w q.w s t)].take i)),⟨_,rfl,Nat.zero_le _,ao hD _,ae⟩,?_⟩
 rintro i m H2 ⟨rfl,hi,sm,hlD⟩
 have sx2:=sx.ts sm.ts
 have sy2:=sy.ts sm.ts
 by_cases hlt:i < 3
 ·refine .inr ⟨⟨_,_,sx2,sy2,hlt,Nat.le_refl _⟩,λo ho v H3 y=>?_⟩
  obtain ⟨T',vs,nT,rfl,rfl,x,y,rfl,hx,hy⟩:=y
  have zx:=hx _ sx2
  have zy:=hy _ sy2
  obtain ⟨o1,o2,rfl⟩:=len2 ho
  have uT:=ao nT (.tup [x,y])
  refine ⟨T',_,rfl,SqT.of ae,rfl,_,_,rfl,_,_,rfl,rfl,[some x,some y],rfl,rfl,?_⟩
  have hlD2:=uT _ _ hlD
  rcases (show i=0\/i=1\/i=2 by omega) with rfl | rfl | rfl
  ·cases zx
   cases zy
   refine ⟨_,rfl,_,rfl,_,rfl,_,_,rfl,rfl,(by rw [cM];exact gP bt pb.1),_,rfl,_,rfl,_,rfl,_,_,rfl,rfl,(by rw [cM];exact gP bs qb.1),_,_,rfl,rfl,?_⟩
   refine ⟨_,hlD2,aQ (by simp),3 - 1,by omega,rfl,by omega,aU (sm.trans uT) hD _,?_⟩
   rw [ae,cM,cM]
   rfl
  ·cases zx
   cases zy
   refine ⟨_,rfl,_,rfl,_,rfl,_,_,rfl,rfl,(by rw [cM];exact gP bt pb.2.1),_,rfl,_,rfl,_,rfl,_,_,rfl,rfl,(by rw [cM];exact gP bs qb.2.1),_,_,rfl,rfl,?_⟩
   refine ⟨_,hlD2,aQ (by simp),3 - 2,by omega,rfl,by omega,aU (sm.trans uT) hD _,?_⟩
   rw [ae,cM,cM]
   rfl
  ·cases zx
   cases zy
   refine ⟨_,rfl,_,rfl,_,rfl,_,_,rfl,rfl,(by rw [cM];exact gP bt pb.2.2),_,rfl,_,rfl,_,rfl,_,_,rfl,rfl,(by rw [cM];exact gP bs qb.2.2),_,_,rfl,rfl,?_⟩
   refine ⟨_,hlD2,aQ (by simp),3 - 3,by omega,rfl,by omega,aU (sm.trans uT) hD _,?_⟩
   rw [ae,cM,cM]
   rfl
 have ei:i=3:=by omega
 subst ei
 refine .inl ⟨⟨_,_,sx2,sy2,Nat.le_refl _,Nat.le_refl _⟩,?_⟩
 have hl3:H2 D=some (.lst [.int (Hu.nm p.u q.u s t),.int (Hu.nm p.v q.v s t),.int (Hu.nm p.w q.w s t)]):=hlD
 have sD:SqL K H2 D [.int (Hu.nm p.u q.u s t),.int (Hu.nm p.v q.v s t),.int (Hu.nm p.w q.w s t)]:=SqL.of hl3
 refine ⟨_,rfl,_,_,_,_,rfl,rfl,sD,rfl,_,rfl,_,_,_,_,rfl,rfl,sD,rfl,_,_,rfl,_,rfl,_,_,_,_,rfl,rfl,sD,rfl,_,_,rfl,?_⟩
 refine ⟨_,rfl,D,rfl,⟨_,sD⟩,λD2 hD2=>?_⟩
 refine EA (K:=K) (g:=Hu.gg (Hu.nm p.u q.u s t) (Hu.nm p.v q.v s t) (Hu.nm p.w q.w s t)) hl3 hD2 ?step ?fin
 case step =>
  intro n H' kk q
  exact ⟨_,rfl,_,rfl,_,_,rfl,rfl,xZ g0 gb,q⟩
 intro H' sm2 e2
 refine ⟨D2,_,rfl,.inl ⟨SqL.of e2,λtt htt=>?_⟩⟩
 have u3:=ao htt (.tup [.int ((Hu.nm p.u q.u s t).fdiv (Hu.gg (Hu.nm p.u q.u s t) (Hu.nm p.v q.v s t) (Hu.nm p.w q.w s t))),.int ((Hu.nm p.v q.v s t).fdiv (Hu.gg (Hu.nm p.u q.u s t) (Hu.nm p.v q.v s t) (Hu.nm p.w q.w s t))),.int ((Hu.nm p.w q.w s t).fdiv (Hu.gg (Hu.nm p.u q.u s t) (Hu.nm p.v q.v s t) (Hu.nm p.w q.w s t)))])
 exact k _ _ (sm.trans (sm2.trans u3)) (bW (p:=Hu.mid p q s t) (SqT.of ae))
end
noncomputable def kh (s:Stmt):List Stmt:=match s with
 | .For _ _ b _ _=>b
 | _=>[]
noncomputable def Ak (s:Stmt) (i:Nat):Stmt:=(bu s).getD i (.Pass ⟨0,0,0,0⟩)
noncomputable def CutR (K:PySem.W.Frag) (H H':Hp) (r:T3) (h:List T3) (v:V):Prop:=∃(t a b:Addr) (us1 us2:List V),v=.ref t/\a≠b/\H a=none/\H b=none/\SqT K H' t [.ref a,.ref b]/\H' a=some (.lst us1)/\H' b=some (.lst us2)/\DatAll K H' ((Hu.low r h).map t3D) us1/\DatAll K H' ((Hu.high r h).map t3D) us2
noncomputable def Cu (K:PySem.W.Frag) (CN:Addr):Sp:=λvs H Q E=>∃(l:Addr) (x:V) (us:List V) (h:List T3) (r:T3),vs=[.ref l,x]/\H l=some (.lst us)/\DatAll K H (h.map t3D) us/\Dat K H (t3D r) x/\Hu.uh 600 256 h/\Hu.R3 1200 r/\
 (Hu.gX r h->∀ H',aI H H'->E (.ref CN) none H')/\(¬Hu.gX r h->∀(v:V) (H':Hp),aI H H'->CutR K H H' r h v->Q v H')
noncomputable def Cr (K:PySem.W.Frag):Sp:=λvs H Q _=>∃(l:Addr) (x:V) (us:List V) (h:List T3) (r:T3),vs=[.ref l,x]/\H l=some (.lst us)/\DatAll K H (h.map t3D) us/\Dat K H (t3D r) x/\Hu.uh 600 256 h/\Hu.R3 1200 r/\
 (Hu.gX r h->∀ H',aI H H'->Q .non H')/\(¬Hu.gX r h->∀(v:V) (H':Hp),aI H H'->CutR K H H' r h v->Q v H')
structure MI (K:PySem.W.Frag) (H H':Hp) (lo hi:Addr) (L1 L2:List T3):Prop where
 sm:aI H H'
 ex:∃ us1 us2,H' lo=some (.lst us1)/\H' hi=some (.lst us2)/\DatAll K H' (L1.map t3D) us1/\DatAll K H' (L2.map t3D) us2
section
variable {K:PySem.W.Frag} {H H' H'':Hp} {lo hi:Addr} {L1 L2:List T3} {p:T3} {v:V} {us:List V}
theorem MI.new (m:MI K H H' lo hi L1 L2) (s:aI H' H''):MI K H H'' lo hi L1 L2:=by
 obtain ⟨u1,u2,e1,e2,d1,d2⟩:=m.ex
 exact ⟨m.sm.trans s,u1,u2,s _ _ e1,s _ _ e2,d1.ts s.ts,d2.ts s.ts⟩
theorem MI.app1 (m:MI K H H' lo hi L1 L2) (h0:H lo=none) (ne:lo≠hi) (e:H' lo=some (.lst us)) (d:Dat K H' (t3D p) v):MI K H (upd H' lo (.lst (us++[v]))) lo hi (L1++[p]) L2:=by
 obtain ⟨u1,u2,e1,e2,d1,d2⟩:=m.ex
 rw [e] at e1
 cases e1
 have t:Tst H' (upd H' lo (.lst (us++[v]))):=dF e
 refine ⟨aU m.sm h0 _,_,u2,ae,by rw [au (Ne.symm ne)];exact e2,?_,d2.ts t⟩
 rw [List.map_append]
 exact (d1.ts t).snoc (d.ts t)
theorem MI.app2 (m:MI K H H' lo hi L1 L2) (h0:H hi=none) (ne:lo≠hi) (e:H' hi=some (.lst us)) (d:Dat K H' (t3D p) v):MI K H (upd H' hi (.lst (us++[v]))) lo hi L1 (L2++[p]):=by
 obtain ⟨u1,u2,e1,e2,d1,d2⟩:=m.ex
 rw [e] at e2
 cases e2
 have t:Tst H' (upd H' hi (.lst (us++[v]))):=dF e
 refine ⟨aU m.sm h0 _,u1,_,by rw [au ne];exact e1,ae,d1.ts t,?_⟩
 rw [List.map_append]
 exact (d2.ts t).snoc (d.ts t)
theorem MI.len (m:MI K H H' lo hi L1 L2) (l1:L1.length<=990) (l2:L2.length<=990):(∃ us,H' lo=some (.lst us)/\us.length<=1000)/\∃ us,H' hi=some (.lst us)/\us.length<=1000:=by
 obtain ⟨u1,u2,e1,e2,d1,d2⟩:=m.ex
 exact ⟨⟨u1,e1,by rw [il d1];omega⟩,u2,e2,by rw [il d2];omega⟩
end
theorem gu {r:T3} {h:List T3} {i:Nat} (hi:i < h.length):atI ((h.map (Hu.tl r)).map V.int) ((i:Nat):Int)=some (.int (Hu.tv r h i)):=by
 refine dD ?_
 rw [List.getElem?_map,List.getElem?_map,Hu.lY hi]
 rfl
section
variable {P:Program} {w:World} {K:PySem.W.Frag} {mg:Str->Option Value} {base:Heap}
theorem ok_cut {CN:Addr} (T:aD K mg "cut" jx) (M_NoCut:mg "NoCut"=some (.ref CN)) (X_NoCut:PySem.W.excIn K CN bmV "ValueError.__new__"=true) (bN:mg "min"=none) (bZ:mg "max"=none) (cB:mg "enumerate"=none) (bf:mg "len"=none)
  (fj:Def P w K mg base 2 "told_in_corners" ["rule","hull"] (Ci K)) (nu:Def P w K mg base 2 "corner_between" ["one","other","at_one","at_other"] (spCB K)):wH P w K mg base 3 "cut" ["hull","rule"] (Cu K CN):=by
 refine zK T CA (λ_ _ _ _ _ _=>L2.ar2 λ_ _=>rfl) (λvs H Q E h=>?_) (λf cdv A outer s H vs Q E hr h=>?_)
 ·obtain ⟨l,x,us,h,r,rfl,_⟩:=h
  rfl
 obtain ⟨l,x,us,h,r,rfl,hl,da,dx,hu,hr3,kn,kc⟩:=h
 have nd:=CA.nd
 have lu:=il da
 have hpos:=hu.pos
 have hfew:=hu.few
 have br:Hu.R3 3000 r:=hr3.mono (by decide)
 have bp:∀ p∈h,Hu.R3 3000 p:=λp hp=>((hu.ok p hp).r).mono (by decide)
 have tb:∀ i,(Hu.tv r h i).natAbs < 2 ^ 2000:=λi=>Nat.lt_of_lt_of_le (Hu.tl_b hr3 (hu.ok _ (Hu.cW hpos i)).r) (Nat.pow_le_pow_right (by decide) (by decide))
 have tB:∀ i,Bg (Hu.tv r h i):=λi=>gU (tb i) (by decide)
 have t3:∃ t,PSs (cS (CXr P w) P w K mg base vN "cut" (ah jx) f cdv A outer s H E) ((kh (Ak jx 4)).drop 3) t/\
   ∀(
    N B:St->Hp->Prop) (H1 H':Hp) (d lo hi:Addr) (v:V) (i:Nat) (L1 L2:List T3) (o8:Option V),i < h.length->MI K H1 H' lo hi L1 L2->H1 l=some (.lst us)->H1 d=some (.lst ((h.map (Hu.tl r)).map V.int))->H1 lo=none->H1 hi=none->lo≠hi->DatAll K H1 (h.map t3D) us->Dat K H' (t3D (Hu.cor h i)) v->L1.length<=900->L2.length<=900->
    (∀(H'':Hp) (o8':Option V),MI K H1 H'' lo hi (L1++(if Hu.tv r h i*Hu.tv r h (i+1) < 0 then [Hu.mid (Hu.cor h i) (Hu.cor h (i+1)) (Hu.tv r h i) (Hu.tv r h (i+1))] else [])) (L2++(if Hu.tv r h i*Hu.tv r h (i+1) < 0 then [Hu.mid (Hu.cor h i) (Hu.cor h (i+1)) (Hu.tv r h i) (Hu.tv r h (i+1))] else []))->
     N [some (.ref l),some x,some (.ref d),some (.ref lo),some (.ref hi),some (.int i),some v,some (.int (((i+1) % h.length:Nat):Int)),o8'] H'')->
    t {nx:=N,ct:=N,bk:=B,rt:=Q} [some (.ref l),some x,some (.ref d),some (.ref lo),some (.ref hi),some (.int i),some v,some (.int (((i+1) % h.length:Nat):Int)),o8] H':=by
  refine ⟨_,(ak (aO (aC lT (aK bE (aE bL (pv 2) (pv 5) (λ_ _=>rfl)) (aE bL (pv 2) (pv 7) (λ_ _=>rfl))) aq (aF _)) (ag (aJ (i:=8) nd rfl (Or.inl rfl) (aH nu (hr.mono (by decide)) rfl (aa (pv 6) (aa (aE bL (pv 0) (pv 7) (λ_ _=>rfl)) (aa (aE bL (pv 2) (pv 5) (λ_ _=>rfl)) (aa (aE bL (pv 2) (pv 7) (λ_ _=>rfl)) af))))))
  (ag (bb (cD PySem.F.plainAttrs_list PySem.F.slot_list_append PySem.F.type_list_append aY (pv 3) (aa (pv 8) af)))
  (ak (bb (cD PySem.F.plainAttrs_list PySem.F.slot_list_append PySem.F.type_list_append aY (pv 4) (aa (pv 8) af)))))) aG)),?_⟩
  intro N B H1 H' d lo hi v i L1 L2 o8 hi' mi hl1 hd1 hlo hhi ne da1 dv l1 l2 n
  have jl:(i+1) % h.length < h.length:=Nat.mod_lt _ hpos
  have sd:SqL K H' d ((h.map (Hu.tl r)).map V.int):=SqL.of (mi.sm _ _ hd1)
  have ai:=gu (r:=r) hi'
  have aj:=gu (r:=r) jl
  rw [Hu.wQ] at aj
  refine ⟨_,rfl,_,rfl,_,_,_,_,rfl,rfl,sd,ai,_,rfl,_,rfl,_,_,_,_,rfl,rfl,sd,aj,_,_,rfl,rfl,gP (tB _) (tB _),_,_,rfl,rfl,_,rfl,?_⟩
  refine dB (λc=>?_) (λc=>?_)
  ·have c':Hu.tv r h i*Hu.tv r h (i+1) < 0:=of_decide_eq_true c
   rw [if_pos c'] at n
   obtain ⟨y,hy,dy⟩:=lx (da1.ts mi.sm.ts) (Hu.lY jl)
   rw [Hu.zQ] at dy
   have sl:SqL K H' l us:=SqL.of (mi.sm _ _ hl1)
   refine ⟨_,rfl,_,rfl,_,rfl,_,_,_,_,rfl,rfl,sl,dD hy,_,rfl,_,rfl,_,_,_,_,rfl,rfl,sd,ai,_,rfl,_,rfl,_,_,_,_,rfl,rfl,sd,aj,v,y,Hu.cor h i,Hu.cor h (i+1),_,_,rfl,dv,dy,hu.ok _ (Hu.cW hpos i),hu.ok _ (Hu.cW hpos (i+1)),c',tb _,tb _,λm H2 s2 dm=>?_⟩
   have m2:=mi.new s2
   obtain ⟨⟨u1,e1,k1⟩,u2,e2,k2⟩:=m2.len (by omega) (by omega)
   refine ⟨_,rfl,.inl ⟨rfl,_,SqL.of e1⟩,_,rfl,lo,u1,_,rfl,rfl,e1,aQ k1,?_⟩
   have m3:=m2.app1 hlo ne e1 dm
   have e2':(upd H2 lo (.lst (u1++[m]))) hi=some (.lst u2):=by rw [au (Ne.symm ne)];exact e2
   refine ⟨_,rfl,.inl ⟨rfl,_,SqL.of e2'⟩,_,rfl,hi,u2,_,rfl,rfl,e2',aQ k2,?_⟩
   exact n _ _ (m3.app2 hhi ne e2' (dm.ts (dF e1)))
  ·have c':¬Hu.tv r h i*Hu.tv r h (i+1) < 0:=λz=>c (decide_eq_true z)
   rw [if_neg c',List.append_nil,List.append_nil] at n
   exact n _ _ mi
 obtain ⟨t3,ht3,hq3⟩:=t3
 have t2:∃ t,PSs (cS (CXr P w) P w K mg base vN "cut" (ah jx) f cdv A outer s H E) ((kh (Ak jx 4)).drop 2) t/\
   ∀(
    N B:St->Hp->Prop) (H1 H':Hp) (d lo hi:Addr) (v:V) (i:Nat) (L1 L2:List T3) (o8:Option V),i < h.length->MI K H1 H' lo hi L1 L2->H1 l=some (.lst us)->H1 d=some (.lst ((h.map (Hu.tl r)).map V.int))->H1 lo=none->H1 hi=none->lo≠hi->DatAll K H1 (h.map t3D) us->Dat K H' (t3D (Hu.cor h i)) v->L1.length<=800->L2.length<=800->
    (∀(H'':Hp) (o8':Option V),MI K H1 H'' lo hi (L1++(if Hu.tv r h i*Hu.tv r h (i+1) < 0 then [Hu.mid (Hu.cor h i) (Hu.cor h (i+1)) (Hu.tv r h i) (Hu.tv r h (i+1))] else [])) (L2++Hu.stp h (Hu.tn r h) i)->
     N [some (.ref l),some x,some (.ref d),some (.ref lo),some (.ref hi),some (.int i),some v,some (.int (((i+1) % h.length:Nat):Int)),o8'] H'')->
    t {nx:=N,ct:=N,bk:=B,rt:=Q} [some (.ref l),some x,some (.ref d),some (.ref lo),some (.ref hi),some (.int i),some v,some (.int (((i+1) % h.length:Nat):Int)),o8] H':=by
  refine ⟨_,ag (aO (aC pN (aE bL (pv 2) (pv 5) (λ_ _=>rfl)) aq (aF _)) (ak (bb (cD PySem.F.plainAttrs_list PySem.F.slot_list_append PySem.F.type_list_append aY (pv 4) (aa (pv 6) af)))) aG) ht3,?_⟩
  intro N B H1 H' d lo hi v i L1 L2 o8 hi' mi hl1 hd1 hlo hhi ne da1 dv l1 l2 n
  have sd:SqL K H' d ((h.map (Hu.tl r)).map V.int):=SqL.of (mi.sm _ _ hd1)
  have ai:=gu (r:=r) hi'
  rw [Hu.uw] at n
  refine ⟨_,rfl,_,rfl,_,_,_,_,rfl,rfl,sd,ai,_,_,rfl,rfl,_,rfl,?_⟩
  refine dB (λc=>?_) (λc=>?_)
  ·have c':0<=Hu.tv r h i:=of_decide_eq_true c
   rw [if_pos c'] at n
   obtain ⟨_,u2,e2,k2⟩:=mi.len (by omega) (by omega)
   refine ⟨_,rfl,.inl ⟨rfl,_,SqL.of e2⟩,_,rfl,hi,u2,_,rfl,rfl,e2,aQ k2,?_⟩
   refine hq3 N B H1 _ d lo hi v i L1 (L2++[Hu.cor h i]) o8 hi' (mi.app2 hhi ne e2 dv) hl1 hd1 hlo hhi ne da1 (dv.ts (dF e2)) (by omega) (by simp;omega) λH'' o' m=>n H'' o' ?_
   rw [List.append_assoc] at m
   exact m
  ·have c':¬0<=Hu.tv r h i:=λz=>c (decide_eq_true z)
   rw [if_neg c',List.nil_append] at n
   exact hq3 N B H1 _ d lo hi v i L1 L2 o8 hi' mi hl1 hd1 hlo hhi ne da1 dv (by omega) (by omega) n
 obtain ⟨t2,ht2,hq2⟩:=t2
 have t1:∃ t,PSs (cS (CXr P w) P w K mg base vN "cut" (ah jx) f cdv A outer s H E) (kh (Ak jx 4)) t/\
   ∀(
    N B:St->Hp->Prop) (H1 H':Hp) (d lo hi:Addr) (v:V) (i:Nat) (L1 L2:List T3) (o7 o8:Option V),i < h.length->MI K H1 H' lo hi L1 L2->H1 l=some (.lst us)->H1 d=some (.lst ((h.map (Hu.tl r)).map V.int))->H1 lo=none->H1 hi=none->lo≠hi->DatAll K H1 (h.map t3D) us->Dat K H' (t3D (Hu.cor h i)) v->L1.length<=700->L2.length<=700->
    (∀(H'':Hp) (o7' o8':Option V),MI K H1 H'' lo hi (L1++Hu.stp h (Hu.tv r h) i) (L2++Hu.stp h (Hu.tn r h) i)->
     N [some (.ref l),some x,some (.ref d),some (.ref lo),some (.ref hi),some (.int i),some v,o7',o8'] H'')->
    t {nx:=N,ct:=N,bk:=B,rt:=Q} [some (.ref l),some x,some (.ref d),some (.ref lo),some (.ref hi),some (.int i),some v,o7,o8] H':=by
  refine ⟨_,ag (aJ (i:=7) nd rfl (Or.inl rfl) (aK ib (aK bR (pv 5) aq) (aB bz rfl bf (by decide +kernel) (aa (pv 0) af)))) (ag (aO (aC ji (aE bL (pv 2) (pv 5) (λ_ _=>rfl)) aq (aF _)) (ak (bb (cD PySem.F.plainAttrs_list PySem.F.slot_list_append PySem.F.type_list_append aY (pv 3) (aa (pv 6) af)))) aG) ht2),?_⟩
  intro N B H1 H' d lo hi v i L1 L2 o7 o8 hi' mi hl1 hd1 hlo hhi ne da1 dv l1 l2 n
  have sl:SqL K H' l us:=SqL.of (mi.sm _ _ hl1)
  have sd:SqL K H' d ((h.map (Hu.tl r)).map V.int):=SqL.of (mi.sm _ _ hd1)
  have ai:=gu (r:=r) hi'
  refine ⟨_,rfl,_,_,rfl,rfl,_,rfl,_,_,rfl,.inl ⟨_,sl,rfl⟩,_,_,rfl,rfl,(by rw [lu];omega),?_⟩
  rw [lu]
  dsimp only
  rw [Hu.qe]
  refine ⟨_,rfl,_,rfl,_,_,_,_,rfl,rfl,sd,ai,_,_,rfl,rfl,_,rfl,?_⟩
  refine dB (λc=>?_) (λc=>?_)
  ·have c':Hu.tv r h i<=0:=of_decide_eq_true c
   obtain ⟨⟨u1,e1,k1⟩,_⟩:=mi.len (by omega) (by omega)
   refine ⟨_,rfl,.inl ⟨rfl,_,SqL.of e1⟩,_,rfl,lo,u1,_,rfl,rfl,e1,aQ k1,?_⟩
   refine hq2 N B H1 _ d lo hi v i (L1++[Hu.cor h i]) L2 o8 hi' (mi.app1 hlo ne e1 dv) hl1 hd1 hlo hhi ne da1 (dv.ts (dF e1)) (by simp;omega) (by omega) λH'' o' m=>n H'' _ o' ?_
   rw [List.append_assoc] at m
   rw [show Hu.stp h (Hu.tv r h) i=[Hu.cor h i]++(if Hu.tv r h i*Hu.tv r h (i+1) < 0 then [Hu.mid (Hu.cor h i) (Hu.cor h (i+1)) (Hu.tv r h i) (Hu.tv r h (i+1))] else []) by unfold Hu.stp;rw [if_pos c']]
   exact m
  ·have c':¬Hu.tv r h i<=0:=λz=>c (decide_eq_true z)
   refine hq2 N B H1 _ d lo hi v i L1 L2 o8 hi' mi hl1 hd1 hlo hhi ne da1 dv (by omega) (by omega) λH'' o' m=>n H'' _ o' ?_
   rw [show Hu.stp h (Hu.tv r h) i=(if Hu.tv r h i*Hu.tv r h (i+1) < 0 then [Hu.mid (Hu.cor h i) (Hu.cor h (i+1)) (Hu.tv r h i) (Hu.tv r h (i+1))] else []) by unfold Hu.stp;rw [if_neg c',List.nil_append]]
   exact m
 obtain ⟨t1,ht1,hq1⟩:=t1
 have t4:∃ t,PSs (cS (CXr P w) P w K mg base vN "cut" (ah jx) f cdv A outer s H E) ((bu jx).drop 2) t/\
   ∀(H1:Hp) (d:Addr),¬Hu.gX r h->aI H H1->H1 d=some (.lst ((h.map (Hu.tl r)).map V.int))->t {nx:=λ_ H'=>Q .non H',rt:=Q} [some (.ref l),some x,some (.ref d),none,none,none,none,none,none] H1:=by
  refine ⟨_,ag (aJ (i:=3) nd rfl (Or.inl rfl) (bF af)) (ag (aJ (i:=4) nd rfl (Or.inl rfl) (bF af)) (ag (fD PassesOwn.leaving rfl (tq rfl cB (pv 0)) (jB rfl (bg (aV (i:=5) nd rfl (Or.inl rfl)) (bg (aV (i:=6) nd rfl (Or.inl rfl)) dO))) ht1) (ak (av (bh (aa (pv 3) (aa (pv 4) af))))))),?_⟩
  intro H1 d nc sm hd
  have hl1:=sm _ _ hl
  have da1:=da.ts sm.ts
  refine ⟨(by show 0<=sizeLine;decide),λlo hlo=>⟨(by show 0<=sizeLine;decide),λhi hhi=>?_⟩⟩
  have u1:=ao hlo (.lst [])
  have u2:=ao hhi (.lst [])
  have ne:lo≠hi:=λz=>by subst z;rw [ae] at hhi;cases hhi
  have hhi1:H1 hi=none:=by rw [au (Ne.symm ne)] at hhi;exact hhi
  refine ⟨_,rfl,l,rfl,⟨us,SqL.of ((u1.trans u2) _ _ hl1)⟩,?_⟩
  refine qd (xs:=us) (λi σ H'=>i<=us.length/\MI K H1 H' lo hi (Hu.fl (Hu.stp h (Hu.tv r h)) i) (Hu.fl (Hu.stp h (Hu.tn r h)) i)/\∃ o5 o6 o7 o8,σ=[some (.ref l),some x,some (.ref d),some (.ref lo),some (.ref hi),o5,o6,o7,o8])
   ⟨Nat.zero_le _,⟨u1.trans u2,[],[],u2 _ _ ae,ae,rfl,rfl⟩,_,_,_,_,rfl⟩ (λi σ H' _ z=>SqL.of (z.2.1.sm _ _ hl1)) (λi v T' σ H' hv z hT=>?_) (fun σ H' z=>?_)
  ·obtain ⟨_,mi,o5,o6,o7,o8,rfl⟩:=z
   have hi':i < us.length:=(List.getElem?_eq_some_iff.mp hv).1
   have uT:=ao hT (.tup [.int i,v])
   obtain ⟨p,hp,dp⟩:=so (da1.ts mi.sm.ts) hv
   have ep:p=Hu.cor h i:=by rw [Hu.lY (by omega)] at hp;exact (Option.some.inj hp).symm
   subst ep
   have f1:=Hu.qf (Hu.lz hu (Hu.tv r h)).len i
   have f2:=Hu.qf (Hu.lz hu (Hu.tn r h)).len i
   refine ⟨T',_,rfl,SqT.of ae,rfl,_,_,rfl,_,_,rfl,rfl,?_⟩
   refine hq1 _ _ H1 _ d lo hi v i _ _ o7 o8 (by omega) (mi.new uT) hl1 hd hlo hhi1 ne da1 (dp.ts uT.ts) (by omega) (by omega) λH'' o7' o8' m=>⟨hi',?_,_,_,_,_,rfl⟩
   rw [Hu.ba,Hu.ba]
   exact m
  ·obtain ⟨_,mi,o5,o6,o7,o8,rfl⟩:=z
   rw [lu] at mi
   refine ⟨_,rfl,_,rfl,(by show 2<=sizeLine;decide),λtt htt=>?_⟩
   have u3:=ao htt (.tup [.ref lo,.ref hi])
   obtain ⟨w1,w2,e1,e2,d1,d2⟩:=(mi.new u3).ex
   refine kc nc _ _ (sm.trans (mi.sm.trans u3)) ⟨tt,lo,hi,w1,w2,rfl,ne,?_,?_,SqT.of ae,e1,e2,d1,d2⟩
   ·exact sm.free hlo
   ·exact sm.free hhi1
 obtain ⟨t4,ht4,hq4⟩:=t4
 refine ⟨_,ag (aJ (i:=2) nd rfl (Or.inl rfl) (aH fj (hr.mono (by decide)) rfl (aa (pv 1) (aa (pv 0) af)))) (ag (aO (PW.pt (fW (aC pN (aB (iT rfl) rfl bN (by decide +kernel) (aa (pv 2) af)) aq (aF _)) (gN (aC ji (aB (ki rfl) rfl bZ (by decide +kernel) (aa (pv 2) af)) aq (aF _))))) (ak (Dm rfl M_NoCut X_NoCut (aa aM af))) aG) ht4),?_⟩
 refine ⟨_,rfl,_,rfl,x,l,us,r,h,rfl,dx,SqL.of hl,da,br,bp,by omega,λH' s'=>SqL.of (s' _ _ hl),λd H1 s1 hd0 hd=>?_⟩
 have hne:0 < (h.map (Hu.tl r)).length:=by rw [List.length_map];exact hpos
 refine ⟨_,rfl,d,_,rfl,SqL.of hd,hne,λM hM hmin=>?_⟩
 refine ⟨_,_,rfl,rfl,_,rfl,?_⟩
 refine dB (λc=>?_) (λc=>?_)
 ·have c':0<=M:=of_decide_eq_true c
  exact ⟨(by show 1<=sizeLine;decide),kn (.inl λp hp=>Int.le_trans c' (hmin _ (List.mem_map.mpr ⟨p,hp,rfl⟩))) _ s1⟩
 have c1:¬0<=M:=λz=>c (decide_eq_true z)
 refine ⟨_,rfl,d,_,rfl,SqL.of hd,hne,λM2 hM2 hmax=>?_⟩
 refine ⟨_,_,rfl,rfl,_,rfl,?_⟩
 refine dB (λc=>?_) (λc=>?_)
 ·have c':M2<=0:=of_decide_eq_true c
  exact ⟨(by show 1<=sizeLine;decide),kn (.inr λp hp=>Int.le_trans (hmax _ (List.mem_map.mpr ⟨p,hp,rfl⟩)) c') _ s1⟩
 have c2:¬M2<=0:=λz=>c (decide_eq_true z)
 obtain ⟨p1,hp1,ep1⟩:=List.mem_map.mp hM
 obtain ⟨p2,hp2,ep2⟩:=List.mem_map.mp hM2
 refine hq4 H1 d (λnc=>?_) s1 hd
 rcases nc with z | z
 ·have:=z p1 hp1;omega
 ·have:=z p2 hp2;omega
end
structure Ms (P:Program) (w:World) (K:PySem.W.Frag) (mg:Str->Option Value) (base:Heap) (c:CCs):Prop where
 made:∀ t,aT P w K mg base (c.of t) "made_of" 1 ["self"] (sF c t)
 word:∀ t,aT P w K mg base (c.of t) "making_word" 1 ["self"] (eB c t)
 pieces:∀ t,aT P w K mg base (c.of t) "pieces" 2 ["self"] (lD c t)
 weigh:∀ t,aT P w K mg base (c.of t) "weigh" 2 ["self","worths","n","x","y"] (iY c t)
section
variable {P:Program} {w:World} {K:PySem.W.Frag} {mg:Str->Option Value} {base:Heap} {c:CCs}
theorem yW:aA ["self","laid","waiting","part"] ["self"] (ah sLaid):=L2.fsc rfl (by decide +kernel)
theorem ok_laid {C:Addr} {t:Tr} (T:aR K C "laid_out" "Saying.laid_out" sLaid) (M:Ms P w K mg base c):aT P w K mg base C "laid_out" 2 ["self"] (oQ c t):=by
 refine bj T yW (λ_ _ _ _ _ _=>L2.ar1 λ_=>rfl) (λvs H Q E h=>?_) (λf cdv A outer s H vs Q E hr h=>?_)
 ·obtain ⟨a,rfl,_⟩:=h
  rfl
 obtain ⟨a,rfl,oa,ht,q⟩:=h
 have nd:=yW.nd
 refine ⟨_,(ag (aJ (i:=1) nd rfl (Or.inl rfl) (bF af))
  (ag (aJ (i:=2) nd rfl (Or.inl rfl) (bF (aa (pv 0) af)))
  (ag (iQ PassesOwn.never (pJ (pv 2) (λ_=>rfl)) (ag (aJ (i:=3) nd rfl (Or.inl rfl) (ix PySem.F.plainAttrs_list PySem.F.slot_list_pop PySem.F.type_list_pop jH (pv 2)))
  (ag (bb (cD PySem.F.plainAttrs_list PySem.F.slot_list_append PySem.F.type_list_append aY (pv 1) (aa (pv 3) af)))
  (ak (bb (cD PySem.F.plainAttrs_list PySem.F.slot_list_extend PySem.F.type_list_extend mW (pv 2) (aa (dA (k:=1) (pv 3) (hr.mono (by decide))) af)))))))
  (ag (bb (ix PySem.F.plainAttrs_list PySem.F.slot_list_reverse PySem.F.type_list_reverse pR (pv 1)))
  (ak (av (pv 1))))))),?_⟩
 refine ⟨(by show 0<=sizeLine;decide),λl1 h1=>?_⟩
 refine ⟨_,rfl,(by show 1<=sizeLine;decide),λl2 h2'=>?_⟩
 have h2:H l2=none:=jo h2'
 have n12:l1≠l2:=λe=>by subst e;rw [ae] at h2';cases h2'
 have smI:aI H (upd (upd H l1 (.lst [])) l2 (.lst [.ref a])):=λb o e=>by rw [au (aw e h2),au (aw e h1)];exact e
 refine ⟨λm σ H'=>∃(L W:List V) (Lt Wt:List Tr) (o:Option V),σ=[some (.ref a),some (.ref l1),some (.ref l2),o]/\aI H H'/\H' l1=some (.lst L)/\H' l2=some (.lst W)/\cC (ObV c H') L Lt/\cC (ObV c H') W Wt/\
   Lt++(Wt.reverse.flatMap λx=>x.post.reverse)=t.post.reverse/\m=bH Wt,
  ⟨_,[],[.ref a],[],[t],_,rfl,smI,by rw [au n12,ae],ae,.nil,.cons ⟨a,rfl,oa.to (Kp.of smI)⟩ .nil,by simp,rfl⟩,?_⟩
 rintro m σ H' ⟨L,W,Lt,Wt,o,rfl,sm,e1,e2,oL,oW,hp,rfl⟩
 have hlen:Lt.length+bH Wt=t.size:=by
  have z:=congrArg List.length hp
  rw [List.length_append,wd,Am,List.length_reverse,eS] at z
  exact z
 have hLl:=oL.len
 by_cases hw:W=[]
 ·subst hw
  cases oW
  refine ⟨_,rfl,false,.inl ⟨[],SqL.of e2,rfl⟩,bB ?_⟩
  refine ⟨_,rfl,.inl ⟨rfl,_,SqL.of e1⟩,l1,_,rfl,rfl,e1,?_⟩
  have eL:Lt=t.post.reverse:=by simpa using hp
  have kp:=gQ (u:=.lst L.reverse) e1 rfl
  refine ⟨_,rfl,q l1 L.reverse _ (λb o z=>?_) h1 ae ?_⟩
  ·rw [au (aw z h1)];exact sm b o z
  ·have:=(oL.imp (ObV.to kp)).rev
   rw [eL,List.reverse_reverse] at this
   exact this
 ·obtain ⟨W',v,Wt',x,rfl,rfl,⟨b,rfl,ob⟩,oW'⟩:=oW.last hw
  refine ⟨_,rfl,true,.inl ⟨_,SqL.of e2,by cases W' <;> rfl⟩,dI ?_⟩
  have sz:bH (Wt'++[x])=bH Wt'+x.size:=by rw [jT];simp [bH]
  refine ⟨fun σ' H''=>∃ m',m' < bH (Wt'++[x])/\∃(L W:List V) (Lt Wt:List Tr) (o:Option V),σ'=[some (.ref a),some (.ref l1),some (.ref l2),o]/\aI H H''/\H'' l1=some (.lst L)/\H'' l2=some (.lst W)/\cC (ObV c H'') L Lt/\cC (ObV c H'') W Wt/\
   Lt++(Wt.reverse.flatMap λx=>x.post.reverse)=t.post.reverse/\m'=bH Wt,λ_ _ z=>z,?_⟩
  refine ⟨_,rfl,.inl ⟨rfl,_,SqL.of e2⟩,l2,_,_,rfl,rfl,e2,iG _ _,?_⟩
  rw [List.dropLast_concat]
  have e1':upd H' l2 (.lst W') l1=some (.lst L):=by rw [au n12];exact e1
  refine ⟨_,rfl,.inl ⟨rfl,_,SqL.of e1'⟩,_,rfl,l1,_,_,rfl,rfl,e1',by rw [hLl];exact Nat.lt_of_le_of_lt (show Lt.length<=1000 by omega) (by decide),?_⟩
  have k1:Kp H' (upd (upd H' l2 (.lst W')) l1 (.lst (L++[.ref b]))):=(gQ e2 rfl).trans (gQ e1' rfl)
  have e2':upd (upd H' l2 (.lst W')) l1 (.lst (L++[.ref b])) l2=some (.lst W'):=by rw [au n12.symm,ae]
  have ob1:=ob.to k1
  obtain ⟨dx,fs,eb,nf⟩:=ob1.cls
  refine ⟨_,rfl,.inl ⟨rfl,_,SqL.of e2'⟩,_,rfl,b,_,_,_,_,_,rfl,eb,nf _ (by decide +kernel),M.made x,b,rfl,ob1,λl us hl ou=>?_⟩
  have nl2:l2≠l:=aw e2' hl
  have nl1:l1≠l:=aw (ae (H:=upd H' l2 (.lst W'))) hl
  have e2'':upd (upd (upd H' l2 (.lst W')) l1 (.lst (L++[.ref b]))) l (.lst us) l2=some (.lst W'):=by rw [au nl2];exact e2'
  have hWl:=oW'.len
  have hul:=ou.len
  have hkl:=jJ x
  have hWs:=rF Wt'
  refine ⟨l2,l,_,_,rfl,rfl,e2'',ae,by rw [hWl,hul];exact Nat.le_trans (show _<=1002 by omega) (by decide),?_⟩
  have k2:Kp (upd (upd H' l2 (.lst W')) l1 (.lst (L++[.ref b]))) (upd (upd (upd (upd H' l2 (.lst W')) l1 (.lst (L++[.ref b]))) l (.lst us)) l2 (.lst (W'++us))):=(kp_new hl _).trans (gQ e2'' rfl)
  have k3:=k1.trans k2
  have ks:=rJ x
  refine ⟨bH (Wt'++x.kids),by rw [sz,jT];omega,L++[.ref b],W'++us,Lt++[x],Wt'++x.kids,_,rfl,λd o z=>?_,by rw [au n12,au nl1,ae],ae,(oL.imp (ObV.to k3)).app (.cons ⟨b,rfl,ob.to k3⟩ .nil),(oW'.imp (ObV.to k3)).app (ou.imp (ObV.to k2)),?_,rfl⟩
  ·have z1:upd (upd H' l2 (.lst W')) l1 (.lst (L++[.ref b])) d=some o:=by rw [au (aw z h1),au (aw z h2)];exact sm d o z
   rw [au (aw z h2),au (aw z1 hl)]
   exact z1
  ·rw [<- hp]
   simp only [List.reverse_append,List.flatMap_append,List.reverse_cons,List.reverse_nil,List.nil_append,List.append_assoc,List.flatMap_cons,List.flatMap_nil,List.append_nil,List.singleton_append,Dq x,List.cons_append]
end
section
variable {P:Program} {w:World} {K:PySem.W.Frag} {mg:Str->Option Value} {base:Heap} {c:CCs}
theorem Cz:aA ["self","n","x","y","worths","part"] ["self","n","x","y"] (ah sOut):=L2.fsc rfl (by decide +kernel)
theorem ok_out {C:Addr} {t:Tr} (T:aR K C "out_of" "Saying.out_of" sOut) (M:Ms P w K mg base c) (G:∀ t,aT P w K mg base (c.of t) "laid_out" 2 ["self"] (oQ c t)):aT P w K mg base C "out_of" 3 ["self","n","x","y"] (Cm c t):=by
 refine bj T Cz (λ_ _ _ _ _ _=>L2.ar4 λ_ _ _ _=>rfl) (λvs H Q E h=>?_) (λf cdv A outer s H vs Q E hr h=>?_)
 ·obtain ⟨a,n,x,y,rfl,_⟩:=h
  rfl
 obtain ⟨a,n,x,y,rfl,oa,ht,q⟩:=h
 have nd:=Cz.nd
 refine ⟨_,(ag (aJ (i:=4) nd rfl (Or.inl rfl) (bF af))
  (ag (fD PassesOwn.never rfl (cQ (dA (k:=2) (pv 0) (hr.mono (by omega)))) (aV (i:=5) nd rfl (Or.inl rfl)) (ak (bb (pM (k:=2) (pv 5) (hr.mono (by decide)) (aa (pv 4) (aa (pv 1) (aa (pv 2) (aa (pv 3) af))))))))
  (ak (av (ix PySem.F.plainAttrs_list PySem.F.slot_list_pop PySem.F.type_list_pop jH (pv 4)))))),?_⟩
 refine ⟨(by show 0<=sizeLine;decide),λl1 h1=>?_⟩
 have sm1:aI H (upd H l1 (.lst [])):=ao h1 _
 have oa1:=oa.to (Kp.of sm1)
 obtain ⟨dx,fs,ea,nf⟩:=oa1.cls
 refine ⟨_,rfl,a,_,_,_,_,_,rfl,ea,nf _ (by decide +kernel),G t,a,rfl,oa1,ht,λl us H' sm hl el ou=>⟨l,rfl,⟨_,SqL.of el⟩,?_⟩⟩
 have nl:l≠l1:=λe=>by subst e;rw [ae] at hl;cases hl
 refine gS (xs:=us) (λi σ H2=>∃(o:Option V) (R:List Int),σ=[some (.ref a),some (.int n),some (.int x),some (.int y),some (.ref l1),o]/\SB (.ref l1) H' H2/\H2 l1=some (.lst (R.reverse.map V.int))/\R.length<=i/\(gG n x y).run R (t.post.drop i)=some [t.worth n x y])
  ⟨none,[],rfl,SB.refl _ _,sm _ _ ae,Nat.le_refl _,run_all _ t⟩ (λi σ H2 _ h=>?_) (λi v σ H2 hi h=>?_) (fun σ H2 h=>?_)
 ·obtain ⟨o,R,_,sb,_⟩:=h
  exact SqL.of (sb _ _ el λz=>nl (V.ref.inj z))
 ·obtain ⟨o,R,rfl,sb,e,hR,hrun⟩:=h
  obtain ⟨z,hz,b,rfl,ob⟩:=ou.get i v hi
  rw [zI hz] at hrun
  obtain ⟨R',hs,hrun'⟩:=CO hrun
  have kp:Kp H' H2:=sb.kp λa' o' z1 z2=>by cases z1;rw [sm _ _ ae] at z2;cases z2;rfl
  have ob2:=ob.to kp
  obtain ⟨dx',fs',eb,nf'⟩:=ob2.cls
  have hil:i < t.post.length:=(List.getElem?_eq_some_iff.mp hz).1
  rw [eS] at hil
  refine ⟨_,rfl,b,_,_,_,_,_,rfl,eb,nf' _ (by decide +kernel),M.weigh z,_,rfl,_,rfl,_,rfl,_,rfl,b,l1,n,x,y,R,R',rfl,ob2,e,by omega,hs,λH3 sb3 e3=>?_⟩
  exact ⟨_,R',rfl,sb.trans sb3,e3,Nat.le_trans (Cg hs) (Nat.succ_le_succ hR),hrun'⟩
 ·obtain ⟨o,R,rfl,sb,e,hR,hrun⟩:=h
  have ul:=ou.len
  rw [ul,List.drop_length] at hrun
  have eR:R=[t.worth n x y]:=Option.some.inj hrun
  subst eR
  refine ⟨_,rfl,.inl ⟨rfl,_,SqL.of e⟩,l1,_,_,rfl,rfl,e,rfl,q _ λb o z=>?_⟩
  rw [au (aw z h1)]
  exact sb b o (sm b o (sm1 b o z)) λz1=>(aw z h1) (V.ref.inj z1)
end
theorem cut1 (x:V) (us:List V):qm (x::us) (some 1) none=us:=by
 unfold qm
 rw [show _root_.HT.sIx (x::us).length 0 (some 1)=1 from by
  rw [show (some (1:Int))=some ((1:Nat):Int) from rfl,_root_.HT.sM,List.length_cons];omega,_root_.HT.CH]
 show List.take ((x::us).length - 1) us=us
 rw [List.length_cons,Nat.add_sub_cancel,List.take_length]
theorem sl1 {K:PySem.W.Frag} {H:Hp} {a:Addr} {x:V} {us:List V} {Q:VK} (e:H a=some (.tup (x::us))) (h:∀ p,H p=none->Q (.ref p) (upd H p (.tup us))):rSlA K (.ref a) (some 1) none H Q:=by
 refine ⟨a,_,rfl,SqT.of e,λz=>?_,λ_ p=>?_⟩
 ·have hix0:_root_.HT.sIx (x::us).length 0 (some 1)=1:=by
   rw [show (some (1:Int))=some ((1:Nat):Int) from rfl,_root_.HT.sM,List.length_cons];omega
  exact absurd (hix0.symm.trans z) (by decide)
 ·intro hp'
  rw [cut1]
  exact h _ hp'
section
variable {P:Program} {w:World} {K:PySem.W.Frag} {mg:Str->Option Value} {base:Heap} {c:CCs}
theorem pw:aA ["thing"] ["thing"] (ah kI):=L2.fsc rfl (by decide +kernel)
theorem xD (T:aD K mg "is_whole" kI) (aL:mg "isinstance"=none) (fe:mg "int"=none) (nh:mg "bool"=none) (kb:PySem.W.kitOne K (.type "int") (.type "bool")=some false):Def P w K mg base 1 "is_whole" ["thing"] uA:=by
 refine aN T pw (λ_ _ _ _ _ _=>L2.ar1 λ_=>rfl) (λvs H Q E h=>?_) (λf cdv A outer s H vs Q E hr h=>?_)
 ·obtain ⟨i,rfl,_⟩:=h
  rfl
 obtain ⟨i,rfl,q⟩:=h
 have nd:=pw.nd
 refine ⟨_,(ak (av (jD (aB jQ rfl aL (by decide +kernel) (aa (pv 0) (aa (fT (v:=V.ty "int") rfl fe (by decide +kernel) rfl) af))) (mS (Dt (aB jQ rfl aL (by decide +kernel) (aa (pv 0) (aa (fT (v:=V.ty "bool") rfl nh (by decide +kernel) rfl) af)))))))),?_⟩
 exact ⟨_,rfl,_,_,_,_,true,rfl,(λ_ h=>h),jg.int _,fX,_,rfl,dI ⟨_,rfl,_,_,_,_,false,rfl,(λ_ h=>h),jg.int _,kb,_,rfl,q⟩⟩
noncomputable abbrev ptN:List Str:=["thing","n"]
theorem pz:aA ptN ["thing"] (ah dR):=L2.fsc rfl (by decide +kernel)
noncomputable abbrev ptAt (i:Nat):Stmt:=(bu dR).getD i (.Pass ⟨0,0,0,0⟩)
noncomputable def allArg (s:Stmt):Expr:=match s with
 | .If (.UnaryOp _ (.Call _ [e] _ _) _) _ _ _=>e
 | _=>.Constant .none 0 ⟨0,0,0,0⟩
theorem rm:aA ["thing"] ["thing"] (ah gh):=L2.fsc rfl (by decide +kernel)
end
noncomputable def gcs (ns:List Int):Int:=ns.foldl (λg n=>Lo.gc g n) 0
theorem wc (ns:List Int) (n:Int):gcs (ns++[n])=Lo.gc (gcs ns) n:=by
 unfold gcs
 rw [List.foldl_append]
 rfl
theorem Eo:∀(ns:List Int) (g:Int),0<=g->0<=ns.foldl (λg n=>Lo.gc g n) g
 | [],_,h=>h
 | n::ns,g,_=>Eo ns _ (Lo.rP g n)
theorem qc (ns:List Int):0<=gcs ns:=Eo ns 0 (Int.le_refl 0)
theorem gc_z (a:Int) (h:0<=a):Lo.gc 0 a=a:=by
 unfold Lo.gc
 rw [Int.gcd_zero_left]
 omega
theorem gcs3 {a:Int} (b c:Int) (h:0<=a):gcs [a,b,c]=Hu.gg a b c:=by
 show Lo.gc (Lo.gc (Lo.gc 0 a) b) c=_
 rw [gc_z a h]
 rfl
theorem gcs2 {a:Int} (b:Int) (h:0<=a):gcs [a,b]=Lo.gc a b:=by
 show Lo.gc (Lo.gc 0 a) b=_
 rw [gc_z a h]
noncomputable def sg (s:Int) (p q:T3):T3:=⟨p.u+s*q.u,p.v+s*q.v,p.w+s*q.w⟩
theorem Cv (p q:T3):sg 1 p q=Hu.pl p q:=by simp only [sg,Hu.pl,Int.one_mul]
theorem uQ (p q:T3):sg (-1) p q=Hu.mi p q:=by
 simp only [sg,Hu.mi,T3.mk.injEq]
 omega
noncomputable def spAdd (K:PySem.W.Frag):Sp:=λvs H Q _=>∃(x y:V) (p q:T3) (s:Int),vs=[x,y,.int s]/\Dat K H (t3D p) x/\Dat K H (t3D q) y/\(s=1\/s = -1)/\Hu.R3 3000 q/\∀(t:Addr) (H':Hp),aI H H'->Dat K H' (t3D (sg s p q)) (.ref t)->Q (.ref t) H'
theorem qu:∀ ns:List Int,cC (λv n=>v=V.int n) (ns.map V.int) ns
 | []=>.nil
 | _::r=>.cons rfl (qu r)
noncomputable def spLwL:Sp:=λvs H Q _=>∃(l:Addr) (ns:List Int),vs=[.ref l]/\H l=some (.lst (ns.map V.int))/\(∀ n∈ns,0<=n)/\gcs ns≠0/\Bg (gcs ns)/\ns.length<=100/\∀(t:Addr) (H':Hp),aI H H'->H' t=some (.tup (ns.map λn=>V.int (n.fdiv (gcs ns))))->Q (.ref t) H'
noncomputable def spLwT:Sp:=λvs H Q _=>∃(l:Addr) (ns:List Int),vs=[.ref l]/\H l=some (.tup (ns.map V.int))/\(∀ n∈ns,0<=n)/\gcs ns≠0/\Bg (gcs ns)/\ns.length<=100/\∀(t:Addr) (H':Hp),aI H H'->H' t=some (.tup (ns.map λn=>V.int (n.fdiv (gcs ns))))->Q (.ref t) H'
section
variable {P:Program} {w:World} {K:PySem.W.Frag} {mg:Str->Option Value} {base:Heap}
theorem qR {H1:Hp} {ax ay D:Addr} {p q:T3} {F:Int->Int->Int} {te:TE} {g:TG} {js:List Nat} {σ:St} {R:Hp->Prop}
  (sx:SqT K H1 ax [.int p.u,.int p.v,.int p.w]) (sy:SqT K H1 ay [.int q.u,.int q.v,.int q.w]) (hD:H1 D=none)
  (hg:∀(T':Addr) (x y:V) (o1 o2:Option V) (H:Hp) (R:St->Hp->Prop),SqT K H T' [x,y]->R (some x::some y::bI js σ) H->g (.ref T') (o1::o2::bI js σ) H R)
  (step:∀(x y:Int) (H':Hp) (k:VK),(y=q.u\/y=q.v\/y=q.w)->(x=p.u\/x=p.v\/x=p.w)->k (.int (F x y)) H'->te (some (.int x)::some (.int y)::bI js σ) H' k)
  (fin:∀ H',aI H1 H'->H' D=some (.lst [.int (F p.u q.u),.int (F p.v q.v),.int (F p.w q.w)])->R H') :
  ∃ W:Nat->Nat->Hp->Prop,(∃ m,W 0 m (upd H1 D (.lst [])))/\∀ i m H2,W i m H2->((BK K ax ay).stop i H2/\R H2)\/
   ((
    BK K ax ay).go i H2/\∀ o:St,o.length=2->∀ v H3,(BK K ax ay).yld i H2 v H3->g v (o++bI js σ) H3 fun σ4 H4=>∃ o',o'.length=2/\σ4=o'++bI js σ/\te (o'++bI js σ) H4 λy H5 =>
    ∃ ys,H5 D=some (.lst ys)/\ys.length < sizeLine/\∃ m',m' < m/\W (i+1) m' (upd H5 D (.lst (ys++[y])))):=by
 refine ⟨λi m H2=>m=3 - i/\i<=3/\aI H1 H2/\H2 D=some (.lst ([V.int (F p.u q.u),.int (F p.v q.v),.int (F p.w q.w)].take i)),⟨_,rfl,Nat.zero_le _,ao hD _,ae⟩,?_⟩
 rintro i m H2 ⟨rfl,hi,sm,hlD⟩
 have sx2:=sx.ts sm.ts
 have sy2:=sy.ts sm.ts
 by_cases hlt:i < 3
 ·refine .inr ⟨⟨_,_,sx2,sy2,hlt,Nat.le_refl _⟩,λo ho v H3 y=>?_⟩
  obtain ⟨T',vs,nT,rfl,rfl,x,y,rfl,hx,hy⟩:=y
  have zx:=hx _ sx2
  have zy:=hy _ sy2
  obtain ⟨o1,o2,rfl⟩:=len2 ho
  have uT:=ao nT (.tup [x,y])
  refine hg T' x y o1 o2 _ _ (SqT.of ae) ⟨[some x,some y],rfl,rfl,?_⟩
  have hlD2:=uT _ _ hlD
  rcases (show i=0\/i=1\/i=2 by omega) with rfl | rfl | rfl
  ·cases zx
   cases zy
   exact step _ _ _ _ (.inl rfl) (.inl rfl) ⟨_,hlD2,aQ (by simp),3 - 1,by omega,rfl,by omega,aU (sm.trans uT) hD _,ae⟩
  ·cases zx
   cases zy
   exact step _ _ _ _ (.inr (.inl rfl)) (.inr (.inl rfl)) ⟨_,hlD2,aQ (by simp),3 - 2,by omega,rfl,by omega,aU (sm.trans uT) hD _,ae⟩
  ·cases zx
   cases zy
   exact step _ _ _ _ (.inr (.inr rfl)) (.inr (.inr rfl)) ⟨_,hlD2,aQ (by simp),3 - 3,by omega,rfl,by omega,aU (sm.trans uT) hD _,ae⟩
 ·have ei:i=3:=by omega
  subst ei
  exact .inl ⟨⟨_,_,sx2,sy2,Nat.le_refl _,Nat.le_refl _⟩,fin _ sm hlD⟩
theorem ok_lsum (T:aD K mg "_law_sum" lI) (gW:mg "zip"=none) (aP:mg "tuple"=none):Def P w K mg base 1 "_law_sum" ["_law_one","_law_other","_law_by"] (spAdd K):=by
 refine aN T vd (λ_ _ _ _ _ _=>L2.ar3 λ_ _ _=>rfl) (λvs H Q E h=>?_) (λf cdv A outer s H vs Q E hr h=>?_)
 ·obtain ⟨x,y,p,q,s,rfl,_⟩:=h
  rfl
 obtain ⟨x,y,p,q,sn,rfl,dx,dy,hs,bq,k⟩:=h
 obtain ⟨ax,rfl,sx⟩:=dH dx
 obtain ⟨ay,rfl,sy⟩:=dH dy
 have nd:=vd.nd
 have bs:Bg sn:=gU (n:=1) (by rcases hs with rfl | rfl <;> decide) (by decide)
 obtain ⟨q1,q2,q3⟩:=r3b bq
 refine ⟨_,(ak (av (bV bS rfl aP (by decide +kernel) (aa (jY (xs:=["_law_a","_law_b"]) rfl (lP rfl gW (pv 0) (pv 1)) rfl (by decide +kernel) (by decide +kernel) (show ∀ p∈Scope.names _,p.2=NameKind.free->List.lookup p.1 (ah lI).names=some .cell\/List.lookup p.1 (ah lI).names=some .free by decide +kernel) (cI (j:=2) rfl (Or.inl rfl) (by decide +kernel) (Or.inl rfl) cR) (show (["_law_a","_law_b","_law_by"]:List Str).Nodup by decide +kernel) (λ_ _ _ _=>lQ (K:=K) (n:=2) rfl rfl (bg (aV (i:=0) (show (["_law_a","_law_b","_law_by"]:List Str).Nodup by decide +kernel) rfl (Or.inl rfl) (.inr rfl)) (bg (aV (i:=1) (show (["_law_a","_law_b","_law_by"]:List Str).Nodup by decide +kernel) rfl (Or.inl rfl) (.inr rfl)) dO))) (λ_ _ _ _=>(aK bR (pv 0) (aK bE (pv 2) (pv 1))))) af)))),?_⟩
 refine ⟨_,rfl,_,rfl,ax,ay,_,_,rfl,rfl,sx,sy,λD hD=>?_⟩
 refine qR (K:=K) (F:=λx y=>x+sn*y) sx sy hD (λT' x y o1 o2 H R s r=>⟨T',_,rfl,s,rfl,_,_,rfl,_,_,rfl,rfl,r⟩) (λx y H' k hy hx z=>?_) (λH' s' eD=>?_)
 ·have by':Bg y:=by rcases hy with rfl | rfl | rfl <;> assumption
  exact ⟨_,rfl,_,rfl,_,rfl,_,_,rfl,rfl,gP bs by',_,_,rfl,rfl,z⟩
 ·refine ⟨D,_,rfl,.inl ⟨SqL.of eD,λtt htt=>?_⟩⟩
  exact k tt _ (s'.trans (ao htt _)) (bW (p:=sg sn p q) (SqT.of ae))
theorem ok_lwL (T:aD K mg "_law_lowest" de) (aP:mg "tuple"=none):Def P w K mg base 1 "_law_lowest" ["_law_point"] spLwL:=by
 refine aN T hJ (λ_ _ _ _ _ _=>L2.ar1 λ_=>rfl) (λvs H Q E h=>?_) (λf cdv A outer s H vs Q E hr h=>?_)
 ·obtain ⟨l,ns,rfl,_⟩:=h
  rfl
 obtain ⟨l,ns,rfl,el,pos,g0,gb,few,q⟩:=h
 have nd:=hJ.nd
 refine ⟨_,(ag (aJ (i:=1) nd rfl (Or.inr rfl) aq)
  (ag (fD PassesOwn.never rfl (cQ (pv 0)) (aV (i:=2) nd rfl (Or.inl rfl)) (ak (iQ PassesOwn.never (aC jF (pv 2) aq (aF _)) (ak (sY (bh (aa (pv 2) (aa (aK ib (pv 1) (pv 2)) af))) (jB rfl (bg (aV (i:=1) nd rfl (Or.inr rfl)) (bg (aV (i:=2) nd rfl (Or.inl rfl)) dO))))))))
  (ak (av (bV bS rfl aP (by decide +kernel) (aa (eT rfl (cQ (pv 0)) rfl (by decide +kernel) (by decide +kernel) rfl (show ∀ p∈Scope.names _,p.2=NameKind.free->List.lookup p.1 (ah de).names=some .cell\/List.lookup p.1 (ah de).names=some .free by decide +kernel) (cI (j:=1) rfl (Or.inl rfl) (by decide +kernel) (Or.inl rfl) cR) (show (["_law_number","_law_by"]:List Str).Nodup by decide +kernel) (λ_ _ _ _=>dq) (λ_ _ _ _=>(aK jG (pv 0) (pv 1)))) af)))))),?_⟩
 refine ⟨_,rfl,l,rfl,⟨_,SqL.of el⟩,?_⟩
 refine gS (xs:=ns.map V.int) (λi σ H'=>aI H H'/\∃ o2,σ=[some (.ref l),some (.int (gcs (ns.take i))),o2]) ⟨aI.refl _,_,rfl⟩ (λi σ H' _ z=>SqL.of (z.1 _ _ el)) (λi v σ H' hv z=>?_) (fun σ H' z=>?_)
 ·obtain ⟨s1,o2,rfl⟩:=z
  rw [List.getElem?_map] at hv
  obtain ⟨n,hn,rfl⟩:=Option.map_eq_some_iff.mp hv
  have n0:=pos n (List.mem_of_getElem? hn)
  have gn:=qc (ns.take i)
  refine ⟨λm σ H''=>aI H H''/\∃(g l':Int),σ=[some (.ref l),some (.int g),some (.int l')]/\0<=g/\0<=l'/\l'.toNat=m/\Lo.gc g l'=Lo.gc (gcs (ns.take i)) n,⟨_,s1,_,_,rfl,gn,n0,rfl,rfl⟩,?_⟩
  rintro m σ H'' ⟨s2,g,l',rfl,hg,hl',rfl,e⟩
  refine ⟨_,rfl,_,_,rfl,rfl,_,rfl,?_⟩
  refine dB (λc=>?_) (λc=>?_)
  ·have c2:0 < l':=of_decide_eq_true c
   refine ⟨fun σ' H3=>aI H H3/\σ'=[some (.ref l),some (.int l'),some (.int (g.fmod l'))],?_,?_⟩
   ·rintro σ' H3 ⟨s3,rfl⟩
    have z0:=Int.fmod_nonneg_of_pos g c2
    have z1:=Int.fmod_lt_of_pos g c2
    exact ⟨_,(show (g.fmod l').toNat < l'.toNat by omega),s3,l',g.fmod l',rfl,by omega,z0,rfl,by rw [Lo.tV];exact e⟩
   ·exact ⟨_,rfl,_,rfl,_,rfl,_,_,rfl,rfl,(by omega),(by show 2<=sizeLine;decide),λp hp=>⟨p,_,rfl,SqT.of ae,rfl,_,_,rfl,_,_,rfl,rfl,s2.trans (ao hp _),rfl⟩⟩
  ·have c2:¬0 < l':=λz=>c (decide_eq_true z)
   have l0:l'=0:=by omega
   subst l0
   rw [Lo.tU hg] at e
   refine ⟨s2,some (.int 0),?_⟩
   rw [List.take_add_one,hn]
   show _=[_,some (V.int (gcs (ns.take i++[n]))),_]
   rw [wc,<- e]
 ·obtain ⟨s1,o2,rfl⟩:=z
  have el:=s1 _ _ el
  rw [List.length_map,List.take_length]
  dsimp only [Ai,tOp,tC,tCB,eA,nM]
  refine comp_map (K:=K) (ts:=ns) (R:=λ_ v n=>v=V.int n) (xs:=ns.map V.int) (λn=>.int (n.fdiv (gcs ns))) (λ_ _ _ _ _ h=>h) (λl' H2=>l'=l/\H2=H') (λR h=>⟨_,rfl,l,rfl,⟨_,SqL.of el⟩,h l _ ⟨rfl,rfl⟩⟩) (λl' H2 h=>by obtain ⟨rfl,rfl⟩:=h;exact ⟨el,aI.refl _⟩) (by simp;omega)
   (qu ns) (λv n H2 N hn hv hN=>?_) (λD H2 s2 hD eD=>?_)
  ·subst hv
   exact ⟨_,rfl,_,rfl,_,_,rfl,rfl,xZ g0 gb,hN _ (aI.refl _)⟩
  ·refine ⟨D,_,rfl,.inl ⟨SqL.of eD,λtt htt=>?_⟩⟩
   exact q tt _ ((s1.trans s2).trans (ao htt _)) ae
end
section
variable {P:Program} {w:World} {K:PySem.W.Frag} {mg:Str->Option Value} {base:Heap}
theorem xC (T:aD K mg "_law_tells" mK):Def P w K mg base 1 "_law_tells" ["_law_rule_here","_law_corner"] (Al K):=by
 refine aN T pj (λ_ _ _ _ _ _=>L2.ar2 λ_ _=>rfl) (λvs H Q E h=>?_) (λf cdv A outer s H vs Q E hr h=>?_)
 ·obtain ⟨x,y,r,p,rfl,_⟩:=h
  rfl
 obtain ⟨x,y,r,p,rfl,dx,dy,br,bp,q⟩:=h
 obtain ⟨ar,rfl,sr⟩:=dH dx
 obtain ⟨ap,rfl,st⟩:=dH dy
 obtain ⟨r1,r2,r3⟩:=r3b br
 obtain ⟨p1,p2,p3⟩:=r3b bp
 have nd:=pj.nd
 refine ⟨_,(ak (av (aK bR (aK bR (aK bE (aE az (pv 0) aq (λ_ _=>rfl)) (aE az (pv 1) aq (λ_ _=>rfl))) (aK bE (aE az (pv 0) aq (λ_ _=>rfl)) (aE az (pv 1) aq (λ_ _=>rfl)))) (aK bE (aE az (pv 0) aq (λ_ _=>rfl)) (aE az (pv 1) aq (λ_ _=>rfl)))))),?_⟩
 exact ⟨_,rfl,_,_,_,_,rfl,rfl,sr,rfl,_,rfl,_,_,_,_,rfl,rfl,st,rfl,_,_,rfl,rfl,gP r1 p2,_,rfl,_,_,_,_,rfl,rfl,sr,rfl,_,rfl,_,_,_,_,rfl,rfl,st,rfl,_,_,rfl,rfl,gP r2 p3,_,_,rfl,rfl,_,rfl,_,_,_,_,rfl,rfl,sr,rfl,_,rfl,_,_,_,_,rfl,rfl,st,rfl,_,_,rfl,rfl,gP r3 p1,_,_,rfl,rfl,q⟩
end
noncomputable def lw (k:Nat):Str:=if k=0 then "never" else if k=1 then "always" else if k=2 then "p" else "q"
noncomputable def fw (k:Nat):Str:=if k=0 then "more" else if k=1 then "less" else if k=2 then "greater" else if k=3 then "lesser" else "leads"
noncomputable def rwV:Hu.Row->List PyData
 | .lf k=>[.str (lw k)]
 | .nt i=>[.str "not",.int i]
 | .fd k i j=>[.str (fw k),.int i,.int j]
noncomputable def rwX:Hu.Row->List V
 | .lf k=>[.str (lw k)]
 | .nt i=>[.str "not",.int i]
 | .fd k i j=>[.str (fw k),.int i,.int j]
noncomputable def lK (r:Hu.Row):PyData:=.tuple (rwV r)
noncomputable def kT (rows:List Hu.Row):Prop:=∀(k:Nat) (r:Hu.Row),rows[k]?=some r->r.Ok k
section
variable {K:PySem.W.Frag} {H H':Hp} {v:V} {r:Hu.Row}
theorem CY (g:Dat K H (lK r) v):∃ a,v=.ref a/\SqT K H a (rwX r):=by
 cases r with
 | lf k =>
  obtain ⟨a,xs,rfl,g,x,t,rfl,hx,ht⟩:=g
  cases (show x=V.str (lw k) from hx)
  cases (show t=[] from ht)
  exact ⟨a,rfl,g⟩
 | nt i =>
  obtain ⟨a,xs,rfl,g,x,t,rfl,hx,y,u,rfl,hy,ht⟩:=g
  cases (show x=V.str "not" from hx)
  cases (show y=V.int i from hy)
  cases (show u=[] from ht)
  exact ⟨a,rfl,g⟩
 | fd k i j =>
  obtain ⟨a,xs,rfl,g,x,t,rfl,hx,y,u,rfl,hy,z,w,rfl,hz,ht⟩:=g
  cases (show x=V.str (fw k) from hx)
  cases (show y=V.int i from hy)
  cases (show z=V.int j from hz)
  cases (show w=[] from ht)
  exact ⟨a,rfl,g⟩
theorem row_mk {a:Addr} (g:SqT K H a (rwX r)):Dat K H (lK r) (.ref a):=by
 cases r with
 | lf k=>exact ⟨a,_,rfl,g,_,_,rfl,rfl,rfl⟩
 | nt i=>exact ⟨a,_,rfl,g,_,_,rfl,rfl,_,_,rfl,rfl,rfl⟩
 | fd k i j=>exact ⟨a,_,rfl,g,_,_,rfl,rfl,_,_,rfl,rfl,_,_,rfl,rfl,rfl⟩
theorem zc {xs:List V} {rows:List Hu.Row} (g:DatAll K H (rows.map lK) xs) {i:Nat} {x:V} (e:xs[i]?=some x):∃ r,rows[i]?=some r/\Dat K H (lK r) x:=by
 obtain ⟨d,e1,e2⟩:=g.get' e
 rw [List.getElem?_map] at e1
 cases z:rows[i]? with
 | none=>rw [z] at e1;cases e1
 | some s=>rw [z] at e1;cases e1;exact ⟨s,rfl,e2⟩
theorem zb {xs:List V} {rows:List Hu.Row} (g:DatAll K H (rows.map lK) xs):xs.length=rows.length:=by rw [g.len,List.length_map]
end
noncomputable def sp2 (K:PySem.W.Frag) (f:T3->T3->T3):Sp:=λvs H Q _=>∃(x y:V) (p q:T3),vs=[x,y]/\Dat K H (t3D p) x/\Dat K H (t3D q) y/\∀(t:Addr) (H':Hp),aI H H'->Dat K H' (t3D (f p q)) (.ref t)->Q (.ref t) H'
noncomputable def Ch (K:PySem.W.Frag) (H:Hp) (c:T3×T3×T3) (v:V):Prop:=∃(t:Addr) (x y z:V),v=.ref t/\SqT K H t [x,y,z]/\Dat K H (t3D c.1) x/\Dat K H (t3D c.2.1) y/\Dat K H (t3D c.2.2) z
noncomputable def Cq (K:PySem.W.Frag):Sp:=λvs H Q _=>∃ k:Nat,vs=[.str (lw k)]/\k < 4/\∀ v,Dat K H (t3D (Hu.lft k)) v->Q v H
noncomputable def Ct (K:PySem.W.Frag):Sp:=λvs H Q _=>∃(k:Nat) (x y:V) (a b:T3),vs=[.str (fw k),x,y]/\k < 5/\Dat K H (t3D a) x/\Dat K H (t3D b) y/\∀(v:V) (H':Hp),aI H H'->Ch K H' (Hu.fch k a b) v->Q v H'
section
variable {P:Program} {w:World} {K:PySem.W.Frag} {mg:Str->Option Value} {base:Heap}
theorem ok_both (T:aD K mg "both" pG) (gW:mg "zip"=none) (aP:mg "tuple"=none):Def P w K mg base 1 "both" ["one","other"] (sp2 K Hu.pl):=by
 refine aN T yY (λ_ _ _ _ _ _=>L2.ar2 λ_ _=>rfl) (λvs H Q E h=>?_) (λf cdv A outer s H vs Q E hr h=>?_)
 ·obtain ⟨x,y,p,q,rfl,_⟩:=h
  rfl
 obtain ⟨x,y,p,q,rfl,dx,dy,k⟩:=h
 obtain ⟨ax,rfl,sx⟩:=dH dx
 obtain ⟨ay,rfl,sy⟩:=dH dy
 have nd:=yY.nd
 refine ⟨_,(ak (av (bV bS rfl aP (by decide +kernel) (aa (jY (xs:=["first","second"]) rfl (lP rfl gW (pv 0) (pv 1)) rfl (by decide +kernel) (by decide +kernel) (show ∀ p∈Scope.names _,p.2=NameKind.free->List.lookup p.1 (ah pG).names=some .cell\/List.lookup p.1 (ah pG).names=some .free by decide +kernel) cR (show (["first","second"]:List Str).Nodup by decide +kernel) (λ_ _ _ _=>lQ (K:=K) (n:=2) rfl rfl (bg (aV (i:=0) (show (["first","second"]:List Str).Nodup by decide +kernel) rfl (Or.inl rfl) (.inr rfl)) (bg (aV (i:=1) (show (["first","second"]:List Str).Nodup by decide +kernel) rfl (Or.inl rfl) (.inr rfl)) dO))) (λ_ _ _ _=>(aK bR (pv 0) (pv 1)))) af)))),?_⟩
 refine ⟨_,rfl,_,rfl,ax,ay,_,_,rfl,rfl,sx,sy,λD hD=>?_⟩
 refine ⟨λi m H2=>m=3 - i/\i<=3/\aI H H2/\H2 D=some (.lst ([V.int (p.u+q.u),.int (p.v+q.v),.int (p.w+q.w)].take i)),⟨_,rfl,Nat.zero_le _,ao hD _,ae⟩,?_⟩
 rintro i m H2 ⟨rfl,hi,sm,hlD⟩
 have sx2:=sx.ts sm.ts
 have sy2:=sy.ts sm.ts
 by_cases hlt:i < 3
 ·refine .inr ⟨⟨_,_,sx2,sy2,hlt,Nat.le_refl _⟩,λo ho v H3 y=>?_⟩
  obtain ⟨T',vs,nT,rfl,rfl,x,y,rfl,hx,hy⟩:=y
  have zx:=hx _ sx2
  have zy:=hy _ sy2
  obtain ⟨o1,o2,rfl⟩:=len2 ho
  have uT:=ao nT (.tup [x,y])
  refine ⟨T',_,rfl,SqT.of ae,rfl,_,_,rfl,_,_,rfl,rfl,[some x,some y],rfl,rfl,?_⟩
  have hlD2:=uT _ _ hlD
  rcases (show i=0\/i=1\/i=2 by omega) with rfl | rfl | rfl
  ·cases zx
   cases zy
   exact ⟨_,rfl,_,rfl,_,_,rfl,rfl,_,hlD2,aQ (by simp),3 - 1,by omega,rfl,by omega,aU (sm.trans uT) hD _,ae⟩
  ·cases zx
   cases zy
   exact ⟨_,rfl,_,rfl,_,_,rfl,rfl,_,hlD2,aQ (by simp),3 - 2,by omega,rfl,by omega,aU (sm.trans uT) hD _,ae⟩
  ·cases zx
   cases zy
   exact ⟨_,rfl,_,rfl,_,_,rfl,rfl,_,hlD2,aQ (by simp),3 - 3,by omega,rfl,by omega,aU (sm.trans uT) hD _,ae⟩
 have ei:i=3:=by omega
 subst ei
 refine .inl ⟨⟨_,_,sx2,sy2,Nat.le_refl _,Nat.le_refl _⟩,?_⟩
 refine ⟨D,_,rfl,.inl ⟨SqL.of hlD,λtt htt=>?_⟩⟩
 exact k tt _ (sm.trans (ao htt _)) (bW (p:=Hu.pl p q) (SqT.of ae))
theorem xx (T:aD K mg "without" iL) (gW:mg "zip"=none) (aP:mg "tuple"=none):Def P w K mg base 1 "without" ["one","other"] (sp2 K Hu.mi):=by
 refine aN T oV (λ_ _ _ _ _ _=>L2.ar2 λ_ _=>rfl) (λvs H Q E h=>?_) (λf cdv A outer s H vs Q E hr h=>?_)
 ·obtain ⟨x,y,p,q,rfl,_⟩:=h
  rfl
 obtain ⟨x,y,p,q,rfl,dx,dy,k⟩:=h
 obtain ⟨ax,rfl,sx⟩:=dH dx
 obtain ⟨ay,rfl,sy⟩:=dH dy
 have nd:=oV.nd
 refine ⟨_,(ak (av (bV bS rfl aP (by decide +kernel) (aa (jY (xs:=["first","second"]) rfl (lP rfl gW (pv 0) (pv 1)) rfl (by decide +kernel) (by decide +kernel) (show ∀ p∈Scope.names _,p.2=NameKind.free->List.lookup p.1 (ah iL).names=some .cell\/List.lookup p.1 (ah iL).names=some .free by decide +kernel) cR (show (["first","second"]:List Str).Nodup by decide +kernel) (λ_ _ _ _=>lQ (K:=K) (n:=2) rfl rfl (bg (aV (i:=0) (show (["first","second"]:List Str).Nodup by decide +kernel) rfl (Or.inl rfl) (.inr rfl)) (bg (aV (i:=1) (show (["first","second"]:List Str).Nodup by decide +kernel) rfl (Or.inl rfl) (.inr rfl)) dO))) (λ_ _ _ _=>(aK eU (pv 0) (pv 1)))) af)))),?_⟩
 refine ⟨_,rfl,_,rfl,ax,ay,_,_,rfl,rfl,sx,sy,λD hD=>?_⟩
 refine ⟨λi m H2=>m=3 - i/\i<=3/\aI H H2/\H2 D=some (.lst ([V.int (p.u - q.u),.int (p.v - q.v),.int (p.w - q.w)].take i)),⟨_,rfl,Nat.zero_le _,ao hD _,ae⟩,?_⟩
 rintro i m H2 ⟨rfl,hi,sm,hlD⟩
 have sx2:=sx.ts sm.ts
 have sy2:=sy.ts sm.ts
 by_cases hlt:i < 3
 ·refine .inr ⟨⟨_,_,sx2,sy2,hlt,Nat.le_refl _⟩,λo ho v H3 y=>?_⟩
  obtain ⟨T',vs,nT,rfl,rfl,x,y,rfl,hx,hy⟩:=y
  have zx:=hx _ sx2
  have zy:=hy _ sy2
  obtain ⟨o1,o2,rfl⟩:=len2 ho
  have uT:=ao nT (.tup [x,y])
  refine ⟨T',_,rfl,SqT.of ae,rfl,_,_,rfl,_,_,rfl,rfl,[some x,some y],rfl,rfl,?_⟩
  have hlD2:=uT _ _ hlD
  rcases (show i=0\/i=1\/i=2 by omega) with rfl | rfl | rfl
  ·cases zx
   cases zy
   exact ⟨_,rfl,_,rfl,_,_,rfl,rfl,_,hlD2,aQ (by simp),3 - 1,by omega,rfl,by omega,aU (sm.trans uT) hD _,ae⟩
  ·cases zx
   cases zy
   exact ⟨_,rfl,_,rfl,_,_,rfl,rfl,_,hlD2,aQ (by simp),3 - 2,by omega,rfl,by omega,aU (sm.trans uT) hD _,ae⟩
  ·cases zx
   cases zy
   exact ⟨_,rfl,_,rfl,_,_,rfl,rfl,_,hlD2,aQ (by simp),3 - 3,by omega,rfl,by omega,aU (sm.trans uT) hD _,ae⟩
 have ei:i=3:=by omega
 subst ei
 refine .inl ⟨⟨_,_,sx2,sy2,Nat.le_refl _,Nat.le_refl _⟩,?_⟩
 refine ⟨D,_,rfl,.inl ⟨SqL.of hlD,λtt htt=>?_⟩⟩
 exact k tt _ (sm.trans (ao htt _)) (bW (p:=Hu.mi p q) (SqT.of ae))
theorem ok_leaf (T:aD K mg "leaf_rule" jw) (gx:fL K mg "NEVER" [0,0,0]) (fg:fL K mg "ALWAYS" [0,0,1]) (kW:fL K mg "LETTER_P" [1,0,0]) (kU:fL K mg "LETTER_Q" [0,1,0]):Def P w K mg base 1 "leaf_rule" ["word"] (Cq K):=by
 refine aN T lE (λ_ _ _ _ _ _=>L2.ar1 λ_=>rfl) (λvs H Q E h=>?_) (λf cdv A outer s H vs Q E hr h=>?_)
 ·obtain ⟨k,rfl,_⟩:=h
  rfl
 obtain ⟨k,rfl,hk,q⟩:=h
 obtain ⟨aNE,mh,sNE⟩:=gx.ex
 obtain ⟨aAL,dJ,sAL⟩:=fg.ex
 obtain ⟨aLP,yo,sLP⟩:=kW.ex
 obtain ⟨aLQ,yn,sLQ⟩:=kU.ex
 have nd:=lE.nd
 refine ⟨_,(ag (aO (aC bQ (pv 0) aM (aF _)) (ak (av (cG (v:=V.ref aNE) rfl mh rfl))) aG)
  (ag (aO (aC bQ (pv 0) aM (aF _)) (ak (av (cG (v:=V.ref aAL) rfl dJ rfl))) aG)
  (ak (av (lR (aC bQ (pv 0) aM (aF _)) (cG (v:=V.ref aLP) rfl yo rfl) (cG (v:=V.ref aLQ) rfl yn rfl)))))),?_⟩
 rcases (by omega:k=0\/k=1\/k=2\/k=3) with rfl | rfl | rfl | rfl
 ·refine ⟨_,rfl,rfl,_,rfl,?_⟩
  rw [show decide (V.str (lw 0)=V.str "never")=true by decide +kernel]
  exact dI (q _ (bW (p:=⟨0,0,0⟩) (sNE H)))
 ·refine ⟨_,rfl,rfl,_,rfl,?_⟩
  rw [show decide (V.str (lw 1)=V.str "never")=false by decide +kernel]
  refine bB ?_
  refine ⟨_,rfl,rfl,_,rfl,?_⟩
  rw [show decide (V.str (lw 1)=V.str "always")=true by decide +kernel]
  exact dI (q _ (bW (p:=⟨0,0,1⟩) (sAL H)))
 ·refine ⟨_,rfl,rfl,_,rfl,?_⟩
  rw [show decide (V.str (lw 2)=V.str "never")=false by decide +kernel]
  refine bB ?_
  refine ⟨_,rfl,rfl,_,rfl,?_⟩
  rw [show decide (V.str (lw 2)=V.str "always")=false by decide +kernel]
  refine bB ?_
  refine ⟨_,rfl,rfl,_,rfl,?_⟩
  rw [show decide (V.str (lw 2)=V.str "p")=true by decide +kernel]
  exact dI (q _ (bW (p:=⟨1,0,0⟩) (sLP H)))
 ·refine ⟨_,rfl,rfl,_,rfl,?_⟩
  rw [show decide (V.str (lw 3)=V.str "never")=false by decide +kernel]
  refine bB ?_
  refine ⟨_,rfl,rfl,_,rfl,?_⟩
  rw [show decide (V.str (lw 3)=V.str "always")=false by decide +kernel]
  refine bB ?_
  refine ⟨_,rfl,rfl,_,rfl,?_⟩
  rw [show decide (V.str (lw 3)=V.str "p")=false by decide +kernel]
  exact bB (q _ (bW (p:=⟨0,1,0⟩) (sLQ H)))
theorem ok_fold (T:aD K mg "fold_choice" iu) (gx:fL K mg "NEVER" [0,0,0]) (fg:fL K mg "ALWAYS" [0,0,1]) (qA:Def P w K mg base 1 "both" ["one","other"] (sp2 K Hu.pl)) (dE:Def P w K mg base 1 "without" ["one","other"] (sp2 K Hu.mi)):Def P w K mg base 2 "fold_choice" ["word","one","other"] (Ct K):=by
 refine aN T ju (λ_ _ _ _ _ _=>L2.ar3 λ_ _ _=>rfl) (λvs H Q E h=>?_) (λf cdv A outer s H vs Q E hr h=>?_)
 ·obtain ⟨k,x,y,a,b,rfl,_⟩:=h
  rfl
 obtain ⟨k,x,y,a,b,rfl,hk,dx,dy,q⟩:=h
 obtain ⟨aNE,mh,sNE⟩:=gx.ex
 obtain ⟨aAL,dJ,sAL⟩:=fg.ex
 have dAL:∀ H,Dat K H (t3D Hu.al) (.ref aAL):=λH=>bW (p:=Hu.al) (sAL H)
 have dNE:∀ H,Dat K H (t3D Hu.z0) (.ref aNE):=λH=>bW (p:=Hu.z0) (sNE H)
 have nd:=ju.nd
 refine ⟨_,(ag (aO (aC bQ (pv 0) aM (aF _)) (ak (av (bh (aa (aH dE (hr.mono (by decide)) rfl (aa (aH qA (hr.mono (by decide)) rfl (aa (pv 1) (aa (pv 2) af))) (aa (cG (v:=V.ref aAL) rfl dJ rfl) af))) (aa (aH qA (hr.mono (by decide)) rfl (aa (pv 1) (aa (pv 2) af))) (aa (cG (v:=V.ref aAL) rfl dJ rfl) af)))))) aG)
  (ag (aO (aC bQ (pv 0) aM (aF _)) (ak (av (bh (aa (aH dE (hr.mono (by decide)) rfl (aa (aH qA (hr.mono (by decide)) rfl (aa (pv 1) (aa (pv 2) af))) (aa (cG (v:=V.ref aAL) rfl dJ rfl) af))) (aa (cG (v:=V.ref aNE) rfl mh rfl) (aa (aH dE (hr.mono (by decide)) rfl (aa (aH qA (hr.mono (by decide)) rfl (aa (pv 1) (aa (pv 2) af))) (aa (cG (v:=V.ref aAL) rfl dJ rfl) af))) af)))))) aG)
  (ag (aO (aC bQ (pv 0) aM (aF _)) (ak (av (bh (aa (aH dE (hr.mono (by decide)) rfl (aa (pv 1) (aa (pv 2) af))) (aa (pv 2) (aa (pv 1) af)))))) aG)
  (ag (aO (aC bQ (pv 0) aM (aF _)) (ak (av (bh (aa (aH dE (hr.mono (by decide)) rfl (aa (pv 1) (aa (pv 2) af))) (aa (pv 1) (aa (pv 2) af)))))) aG)
  (ak (av (bh (aa (aH dE (hr.mono (by decide)) rfl (aa (pv 2) (aa (pv 1) af))) (aa (aH qA (hr.mono (by decide)) rfl (aa (cG (v:=V.ref aAL) rfl dJ rfl) (aa (aH dE (hr.mono (by decide)) rfl (aa (pv 2) (aa (pv 1) af))) af))) (aa (cG (v:=V.ref aAL) rfl dJ rfl) af)))))))))),?_⟩
 have d2:(2:Nat)<=sizeLine:=by decide
 have d3:(3:Nat)<=sizeLine:=by decide
 rcases (by omega:k=0\/k=1\/k=2\/k=3\/k=4) with rfl | rfl | rfl | rfl | rfl
 ·refine ⟨_,rfl,rfl,_,rfl,?_⟩
  rw [show decide (V.str (fw 0)=V.str "more")=true by decide +kernel]
  refine dI ?_
  refine ⟨_,rfl,_,rfl,_,_,a,b,rfl,dx,dy,λt1 H1 s1 e1=>?_⟩
  refine ⟨_,_,_,_,rfl,e1,dAL H1,λt2 H2 s2 e2=>?_⟩
  have m2:=s1.trans s2
  refine ⟨_,rfl,_,rfl,_,_,a,b,rfl,dx.ts m2.ts,dy.ts m2.ts,λt3 H3 s3 e3=>⟨d3,λt ht=>?_⟩⟩
  have u:=ao ht (.tup [.ref t2,.ref t3,.ref aAL])
  exact q _ _ (m2.trans (s3.trans u)) ⟨t,_,_,_,rfl,SqT.of ae,(e2.ts s3.ts).ts u.ts,e3.ts u.ts,dAL _⟩
 ·refine ⟨_,rfl,rfl,_,rfl,?_⟩
  rw [show decide (V.str (fw 1)=V.str "more")=false by decide +kernel]
  refine bB ?_
  refine ⟨_,rfl,rfl,_,rfl,?_⟩
  rw [show decide (V.str (fw 1)=V.str "less")=true by decide +kernel]
  refine dI ?_
  refine ⟨_,rfl,_,rfl,_,_,a,b,rfl,dx,dy,λt1 H1 s1 e1=>?_⟩
  refine ⟨_,_,_,_,rfl,e1,dAL H1,λt2 H2 s2 e2=>?_⟩
  have m2:=s1.trans s2
  refine ⟨_,rfl,_,rfl,_,_,a,b,rfl,dx.ts m2.ts,dy.ts m2.ts,λt3 H3 s3 e3=>?_⟩
  refine ⟨_,_,_,_,rfl,e3,dAL H3,λt4 H4 s4 e4=>⟨d3,λt ht=>?_⟩⟩
  have u:=ao ht (.tup [.ref t2,.ref aNE,.ref t4])
  exact q _ _ (m2.trans (s3.trans (s4.trans u))) ⟨t,_,_,_,rfl,SqT.of ae,((e2.ts s3.ts).ts s4.ts).ts u.ts,dNE _,e4.ts u.ts⟩
 ·refine ⟨_,rfl,rfl,_,rfl,?_⟩
  rw [show decide (V.str (fw 2)=V.str "more")=false by decide +kernel]
  refine bB ?_
  refine ⟨_,rfl,rfl,_,rfl,?_⟩
  rw [show decide (V.str (fw 2)=V.str "less")=false by decide +kernel]
  refine bB ?_
  refine ⟨_,rfl,rfl,_,rfl,?_⟩
  rw [show decide (V.str (fw 2)=V.str "greater")=true by decide +kernel]
  refine dI ?_
  refine ⟨_,rfl,_,rfl,_,_,a,b,rfl,dx,dy,λt1 H1 s1 e1=>?_⟩
  refine ⟨_,rfl,_,rfl,d3,λt ht=>?_⟩
  have u:=ao ht (.tup [.ref t1,y,x])
  exact q _ _ (s1.trans u) ⟨t,_,_,_,rfl,SqT.of ae,e1.ts u.ts,(dy.ts s1.ts).ts u.ts,(dx.ts s1.ts).ts u.ts⟩
 ·refine ⟨_,rfl,rfl,_,rfl,?_⟩
  rw [show decide (V.str (fw 3)=V.str "more")=false by decide +kernel]
  refine bB ?_
  refine ⟨_,rfl,rfl,_,rfl,?_⟩
  rw [show decide (V.str (fw 3)=V.str "less")=false by decide +kernel]
  refine bB ?_
  refine ⟨_,rfl,rfl,_,rfl,?_⟩
  rw [show decide (V.str (fw 3)=V.str "greater")=false by decide +kernel]
  refine bB ?_
  refine ⟨_,rfl,rfl,_,rfl,?_⟩
  rw [show decide (V.str (fw 3)=V.str "lesser")=true by decide +kernel]
  refine dI ?_
  refine ⟨_,rfl,_,rfl,_,_,a,b,rfl,dx,dy,λt1 H1 s1 e1=>?_⟩
  refine ⟨_,rfl,_,rfl,d3,λt ht=>?_⟩
  have u:=ao ht (.tup [.ref t1,x,y])
  exact q _ _ (s1.trans u) ⟨t,_,_,_,rfl,SqT.of ae,e1.ts u.ts,(dx.ts s1.ts).ts u.ts,(dy.ts s1.ts).ts u.ts⟩
 ·refine ⟨_,rfl,rfl,_,rfl,?_⟩
  rw [show decide (V.str (fw 4)=V.str "more")=false by decide +kernel]
  refine bB ?_
  refine ⟨_,rfl,rfl,_,rfl,?_⟩
  rw [show decide (V.str (fw 4)=V.str "less")=false by decide +kernel]
  refine bB ?_
  refine ⟨_,rfl,rfl,_,rfl,?_⟩
  rw [show decide (V.str (fw 4)=V.str "greater")=false by decide +kernel]
  refine bB ?_
  refine ⟨_,rfl,rfl,_,rfl,?_⟩
  rw [show decide (V.str (fw 4)=V.str "lesser")=false by decide +kernel]
  refine bB ?_
  refine ⟨_,rfl,_,rfl,_,_,b,a,rfl,dy,dx,λt1 H1 s1 e1=>?_⟩
  refine ⟨_,rfl,_,rfl,_,_,b,a,rfl,dy.ts s1.ts,dx.ts s1.ts,λt2 H2 s2 e2=>?_⟩
  refine ⟨_,_,_,_,rfl,dAL H2,e2,λt3 H3 s3 e3=>⟨d3,λt ht=>?_⟩⟩
  have u:=ao ht (.tup [.ref t1,.ref t3,.ref aAL])
  exact q _ _ (s1.trans (s2.trans (s3.trans u))) ⟨t,_,_,_,rfl,SqT.of ae,((e1.ts s2.ts).ts s3.ts).ts u.ts,e3.ts u.ts,dAL _⟩
end
noncomputable def uP (K:PySem.W.Frag):Sp:=λvs H Q _=>∃(x:V) (lr:Addr) (ws:List V) (r:Hu.Row) (rs:List T3),vs=[x,.ref lr]/\Dat K H (lK r) x/\H lr=some (.lst ws)/\DatAll K H (rs.map t3D) ws/\r.Ok rs.length/\∀(v:V) (H':Hp),aI H H'->Ch K H' (Hu.choice rs r) v->Q v H'
noncomputable def uO (K:PySem.W.Frag):Sp:=λvs H Q _=>∃(l:Addr) (v:V) (us:List V) (h:List T3) (c:T3×T3×T3),vs=[.ref l,v]/\H l=some (.lst us)/\DatAll K H (h.map t3D) us/\Ch K H c v/\Hu.R3 3000 c.1/\(∀ p∈h,Hu.R3 3000 p)/\0 < h.length/\h.length<=900/\
 (∀(x:T3) (u:V) (H':Hp),aI H H'->Hu.aX h c=some x->Dat K H' (t3D x) u->Q u H')/\(Hu.aX h c=none->∀ H',aI H H'->Q .non H')
noncomputable def yG (K:PySem.W.Frag):Sp:=λvs H Q _=>∃(l lh:Addr) (us hs:List V) (rows:List Hu.Row) (h:List T3),vs=[.ref l,.ref lh]/\H l=some (.lst us)/\DatAll K H (rows.map lK) us/\kT rows/\0 < rows.length/\rows.length<=100/\H lh=some (.lst hs)/\DatAll K H (h.map t3D) hs/\(∀ p∈h,Hu.R3 3000 p)/\0 < h.length/\h.length<=900/\
 (∀(rs:List T3) (t lr:Addr) (ws:List V) (H':Hp),aI H H'->Hu.run h rows []=.rules rs->Hu.Rb rs->rs.length=rows.length->H lr=none->SqT K H' t [.str "rules",.ref lr]->H' lr=some (.lst ws)->DatAll K H' (rs.map t3D) ws->Q (.ref t) H')/\
 (∀(k:Nat) (tt:T3) (t:Addr) (v:V) (H':Hp),aI H H'->Hu.run h rows []=.mixed k tt->k < rows.length->Hu.R3 (k+1) tt->SqT K H' t [.str "mixed",.int k,v]->Dat K H' (t3D tt) v->Q (.ref t) H')
theorem getD_at {rs:List T3} {i:Nat} (hi:i < rs.length):rs[i]?=some (rs.getD i Hu.z0):=by rw [List.getD_eq_getElem?_getD,List.getElem?_eq_getElem hi];rfl
section
variable {P:Program} {w:World} {K:PySem.W.Frag} {mg:Str->Option Value} {base:Heap}
theorem AQ (T:aD K mg "choice_of" jz) (bf:mg "len"=none) (gx:fL K mg "NEVER" [0,0,0]) (fg:fL K mg "ALWAYS" [0,0,1]) (dE:Def P w K mg base 1 "without" ["one","other"] (sp2 K Hu.mi)) (wI:Def P w K mg base 1 "leaf_rule" ["word"] (Cq K))
  (qQ:Def P w K mg base 2 "fold_choice" ["word","one","other"] (Ct K)):Def P w K mg base 3 "choice_of" ["row","rules"] (uP K):=by
 refine aN T lG (λ_ _ _ _ _ _=>L2.ar2 λ_ _=>rfl) (λvs H Q E h=>?_) (λf cdv A outer s H vs Q E hr h=>?_)
 ·obtain ⟨x,lr,ws,r,rs,rfl,_⟩:=h
  rfl
 obtain ⟨x,lr,ws,r,rs,rfl,dx,hl,da,ok,q⟩:=h
 obtain ⟨aNE,mh,sNE⟩:=gx.ex
 obtain ⟨aAL,dJ,sAL⟩:=fg.ex
 have dAL:∀ H,Dat K H (t3D Hu.al) (.ref aAL):=λH=>bW (p:=Hu.al) (sAL H)
 have dNE:∀ H,Dat K H (t3D Hu.z0) (.ref aNE):=λH=>bW (p:=Hu.z0) (sNE H)
 obtain ⟨a,rfl,sx⟩:=CY dx
 have nd:=lG.nd
 have d3:(3:Nat)<=sizeLine:=by decide
 have sl:SqL K H lr ws:=SqL.of hl
 refine ⟨_,(ag (aO (aC bQ (aB bz rfl bf (by decide +kernel) (aa (pv 0) af)) aq (aF _)) (ak (av (aH qQ (hr.mono (by decide)) rfl (aa (aE az (pv 0) aq (λ_ _=>rfl)) (aa (aE bL (pv 1) (aE az (pv 0) aq (λ_ _=>rfl)) (λ_ _=>rfl)) (aa (aE bL (pv 1) (aE az (pv 0) aq (λ_ _=>rfl)) (λ_ _=>rfl)) af)))))) aG)
  (ag (aJ (i:=2) nd rfl (Or.inl rfl) (lR (aC bQ (aB bz rfl bf (by decide +kernel) (aa (pv 0) af)) aq (aF _)) (aH wI (hr.mono (by decide)) rfl (aa (aE az (pv 0) aq (λ_ _=>rfl)) af)) (aH dE (hr.mono (by decide)) rfl (aa (cG (v:=V.ref aAL) rfl dJ rfl) (aa (aE bL (pv 1) (aE az (pv 0) aq (λ_ _=>rfl)) (λ_ _=>rfl)) af)))))
  (ak (av (bh (aa (cG (v:=V.ref aNE) rfl mh rfl) (aa (pv 2) (aa (pv 2) af)))))))),?_⟩
 cases r with
 | fd k i j =>
  obtain ⟨hk,hi,hj⟩:=ok
  obtain ⟨y,hy,dy⟩:=lx da (getD_at hi)
  obtain ⟨z,hz,dz⟩:=lx da (getD_at hj)
  refine ⟨_,rfl,_,_,rfl,.inr ⟨_,sx,rfl⟩,rfl,_,rfl,dI ?_⟩
  exact ⟨_,rfl,_,_,_,_,rfl,rfl,sx,rfl,_,rfl,_,rfl,_,_,_,_,rfl,rfl,sx,rfl,_,_,_,_,rfl,rfl,sl,dD hy,_,rfl,_,rfl,_,_,_,_,rfl,rfl,sx,rfl,_,_,_,_,rfl,rfl,sl,dD hz,k,_,_,_,_,rfl,hk,dy,dz,q⟩
 | lf k =>
  refine ⟨_,rfl,_,_,rfl,.inr ⟨_,sx,rfl⟩,rfl,_,rfl,bB ?_⟩
  refine ⟨_,rfl,_,_,rfl,.inr ⟨_,sx,rfl⟩,rfl,_,rfl,dI ?_⟩
  refine ⟨_,rfl,_,_,_,_,rfl,rfl,sx,rfl,k,rfl,ok,λv dv=>?_⟩
  refine ⟨_,rfl,_,rfl,d3,λt ht=>?_⟩
  have u:=ao ht (.tup [.ref aNE,v,v])
  exact q _ _ u ⟨t,_,_,_,rfl,SqT.of ae,dNE _,dv.ts u.ts,dv.ts u.ts⟩
 | nt i =>
  obtain ⟨y,hy,dy⟩:=lx da (getD_at (show i < rs.length from ok))
  refine ⟨_,rfl,_,_,rfl,.inr ⟨_,sx,rfl⟩,rfl,_,rfl,bB ?_⟩
  refine ⟨_,rfl,_,_,rfl,.inr ⟨_,sx,rfl⟩,rfl,_,rfl,bB ?_⟩
  refine ⟨_,rfl,_,rfl,_,_,_,_,rfl,rfl,sx,rfl,_,_,_,_,rfl,rfl,sl,dD hy,_,_,_,_,rfl,dAL H,dy,λt1 H1 s1 e1=>?_⟩
  refine ⟨_,rfl,_,rfl,d3,λt ht=>?_⟩
  have u:=ao ht (.tup [.ref aNE,.ref t1,.ref t1])
  exact q _ _ (s1.trans u) ⟨t,_,_,_,rfl,SqT.of ae,dNE _,e1.ts u.ts,e1.ts u.ts⟩
theorem AO (T:aD K mg "chosen_on" jy) (bZ:mg "max"=none) (bN:mg "min"=none) (fj:Def P w K mg base 2 "told_in_corners" ["rule","hull"] (Ci K)):Def P w K mg base 3 "chosen_on" ["hull","choice"] (uO K):=by
 refine aN T lF (λ_ _ _ _ _ _=>L2.ar2 λ_ _=>rfl) (λvs H Q E h=>?_) (λf cdv A outer s H vs Q E hr h=>?_)
 ·obtain ⟨l,v,us,h,c,rfl,_⟩:=h
  rfl
 obtain ⟨l,v,us,h,c,rfl,hl,da,⟨t,x,y,z,rfl,st,d1,d2,d3⟩,br,bp,pos,few,qs,qn⟩:=h
 have nd:=lF.nd
 refine ⟨_,(ag (aJ (i:=2) nd rfl (Or.inl rfl) (aH fj (hr.mono (by decide)) rfl (aa (aE az (pv 1) aq (λ_ _=>rfl)) (aa (pv 0) af))))
  (ag (aO (aC ji (aB (ki rfl) rfl bZ (by decide +kernel) (aa (pv 2) af)) aq (aF _)) (ak (av (aE az (pv 1) aq (λ_ _=>rfl)))) aG)
  (ag (aO (aC pN (aB (iT rfl) rfl bN (by decide +kernel) (aa (pv 2) af)) aq (aF _)) (ak (av (aE az (pv 1) aq (λ_ _=>rfl)))) aG)
  (ak (av bX))))),?_⟩
 refine ⟨_,rfl,_,_,_,_,rfl,rfl,st,rfl,_,rfl,x,l,us,c.1,h,rfl,d1,SqL.of hl,da,br,bp,few,λH' s'=>SqL.of (s' _ _ hl),λd H1 s1 _ hd=>?_⟩
 have hne:0 < (h.map (Hu.tl c.1)).length:=by rw [List.length_map];exact pos
 have st1:=st.ts s1.ts
 refine ⟨_,rfl,d,_,rfl,SqL.of hd,hne,λM hM hmax=>?_⟩
 refine ⟨_,_,rfl,rfl,_,rfl,?_⟩
 obtain ⟨p1,hp1,ep1⟩:=List.mem_map.mp hM
 refine dB (λcc=>?_) (λcc=>?_)
 ·have c':M<=0:=of_decide_eq_true cc
  have al:∀ q∈h,Hu.tl c.1 q<=0:=λq hq=>Int.le_trans (hmax _ (List.mem_map.mpr ⟨q,hq,rfl⟩)) c'
  exact ⟨_,rfl,_,_,_,_,rfl,rfl,st1,rfl,qs _ _ _ s1 (by unfold Hu.aX;rw [if_pos al]) (d2.ts s1.ts)⟩
 have c1:¬M<=0:=λz=>cc (decide_eq_true z)
 have n1:¬ ∀ q∈h,Hu.tl c.1 q<=0:=λz=>by have:=z p1 hp1;omega
 refine ⟨_,rfl,d,_,rfl,SqL.of hd,hne,λM2 hM2 hmin=>?_⟩
 refine ⟨_,_,rfl,rfl,_,rfl,?_⟩
 obtain ⟨p2,hp2,ep2⟩:=List.mem_map.mp hM2
 refine dB (λcc=>?_) (λcc=>?_)
 ·have c':0<=M2:=of_decide_eq_true cc
  have al:∀ q∈h,0<=Hu.tl c.1 q:=λq hq=>Int.le_trans c' (hmin _ (List.mem_map.mpr ⟨q,hq,rfl⟩))
  exact ⟨_,rfl,_,_,_,_,rfl,rfl,st1,rfl,qs _ _ _ s1 (by unfold Hu.aX;rw [if_neg n1,if_pos al]) (d3.ts s1.ts)⟩
 ·have c2:¬0<=M2:=λz=>cc (decide_eq_true z)
  have n2:¬ ∀ q∈h,0<=Hu.tl c.1 q:=λz=>by have:=z p2 hp2;omega
  exact qn (by unfold Hu.aX;rw [if_neg n1,if_neg n2]) _ s1
theorem DG (T:aD K mg "rules_of_rows" gf) (cB:mg "enumerate"=none) (wM:Def P w K mg base 3 "choice_of" ["row","rules"] (uP K)) (wL:Def P w K mg base 3 "chosen_on" ["hull","choice"] (uO K)):Def P w K mg base 4 "rules_of_rows" ["rows","hull"] (yG K):=by
 refine aN T iI (λ_ _ _ _ _ _=>L2.ar2 λ_ _=>rfl) (λvs H Q E h=>?_) (λf cdv A outer s H vs Q E hr h=>?_)
 ·obtain ⟨l,lh,us,hs,rows,h,rfl,_⟩:=h
  rfl
 obtain ⟨l,lh,us,hs,rows,h,rfl,hl,da,ok,ne,few,hlh,dh,bp,pos,hfew,q1,q2⟩:=h
 have nd:=iI.nd
 have lu:=zb da
 have d2:(2:Nat)<=sizeLine:=by decide
 have d3:(3:Nat)<=sizeLine:=by decide
 refine ⟨_,(ag (aJ (i:=2) nd rfl (Or.inl rfl) (bF af))
  (ag (fD PassesOwn.never rfl (tq rfl cB (pv 0)) (jB rfl (bg (aV (i:=3) nd rfl (Or.inl rfl)) (bg (aV (i:=4) nd rfl (Or.inl rfl)) dO))) (ag (aJ (i:=5) nd rfl (Or.inl rfl) (aH wM (hr.mono (by decide)) rfl (aa (pv 4) (aa (pv 2) af))))
  (ag (aJ (i:=6) nd rfl (Or.inl rfl) (aH wL (hr.mono (by decide)) rfl (aa (pv 1) (aa (pv 5) af))))
  (ag (aO (aC jE (pv 6) bX (aF _)) (ak (av (bh (aa aM (aa (pv 3) (aa (aE az (pv 5) aq (λ_ _=>rfl)) af)))))) aG)
  (ak (bb (cD PySem.F.plainAttrs_list PySem.F.slot_list_append PySem.F.type_list_append aY (pv 2) (aa (pv 6) af))))))))
  (ak (av (bh (aa aM (aa (pv 2) af))))))),?_⟩
 refine ⟨(by show 0<=sizeLine;decide),λlr hlr=>?_⟩
 have u0:=ao hlr (.lst [])
 have nl:l≠lr:=aw hl hlr
 refine ⟨_,rfl,l,rfl,⟨us,SqL.of (u0 _ _ hl)⟩,?_⟩
 refine qd (xs:=us) (λi σ H'=>i<=us.length/\aI H H'/\∃(ws:List V) (rs:List T3) (o3 o4 o5 o6:Option V),σ=[some (.ref l),some (.ref lh),some (.ref lr),o3,o4,o5,o6]/\H' lr=some (.lst ws)/\DatAll K H' (rs.map t3D) ws/\rs.length=i/\Hu.Rb rs/\Hu.run h rows []=Hu.run h (rows.drop i) rs)
  ⟨Nat.zero_le _,u0,[],[],_,_,_,_,rfl,ae,rfl,rfl,(λi x e=>by simp at e),rfl⟩ (λi σ H' _ z=>SqL.of (z.2.1 _ _ hl)) (λi v T' σ H' hv z hT=>?_) (fun σ H' z=>?_)
 ·obtain ⟨_,sm,ws,rs,o3,o4,o5,o6,rfl,hr',dr,lrs,rb,er⟩:=z
  have hi:i < us.length:=(List.getElem?_eq_some_iff.mp hv).1
  have uT:=ao hT (.tup [.int i,v])
  have s2:=sm.trans uT
  obtain ⟨r,er',dv⟩:=zc (da.ts s2.ts) hv
  have okr:r.Ok rs.length:=by rw [lrs];exact ok i r er'
  have dp:rows.drop i=r::rows.drop (i+1):=by
   obtain ⟨g1,g2⟩:=List.getElem?_eq_some_iff.mp er'
   rw [<- g2]
   exact List.drop_eq_getElem_cons g1
  rw [dp] at er
  obtain ⟨cb,_,_⟩:=Hu.jP rb okr
  refine ⟨T',_,rfl,SqT.of ae,rfl,_,_,rfl,_,_,rfl,rfl,?_⟩
  refine ⟨_,rfl,_,rfl,v,lr,ws,r,rs,rfl,dv,uT _ _ hr',dr.ts uT.ts,okr,λc H3 s3 hc=>?_⟩
  have m3:=s2.trans s3
  have hr3:=s3 _ _ (uT _ _ hr')
  have dr3:=(dr.ts uT.ts).ts s3.ts
  refine ⟨_,rfl,_,rfl,lh,c,hs,h,Hu.choice rs r,rfl,m3 _ _ hlh,dh.ts m3.ts,hc,cb.mono (by omega),bp,pos,hfew,λx u H4 s4 ex du=>?_,λex H4 s4=>?_⟩
  ·obtain ⟨ua,rfl,su⟩:=dH du
   refine ⟨_,rfl,rfl,_,rfl,bB ?_⟩
   have m4:=m3.trans s4
   have hr4:=s4 _ _ hr3
   have lw:=il dr3
   refine ⟨_,rfl,.inl ⟨rfl,_,SqL.of hr4⟩,_,rfl,lr,ws,_,rfl,rfl,hr4,aQ (by omega),?_⟩
   have t5:Tst H4 (upd H4 lr (.lst (ws++[.ref ua]))):=dF hr4
   refine ⟨hi,aU m4 hlr _,ws++[.ref ua],rs++[x],_,_,_,_,rfl,ae,?_,?_,Hu.sT rb (Hu.qq rb okr ex),?_⟩
   ·rw [List.map_append]
    exact ((dr3.ts s4.ts).ts t5).snoc (du.ts t5)
   ·rw [List.length_append,lrs];rfl
   ·rw [er]
    show (match Hu.aX h (Hu.choice rs r) with | some x=>_ | none=>_)=_
    rw [ex]
  ·obtain ⟨t,x,y,z,rfl,st,e1,_,_⟩:=hc
   refine ⟨_,rfl,rfl,_,rfl,dI ?_⟩
   refine ⟨_,rfl,_,rfl,_,_,_,_,rfl,rfl,st.ts s4.ts,rfl,d3,λp hp=>?_⟩
   have u:=ao hp (.tup [.str "mixed",.int i,x])
   refine q2 i (Hu.choice rs r).1 p x _ (m3.trans (s4.trans u)) ?_ (by omega) (by rw [<- lrs];exact cb) (SqT.of ae) ((e1.ts s4.ts).ts u.ts)
   rw [er]
   show (match Hu.aX h (Hu.choice rs r) with | some x=>_ | none=>_)=_
   rw [ex,lrs]
 ·obtain ⟨_,sm,ws,rs,o3,o4,o5,o6,rfl,hr',dr,lrs,rb,er⟩:=z
  refine ⟨_,rfl,d2,λp hp=>?_⟩
  have u:=ao hp (.tup [.str "rules",.ref lr])
  refine q1 rs p lr ws _ (sm.trans u) ?_ rb (by omega) hlr (SqT.of ae) (u _ _ hr') (dr.ts u.ts)
  rw [er,List.drop_eq_nil_of_le (by omega)]
  rfl
end
noncomputable abbrev roN:List Str:=["saying","rows","place_of","waiting","part","taken","row"]
noncomputable abbrev roAt (i j:Nat):Stmt:=match (bu fB).getD i (.Pass ⟨0,0,0,0⟩) with
 | .For _ _ b _ _=>b.getD j (.Pass ⟨0,0,0,0⟩)
 | _=>.Pass ⟨0,0,0,0⟩
theorem BY {α:Type}:∀{R:List α} {k:Nat},k < R.length->∃ x R1,R.drop k=x::R1/\R.take (k+1)=R.take k++[x]/\R.drop (k+1)=R1:=by
 intro R k h
 refine ⟨R[k],R.drop (k+1),List.drop_eq_getElem_cons h,?_,rfl⟩
 rw [List.take_add_one,List.getElem?_eq_getElem h]
 rfl
section
variable {P:Program} {w:World} {K:PySem.W.Frag} {mg:Str->Option Value} {base:Heap} {c:CCs}
theorem rj:aA roN ["saying"] (ah fB):=L2.fsc rfl (by decide +kernel)
theorem AG (T:aD K mg "rows_of" fB) (bf:mg "len"=none) (aP:mg "tuple"=none) (M:Ms P w K mg base c) (G:∀ t,aT P w K mg base (c.of t) "laid_out" 2 ["self"] (oQ c t)):Def P w K mg base 3 "rows_of" ["saying"] (uI c):=by
 refine aN T rj (λ_ _ _ _ _ _=>L2.ar1 λ_=>rfl) (λvs H Q E h=>?_) (λf cdv A outer s H vs Q E hr h=>?_)
 ·obtain ⟨a,t,rfl,_⟩:=h
  rfl
 obtain ⟨a,t,rfl,oa,ht,q⟩:=h
 have nd:=rj.nd
 have hu:=zD hr
 have stT:∃ ts,PS (cS CX0 P w K mg base roN "rows_of" (ah fB) f cdv A outer s H E).nox (roAt 3 0) ts/\∀(D:Ends) (o5 o6:Option V) (l1 d1 l3 b:Addr) (x:Tr) (R:List Nat) (H1:Hp),Ob c H1 b x->H1 l3=some (.lst (R.reverse.map λi:Nat=>V.int (i:Int)))->x.kids.length<=R.length->
   (∀ l4 H2,l4≠l3->H1 l4=none->(∀ d o,H1 d=some o->d≠l3->H2 d=some o)->H2 l3=some (.lst ((R.drop x.kids.length).reverse.map λi:Nat=>V.int (i:Int)))->H2 l4=some (.lst ((R.take x.kids.length).map λi:Nat=>V.int (i:Int)))->
    D.nx [some (.ref a),some (.ref l1),some (.ref d1),some (.ref l3),some (.ref b),some (.ref l4),o6] H2)->
   ts D [some (.ref a),some (.ref l1),some (.ref d1),some (.ref l3),some (.ref b),o5,o6] H1:=by
  refine ⟨_,(lM (i:=5) nd rfl (Or.inl rfl) (Or.inl rfl) rfl rfl (cQ (dA (k:=1) (pv 4) (hr.mono (by decide)))) rfl (by decide +kernel) (by decide +kernel) rfl (show ∀ p∈Scope.names _,p.2=NameKind.free->List.lookup p.1 (ah fB).names=some .cell\/List.lookup p.1 (ah fB).names=some .free by decide +kernel) (cI (j:=3) rfl (Or.inl rfl) (by decide +kernel) (Or.inl rfl) cR) (show (["piece","waiting"]:List Str).Nodup by decide +kernel) (λ_ _ _ _=>dq) (λ_ _ _ _=>(pe_bm0K (K:=K) rfl PySem.F.plainAttrs_list PySem.F.slot_list_pop PySem.F.type_list_pop jH (pv 1)))),?_⟩
  intro D o5 o6 l1 d1 l3 b x R H1 ob e3 hk fin
  obtain ⟨dx,fs,eb,nf⟩:=ob.cls
  unfold qV
  refine iS ?_
  refine ⟨_,rfl,b,_,_,_,_,_,rfl,eb,nf _ (by decide +kernel),M.made x,b,rfl,ob,λl us hl ou=>⟨l,rfl,⟨_,SqL.of ae⟩,?_⟩⟩
  have hul:=ou.len
  have nl:l≠l3:=(aw e3 hl).symm
  refine rT (K:=K) (xs:=us) (λl' H'=>l'=l/\H'=upd H1 l (.lst us)) (λR' h=>h l _ ⟨rfl,rfl⟩) (λl' H' h=>by obtain ⟨rfl,rfl⟩:=h;exact ae) (by rw [hul];have:=jJ x;omega)
   (λl' D' i ys H'=>l'=l/\H1 D'=none/\D'≠l3/\ys=((R.take i).map λi:Nat=>V.int (i:Int))/\H' l3=some (.lst ((R.drop i).reverse.map λi:Nat=>V.int (i:Int)))/\∀ d o,H1 d=some o->d≠l3->H' d=some o)
   (λl' H' D' h hD=>?_) (λl' D' i v ys H' hv nl' el eD h N hN=>?_) (λl' D' ys H' el eD h=>?_)
  ·obtain ⟨rfl,rfl⟩:=h
   have hD':=jo hD
   refine ⟨rfl,hD',(aw e3 hD').symm,rfl,?_,λd o z _=>?_⟩
   ·rw [au (aw e3 hD'),au nl.symm];exact e3
   ·rw [au (aw z hD'),au (aw z hl)];exact z
  ·obtain ⟨rfl,hD',nD,rfl,e3',sm⟩:=h
   have hi:i < R.length:=by
    have:=(List.getElem?_eq_some_iff.mp hv).1
    omega
   obtain ⟨y,R1,d1',d2',d3'⟩:=BY hi
   rw [d1',List.reverse_cons,List.map_append] at e3'
   refine ⟨_,rfl,.inl ⟨rfl,_,SqL.of e3'⟩,l3,_,_,rfl,rfl,e3',iG _ _,?_⟩
   refine hN _ _ (by rw [au nl];exact el) (by rw [au nD];exact eD) ⟨rfl,hD',nD,?_,?_,λd o z n=>?_⟩
   ·rw [d2',List.map_append];rfl
   ·rw [au nD.symm,ae,d3']
    exact congrArg some (congrArg HO.lst List.dropLast_concat)
   ·rw [au (aw z hD'),au n];exact sm d o z n
  ·obtain ⟨rfl,hD',nD,rfl,e3',sm⟩:=h
   rw [hul] at e3' eD
   exact fin D' H' nD hD' sm e3' eD
 obtain ⟨tsT,htT,hqT⟩:=stT
 refine ⟨_,ag (aJ (i:=1) nd rfl (Or.inl rfl) (bF af)) (ag (aJ (i:=2) nd rfl (Or.inl rfl) Du) (ag (aJ (i:=3) nd rfl (Or.inr rfl) (bF af)) (ag (fD PassesOwn.never rfl (cQ (dA (k:=2) (pv 0) (hr.mono (by omega)))) (aV (i:=4) nd rfl (Or.inl rfl)) (ag htT (ag (bb (ix PySem.F.plainAttrs_list PySem.F.slot_list_reverse PySem.F.type_list_reverse pR (pv 5)))
  (ag (aJ (i:=6) nd rfl (Or.inl rfl) (aK zk (bh (aa (dA (k:=1) (pv 4) (hr.mono (by decide))) af)) (bV bS rfl aP (by decide +kernel) (aa (pv 5) af))))
  (ag (aO (pt_cmp (Aw hu (pv 6) (pv 2))) (ag (ps_dput hu (pv 2) (pv 6) (aB bz rfl bf (by decide +kernel) (aa (pv 1) af)) rfl)
  (ak (bb (cD PySem.F.plainAttrs_list PySem.F.slot_list_append PySem.F.type_list_append aY (pv 1) (aa (pv 6) af))))) aG)
  (ak (bb (cD PySem.F.plainAttrs_list PySem.F.slot_list_append PySem.F.type_list_append aY (pv 3) (aa (oz hu (pv 2) (pv 6) (λ_ _=>rfl)) af))))))))) (ak (av (pv 1)))))),?_⟩
 refine ⟨(by show 0<=sizeLine;decide),λl1 h1=>?_⟩
 intro d1 h2'
 refine ⟨(by show 0<=sizeLine;decide),λl3 h3'=>?_⟩
 have h2:H d1=none:=jo h2'
 have n12:l1≠d1:=λe=>by subst e;rw [ae] at h2';cases h2'
 have h3a:upd H l1 (.lst []) l3=none:=jo h3'
 have h3:H l3=none:=jo h3a
 have n13:l1≠l3:=λe=>by subst e;rw [ae] at h3a;cases h3a
 have n23:d1≠l3:=λe=>by subst e;rw [ae] at h3';cases h3'
 have sm0:aI H (upd (upd (upd H l1 (.lst [])) d1 (.dT [])) l3 (.lst [])):=λb o e=>by rw [au (aw e h3),au (aw e h2),au (aw e h1)];exact e
 have oa0:=oa.to (Kp.of sm0)
 obtain ⟨dx,fs,ea,nf⟩:=oa0.cls
 refine ⟨_,rfl,a,_,_,_,_,_,rfl,ea,nf _ (by decide +kernel),G t,a,rfl,oa0,ht,λl us H' sm hl el ou=>⟨l,rfl,⟨_,SqL.of el⟩,?_⟩⟩
 have ul:=ou.len
 rw [eS] at ul
 have g1:H' l1=some (.lst []):=sm _ _ (by rw [au n13,au n12,ae])
 have g2:H' d1=some (.dT []):=sm _ _ (by rw [au n23,ae])
 have g3:H' l3=some (.lst []):=sm _ _ ae
 have hl0:H l=none:=by
  cases z:H l with
  | none=>rfl
  | some o=>rw [sm0 _ _ z] at hl;cases hl
 have nl1:l≠l1:=λe=>by subst e;rw [au n13,au n12,ae] at hl;cases hl
 have nl3:l≠l3:=λe=>by subst e;rw [ae] at hl;cases hl
 have nld:l≠d1:=λe=>by subst e;rw [au n23,ae] at hl;cases hl
 refine gS (xs:=us) (λi σ H2=>∃(o4 o5 o6:Option V) (rs:List Rw) (R:List Nat) (kvs:List (Rw×V)) (vs:List V),σ=[some (.ref a),some (.ref l1),some (.ref d1),some (.ref l3),o4,o5,o6]/\(∀ d o,H' d=some o->d≠l1->d≠d1->d≠l3->H2 d=some o)/\
   H2 l1=some (.lst vs)/\cC (RwV H2) vs rs/\H2 d1=some (.dT kvs)/\PlO kvs rs/\H2 l3=some (.lst (R.reverse.map λi:Nat=>V.int (i:Int)))/\R.length<=i/\rs.length<=i/\qD (rs,R) (t.post.drop i)=some (t.rows,[(t.putR []).2]))
  ⟨_,_,_,[],[],[],[],rfl,λd o z _ _ _=>z,g1,.nil,g2,PlO.nil,g3,Nat.le_refl _,Nat.le_refl _,CQ t⟩ (λi σ H2 _ h=>?_) (λi v σ H2 hi h=>?_) (fun σ H2 h=>?_)
 ·obtain ⟨o4,o5,o6,rs,R,kvs,vs,_,sb,_⟩:=h
  exact SqL.of (sb _ _ el nl1 nld nl3)
 ·obtain ⟨o4,o5,o6,rs,R,kvs,vs,rfl,sb,e1,rv,e2,pl,e3,hR,hrs,hrun⟩:=h
  obtain ⟨x,hx,b,rfl,ob⟩:=ou.get i v hi
  rw [zI hx] at hrun
  obtain ⟨s',hs',hrun'⟩:=Ar hrun
  obtain ⟨hk,rfl⟩:=CP hs'
  have hil:i < us.length:=(List.getElem?_eq_some_iff.mp hi).1
  have kp:Kp H' H2:=λd o z f=>sb d o z (λe=>by subst e;rw [g1] at z;cases z;cases f) (λe=>by subst e;rw [g2] at z;cases z;cases f) (λe=>by subst e;rw [g3] at z;cases z;cases f)
  have ob2:=ob.to kp
  refine hqT _ _ _ l1 d1 l3 b x R H2 ob2 e3 hk λl4 H3 n43 h4 sm3 e33 e34=>?_
  have nl41:l4≠l1:=(aw e1 h4).symm
  have nl4d:l4≠d1:=(aw e2 h4).symm
  have e31:H3 l1=some (.lst vs):=sm3 _ _ e1 n13
  have e3d:H3 d1=some (.dT kvs):=sm3 _ _ e2 n23
  have kp3:Kp H2 H3:=λd o z f=>sm3 d o z (λe=>by subst e;rw [e3] at z;cases z;cases f)
  refine ⟨_,rfl,.inl ⟨rfl,_,SqL.of e34⟩,l4,_,rfl,rfl,e34,?_⟩
  have kp4:Kp H3 (upd H3 l4 (.lst ((R.take x.kids.length).map λi:Nat=>V.int (i:Int)).reverse)):=gQ e34 rfl
  rw [<- List.map_reverse] at kp4 ⊢
  have ob4:=(ob2.to kp3).to kp4
  obtain ⟨dx',fs',eb,nf'⟩:=ob4.cls
  refine ⟨_,rfl,b,_,_,_,_,_,rfl,eb,nf' _ (by decide +kernel),M.word x,b,rfl,ob4,(by show 1<=sizeLine;decide),λp1 hp1=>?_⟩
  have kx:=jJ x
  have e44:upd H3 l4 (.lst ((R.take x.kids.length).reverse.map λi:Nat=>V.int (i:Int))) l4=_:=ae
  have np1:l4≠p1:=aw e44 hp1
  refine ⟨_,rfl,l4,_,rfl,.inl ⟨SqL.of (by rw [au np1];exact e44),λp2 hp2=>?_⟩⟩
  have np12:p1≠p2:=aw (ae (H:=upd H3 l4 (.lst ((R.take x.kids.length).reverse.map λi:Nat=>V.int (i:Int))))) hp2
  refine wx (K:=K) (by rw [au np12,ae]) ae (by simp) (by simp only [List.length_cons,List.length_nil,List.length_map,List.length_reverse,List.length_take];exact Nat.le_trans (show _<=3 by omega) (by decide)) λrw' H6 s6 e6=>?_
  have s46:aI (upd H3 l4 (.lst ((R.take x.kids.length).reverse.map λi:Nat=>V.int (i:Int)))) H6:=((ao hp1 _).trans (ao hp2 _)).trans s6
  have e6':H6 rw'=some (.tup ((dS x.word (R.take x.kids.length).reverse).map kV)):=by rw [sQ];exact e6
  generalize hr0:dS x.word (R.take x.kids.length).reverse=r at e6' hrun'
  have g1':H6 l1=some (.lst vs):=s46 _ _ (by rw [au nl41.symm];exact e31)
  have gd':H6 d1=some (.dT kvs):=s46 _ _ (by rw [au nl4d.symm];exact e3d)
  have g3':H6 l3=some (.lst ((R.drop x.kids.length).reverse.map λi:Nat=>V.int (i:Int))):=s46 _ _ (by rw [au n43.symm];exact e33)
  have kp6:Kp H2 H6:=(kp3.trans kp4).trans (Kp.of s46)
  have sb6:∀ d o,H' d=some o->d≠l1->d≠d1->d≠l3->H6 d=some o:=λd o z z1 z2 z3=>by
   have y2:=sb d o z z1 z2 z3
   exact s46 _ _ (by rw [au (aw y2 h4)];exact sm3 d o y2 z3)
  have rv6:=rv.imp (RwV.to kp6)
  have vl:=rv.len
  refine ⟨_,rfl,_,rfl,d1,_,rfl,jk.t gd' e6',_,rfl,?_⟩
  have hv:=pl.2 r
  have big:kvs.length < sizeLine:=by rw [pl.1];exact Nat.lt_of_le_of_lt (show rs.length<=1000 by omega) (by decide)
  cases hx0:idx rs r with
  | some j =>
   rw [hx0] at hv
   rw [hv]
   refine bB ?_
   have hp:aS rs r=(rs,j):=by unfold aS;rw [hx0]
   rw [hp] at hrun'
   refine ⟨_,rfl,.inl ⟨rfl,_,SqL.of g3'⟩,_,rfl,_,rfl,d1,_,rfl,(by have z:=jk.t gd' e6';rw [hv] at z;exact z),l3,_,_,rfl,rfl,g3',?_,?_⟩
   ·rw [List.length_map,List.length_reverse];exact Nat.lt_of_le_of_lt (show _<=1000 by rw [List.length_drop];omega) (by decide)
   ·have km:Kp H6 (upd H6 l3 (.lst (((R.drop x.kids.length).reverse.map λi:Nat=>V.int (i:Int))++[V.int (j:Int)]))):=gQ g3' rfl
    refine ⟨_,_,_,rs,j::R.drop x.kids.length,kvs,vs,rfl,λd o z z1 z2 z3=>by rw [au z3];exact sb6 d o z z1 z2 z3,by rw [au n13];exact g1',rv6.imp (RwV.to km),by rw [au n23];exact gd',pl,by rw [ae,List.reverse_cons,List.map_append];rfl,?_,by omega,hrun'⟩
    rw [List.length_cons,List.length_drop];omega
  | none =>
   rw [hx0] at hv
   rw [hv]
   refine dI ?_
   have hp:aS rs r=(rs++[r],rs.length):=by unfold aS;rw [hx0]
   rw [hp] at hrun'
   refine ⟨_,rfl,_,vs.length,rfl,.inl ⟨_,SqL.of g1',rfl⟩,_,rfl,_,rfl,d1,_,rfl,EX.t gd' e6' big,?_⟩
   rw [vl]
   have gA:upd H6 d1 (.dT (putK kvs r (.int (rs.length:Int)))) l1=some (.lst vs):=by rw [au n12];exact g1'
   refine ⟨_,rfl,.inl ⟨rfl,_,SqL.of gA⟩,_,rfl,l1,_,_,rfl,rfl,gA,by rw [vl];exact Nat.lt_of_le_of_lt (show rs.length<=1000 by omega) (by decide),?_⟩
   have k7:Kp H6 (upd (upd H6 d1 (.dT (putK kvs r (.int (rs.length:Int))))) l1 (.lst (vs++[.ref rw']))):=(gQ gd' rfl).trans (gQ gA rfl)
   have gB:upd (upd H6 d1 (.dT (putK kvs r (.int (rs.length:Int))))) l1 (.lst (vs++[.ref rw'])) d1=some (.dT (putK kvs r (.int (rs.length:Int)))):=by rw [au n12.symm,ae]
   have gC:upd (upd H6 d1 (.dT (putK kvs r (.int (rs.length:Int))))) l1 (.lst (vs++[.ref rw'])) l3=some (.lst ((R.drop x.kids.length).reverse.map λi:Nat=>V.int (i:Int))):=by rw [au n13.symm,au n23.symm];exact g3'
   have e7:=k7 _ _ e6' rfl
   have pl':=pl.put hx0
   have hv':ee (putK kvs r (.int (rs.length:Int))) r=some (.int (rs.length:Int)):=by rw [iA,if_pos rfl]
   refine ⟨_,rfl,.inl ⟨rfl,_,SqL.of gC⟩,_,rfl,_,rfl,d1,_,rfl,(by have z:=jk.t gB e7;rw [hv'] at z;exact z),l3,_,_,rfl,rfl,gC,?_,?_⟩
   ·rw [List.length_map,List.length_reverse];exact Nat.lt_of_le_of_lt (show _<=1000 by rw [List.length_drop];omega) (by decide)
   ·have km:=gQ (u:=.lst (((R.drop x.kids.length).reverse.map λi:Nat=>V.int (i:Int))++[V.int (rs.length:Int)])) gC rfl
    refine ⟨_,_,_,rs++[r],rs.length::R.drop x.kids.length,_,vs++[.ref rw'],rfl,λd o z z1 z2 z3=>by rw [au z3,au z1,au z2];exact sb6 d o z z1 z2 z3,by rw [au n13,ae],?_,by rw [au n23];exact gB,pl',by rw [ae,List.reverse_cons,List.map_append];rfl,?_,by rw [List.length_append];simp;omega,hrun'⟩
    ·exact ((rv6.imp (RwV.to k7)).imp (RwV.to km)).app (.cons ⟨rw',rfl,km _ _ e7 rfl⟩ .nil)
    ·rw [List.length_cons,List.length_drop];omega
 ·obtain ⟨o4,o5,o6,rs,R,kvs,vs,rfl,sb,e1,rv,e2,pl,e3,hR,hrs,hrun⟩:=h
  rw [ul,<- eS,List.drop_length] at hrun
  cases hrun
  refine ⟨_,rfl,q l1 vs H2 (λd o z=>?_) h1 e1 rv⟩
  exact sb d o (sm _ _ (sm0 _ _ z)) (aw z h1) (aw z h2) (aw z h3)
end
theorem EF {K:PySem.W.Frag} {wi:TI} {tc:TT} {te:TE} {js:List Nat} {σ:St} {H:Hp} {Q:VK} {xs:List V} (bs:List Bool) (hb:bs.length=xs.length) (Src:Addr->Hp->Prop)
  (hwi:∀ R:It->Hp->Prop,(∀ l H,Src l H->R (Itl K l) H)->wi σ H R) (hsrc:∀ l H',Src l H'->H' l=some (.lst xs)/\aI H H') (hx:xs.length<=1000)
  (ht:∀ l H0 (i:Nat) v H' (N:Bool->Hp->Prop),Src l H0->xs[i]?=some v->aI H0 H'->(∀ H'',aI H' H''->N (bs.getD i false) H'')->tc (some v::bI js σ) H' N)
  (hs:∀(i:Nat) v H' (N:VK),xs[i]?=some v->aI H H'->(∀ H'',aI H' H''->N v H'')->te (some v::bI js σ) H' N)
  (hd:∀ D ys H',aI H H'->H D=none->H' D=some (.lst ys)->ys.length=bs.countP id->Q (.ref D) H'):iD wi tc te js σ H Q:=by
 refine hwi _ λl H1 src=>?_
 intro D hD
 obtain ⟨e,s1⟩:=hsrc l H1 src
 have nl:l≠D:=aw e hD
 have hD0:H D=none:=s1.free hD
 refine ⟨λi m H'=>m=xs.length - i/\i<=xs.length/\H' l=some (.lst xs)/\aI H1 H'/\∃ ys,H' D=some (.lst ys)/\ys.length=(bs.take i).countP id,⟨xs.length,rfl,Nat.zero_le _,by rw [au nl];exact e,ao hD _,[],ae,rfl⟩,?_⟩
 rintro i m H2 ⟨rfl,hi,e2,s2,ys,eD,ly⟩
 have cle:(bs.take i).countP id<=i:=Nat.le_trans List.countP_le_length (by rw [List.length_take];omega)
 by_cases hlt:i < xs.length
 ·refine .inr ⟨⟨xs,xs[i],SqL.of e2,by simp [hlt]⟩,λv H3 y=>?_⟩
  obtain ⟨eh,y⟩:=y
  subst eh
  have hv:=y xs (SqL.of e2)
  have hbi:i < bs.length:=by omega
  have tk:bs.take (i+1)=bs.take i++[bs.getD i false]:=by
   rw [List.take_add_one,List.getElem?_eq_getElem hbi,List.getD_eq_getElem?_getD,List.getElem?_eq_getElem hbi]
   rfl
  have ct:(bs.take (i+1)).countP id=(bs.take i).countP id+(if bs.getD i false=true then 1 else 0):=by
   rw [tk,List.countP_append]
   congr 1
   cases bs.getD i false <;> rfl
  refine ht l H1 i v _ _ src hv s2 λH4 s4=>?_
  by_cases hp:bs.getD i false=true
  ·rw [if_pos hp] at ct
   rw [if_pos hp]
   refine hs i v H4 _ hv ((s1.trans s2).trans s4) λH5 s5=>?_
   have e5:=s5 _ _ (s4 _ _ eD)
   refine ⟨_,e5,Nat.lt_of_le_of_lt (show _<=1000 by omega) (by decide),xs.length - (i+1),by omega,rfl,hlt,?_,λd u z=>?_,ys++[v],ae,by rw [ct,List.length_append,ly];rfl⟩
   ·rw [au nl];exact s5 _ _ (s4 _ _ e2)
   ·rw [au (aw z hD)];exact s5 _ _ (s4 _ _ (s2 _ _ z))
  ·rw [if_neg hp] at ct
   rw [if_neg hp]
   exact ⟨xs.length - (i+1),by omega,rfl,hlt,s4 _ _ e2,s2.trans s4,ys,s4 _ _ eD,by rw [ct,ly];rfl⟩
 ·have ei:i=xs.length:=by omega
  subst ei
  rw [<- hb,List.take_length] at ly
  exact .inl ⟨⟨xs,SqL.of e2,Nat.le_refl _⟩,hd D ys H2 (s1.trans s2) hD0 eD ly⟩
noncomputable def isF:Tr->Bool
 | .fold _ _ _=>true
 | _=>false
noncomputable def Tr.nf (t:Tr):Nat:=(t.post.map isF).countP id
noncomputable def oR (c:CCs) (t:Tr):Sp:=λvs H Q _=>∃ a,vs=[.ref a]/\Ob c H a t/\t.size<=1000/\∀ H',aI H H'->Q (.int (t.nf:Int)) H'
section
variable {P:Program} {w:World} {K:PySem.W.Frag} {mg:Str->Option Value} {base:Heap} {c:CCs}
theorem ro:aA ["self"] ["self"] (ah cJ):=L2.fsc rfl (by decide +kernel)
theorem AL {C yy:Addr} {t:Tr} (T:aR K C "folds" "Saying.folds" cJ) (bf:mg "len"=none) (aL:mg "isinstance"=none) (M_Fold:mg "Fold"=some (.ref yy)) (fx:Fx K c) (kf:∀ t,PySem.W.kitOne K (.ref (c.of t)) (.ref yy)=some (isF t)) (G:∀ t,aT P w K mg base (c.of t) "laid_out" 2 ["self"] (oQ c t)):aT P w K mg base C "folds" 3 ["self"] (oR c t):=by
 refine bj T ro (λ_ _ _ _ _ _=>L2.ar1 λ_=>rfl) (λvs H Q E h=>?_) (λf cdv A outer s H vs Q E hr h=>?_)
 ·obtain ⟨a,rfl,_⟩:=h
  rfl
 obtain ⟨a,rfl,oa,ht,q⟩:=h
 have nd:=ro.nd
 obtain ⟨dx,fs,ea,nf⟩:=oa.cls
 refine ⟨_,(ak (av (aB bz rfl bf (by decide +kernel) (aa (eT rfl (cQ (dA (k:=2) (pv 0) (hr.mono (by omega)))) rfl (by decide +kernel) (by decide +kernel) rfl (show ∀ p∈Scope.names _,p.2=NameKind.free->List.lookup p.1 (ah cJ).names=some .cell\/List.lookup p.1 (ah cJ).names=some .free by decide +kernel) cR (show (["part"]:List Str).Nodup by decide +kernel) (λ_ _ _ _=>(pif_one (dj (aB (Bv (K:=K) rfl) rfl aL (by decide +kernel) (aa (pv 0) (aa (cG (v:=V.ref yy) rfl M_Fold rfl) af)))))) (λ_ _ _ _=>(pv 0))) af)))),?_⟩
 dsimp only [Ai,tOp,tC,tCB,eA,nM]
 refine iS ?_
 refine ⟨_,rfl,a,_,_,_,_,_,rfl,ea,nf _ (by decide +kernel),G t,a,rfl,oa,ht,λl us H1 s1 hl el ou=>⟨l,rfl,⟨_,SqL.of el⟩,?_⟩⟩
 have lu:=ou.len
 have lp:=eS t
 refine EF (K:=K) (t.post.map isF) (by rw [List.length_map,lu]) (λl' H'=>l'=l/\H'=H1) (λR k=>k l H1 ⟨rfl,rfl⟩) (λl' H' z=>by obtain ⟨rfl,rfl⟩:=z;exact ⟨el,aI.refl _⟩) (by omega) (λl' H0 i v H2 N z hv s2 hN=>?_) (λi v H2 N hv s2 hN=>⟨_,rfl,hN _ (aI.refl _)⟩) (λD ys H2 s2 hD eD ly=>?_)
 ·obtain ⟨rfl,rfl⟩:=z
  obtain ⟨x,hx,b,rfl,ob⟩:=(ou.imp (ObV.to (Kp.of s2))).get i v hv
  have e:(t.post.map isF).getD i false=isF x:=by rw [List.getD_eq_getElem?_getD,List.getElem?_map,hx];rfl
  rw [e] at hN
  exact ⟨_,rfl,_,_,_,_,_,rfl,(λu z=>z),fx.ty ob,kf x,_,rfl,hN _ (aI.refl _)⟩
 ·refine ⟨_,_,rfl,.inl ⟨_,SqL.of eD,rfl⟩,?_⟩
  rw [ly]
  exact q _ (s1.trans s2)
end
noncomputable def u5:W5->Nat | .more=>0 | .less=>1 | .greater=>2 | .lesser=>3 | .leads=>4
theorem fw_u5 (u:W5):fw (u5 u)=u.str:=by cases u <;> rfl
noncomputable def gH:Gr->Hu.Row
 | .ne=>.lf 0 | .al=>.lf 1 | .p=>.lf 2 | .q=>.lf 3
 | .no i=>.nt i
 | .fold u i j=>.fd (u5 u) i j
theorem Ag {K:PySem.W.Frag} {H:Hp} {v:V} {g:Gr} (h:RwV H v g.rw):Dat K H (lK (gH g)) v:=by
 obtain ⟨a,rfl,e⟩:=h
 unfold Gr.rw at e
 rw [sQ] at e
 refine row_mk (SqT.of ?_)
 rw [e]
 cases g with
 | fold u i j=>show _=some (HO.tup [V.str (fw (u5 u)),.int i,.int j]);rw [fw_u5];rfl
 | _=>rfl
theorem BU {k:Nat} {g:Gr} (h:GrOk k g):(gH g).Ok k:=by
 cases g with
 | ne=>show 0 < 4;decide
 | al=>show 1 < 4;decide
 | p=>show 2 < 4;decide
 | q=>show 3 < 4;decide
 | no i=>exact h i (by simp [Gr.nums])
 | fold u i j=>exact ⟨by cases u <;> decide,h i (by simp [Gr.nums]),h j (by simp [Gr.nums])⟩
noncomputable def fdK (r:Rw):Bool:=r.length == 3
theorem jX (rs:List Rw) (r:Rw):(aS rs r).1.countP fdK<=rs.countP fdK+(if fdK r=true then 1 else 0):=by
 unfold aS
 cases idx rs r with
 | some i=>show rs.countP fdK<=_;omega
 | none =>
  show (rs++[r]).countP fdK<=_
  rw [List.countP_append]
  refine Nat.add_le_add_left ?_ _
  cases h:fdK r <;> simp [h]
theorem nf_no (t:Tr):(Tr.no t).nf=t.nf:=by
 show ((t.post++[Tr.no t]).map isF).countP id=_
 rw [List.map_append,List.countP_append]
 rfl
theorem zp (u:W5) (a b:Tr):(Tr.fold u a b).nf=a.nf+b.nf+1:=by
 show ((a.post++b.post++[Tr.fold u a b]).map isF).countP id=_
 rw [List.map_append,List.map_append,List.countP_append,List.countP_append]
 rfl
theorem ow:∀(t:Tr) (rs:List Rw),(t.putR rs).1.countP fdK<=rs.countP fdK+t.nf
 | .no t,rs=>by
  have h1:=ow t rs
  have h2:=jX (t.putR rs).1 (dS "not" [(t.putR rs).2])
  have e:fdK (dS "not" [(t.putR rs).2])=false:=rfl
  rw [e,if_neg (by decide)] at h2
  rw [nf_no]
  exact Nat.le_trans h2 h1
 | .fold w a b,rs=>by
  have h1:=ow a rs
  have h2:=ow b (a.putR rs).1
  have h3:=jX (b.putR (a.putR rs).1).1 (dS w.str [(a.putR rs).2,(b.putR (a.putR rs).1).2])
  have e:fdK (dS w.str [(a.putR rs).2,(b.putR (a.putR rs).1).2])=true:=rfl
  rw [e,if_pos rfl] at h3
  rw [zp]
  have:((Tr.fold w a b).putR rs).1.countP fdK<=_:=h3
  omega
 | .never,rs=>jX rs (dS "never" [])
 | .always,rs=>jX rs (dS "always" [])
 | .lp,rs=>jX rs (dS "p" [])
 | .lq,rs=>jX rs (dS "q" [])
theorem Et:∀ gs:List Gr,Hu.fds (gs.map gH)=(gs.map Gr.rw).countP fdK
 | []=>rfl
 | g::r=>by
  have ih:=Et r
  unfold Hu.fds at ih ⊢
  rw [List.map_cons,List.map_cons,List.countP_cons,List.countP_cons,ih]
  congr 1
  cases g <;> rfl
noncomputable def tcD:Hu.Tc->PyData
 | .leaf=>.tuple [.str "leaf"]
 | .cut r l g=>.tuple [.str "cut",t3D r,tcD l,tcD g]
section
variable {K:PySem.W.Frag} {H H':Hp} {v:V}
theorem tc_leaf (d:Dat K H (tcD .leaf) v):∃ a,v=.ref a/\SqT K H a [.str "leaf"]:=by
 unfold tcD at d
 obtain ⟨a,xs,rfl,g,x,r,rfl,hx,hr⟩:=d
 cases (show x=V.str "leaf" from hx)
 cases (show r=[] from hr)
 exact ⟨a,rfl,g⟩
theorem BX {r:T3} {l g:Hu.Tc} (d:Dat K H (tcD (.cut r l g)) v):∃ a x y z,v=.ref a/\SqT K H a [.str "cut",x,y,z]/\Dat K H (t3D r) x/\Dat K H (tcD l) y/\Dat K H (tcD g) z:=by
 unfold tcD at d
 obtain ⟨a,xs,rfl,s,w,t,rfl,hw,x,t2,rfl,hx,y,t3,rfl,hy,z,t4,rfl,hz,h4⟩:=d
 cases (show w=V.str "cut" from hw)
 cases (show t4=[] from h4)
 exact ⟨a,x,y,z,rfl,s,hx,hy,hz⟩
theorem mr {a:Addr} (g:SqT K H a [.str "leaf"]):Dat K H (tcD .leaf) (.ref a):=by
 unfold tcD
 exact ⟨a,_,rfl,g,_,_,rfl,rfl,rfl⟩
theorem BW {a:Addr} {x y z:V} {r:T3} {l g:Hu.Tc} (s:SqT K H a [.str "cut",x,y,z]) (h1:Dat K H (t3D r) x) (h2:Dat K H (tcD l) y) (h3:Dat K H (tcD g) z):Dat K H (tcD (.cut r l g)) (.ref a):=by
 unfold tcD
 exact ⟨a,_,rfl,s,_,_,rfl,rfl,_,_,rfl,h1,_,_,rfl,h2,_,_,rfl,h3,rfl⟩
end
namespace Hu
theorem oo {h:List T3} {r:Row}:∀(a:List Row) (rs:List T3),run h (a++[r]) rs=match run h a rs with
  | .rules rs'=>(match aX h (choice rs' r) with | some x=>.rules (rs'++[x]) | none=>.mixed rs'.length (choice rs' r).1)
  | .mixed k t=>.mixed k t
 | [],rs=>by
  show run h [r] rs=_
  simp only [run]
  all_goals (cases aX h (choice rs r) <;> rfl)
 | x::a,rs=>by
  simp only [List.cons_append,run]
  cases aX h (choice rs x) with
  | none=>rfl
  | some y=>exact oo a _
theorem fY (h:List T3) (x:T3):aX h (z0,x,x)=some x:=by
 unfold aX
 rw [if_pos λq _=>Int.le_of_eq (nv q)]
end Hu
noncomputable def rl (g:List T3):Tr->Option T3
 | .never=>some (Hu.lft 0)
 | .always=>some (Hu.lft 1)
 | .lp=>some (Hu.lft 2)
 | .lq=>some (Hu.lft 3)
 | .no t=>(rl g t).map λr=>Hu.mi Hu.al r
 | .fold u a b=>match rl g a,rl g b with
  | some x,some y=>Hu.aX g (Hu.fch (u5 u) x y)
  | _,_=>none
theorem sS (g:List T3):∀ t:Tr,rl g t≠none->∀ x∈t.post,rl g x≠none
 | .no t,h,x,hx=>by
  rcases List.mem_append.mp (show x∈t.post++[.no t] from hx) with z | z
  ·exact sS g t (λe=>h (by show (rl g t).map _=none;rw [e];rfl)) x z
  ·rw [List.mem_singleton.mp z];exact h
 | .fold u a b,h,x,hx=>by
  rcases List.mem_append.mp (show x∈a.post++b.post++[.fold u a b] from hx) with z | z
  ·rcases List.mem_append.mp z with z | z
   ·exact sS g a (λe=>h (by unfold rl;rw [e])) x z
   ·refine sS g b (λe=>h ?_) x z
    unfold rl
    rw [e]
    cases rl g a <;> rfl
  ·rw [List.mem_singleton.mp z];exact h
 | .never,h,x,hx=>by rw [List.mem_singleton.mp hx];exact h
 | .always,h,x,hx=>by rw [List.mem_singleton.mp hx];exact h
 | .lp,h,x,hx=>by rw [List.mem_singleton.mp hx];exact h
 | .lq,h,x,hx=>by rw [List.mem_singleton.mp hx];exact h
theorem Dc {g:List T3} {ts:List Tr} {rs:List T3} (e:ts.map (rl g)=rs.map some) {i:Nat} {t:Tr} (h:ts[i]?=some t):rl g t=some (rs.getD i Hu.z0):=by
 have z:(ts.map (rl g))[i]?=some (rl g t):=by rw [List.getElem?_map,h];rfl
 rw [e,List.getElem?_map] at z
 rw [List.getD_eq_getElem?_getD]
 cases q:rs[i]? with
 | none=>rw [q] at z;cases z
 | some r=>rw [q] at z;exact (Option.some.inj z).symm
theorem qp {g:List T3} {ts:List Tr} {rs:List T3} (e:ts.map (rl g)=rs.map some) {gr:Gr} {t:Tr} (h:GrT ts gr t):Hu.aX g (Hu.choice rs (gH gr))=rl g t:=by
 cases gr with
 | ne=>cases t <;> first | exact h.elim | exact Hu.fY _ _
 | al=>cases t <;> first | exact h.elim | exact Hu.fY _ _
 | p=>cases t <;> first | exact h.elim | exact Hu.fY _ _
 | q=>cases t <;> first | exact h.elim | exact Hu.fY _ _
 | no i =>
  cases t <;> first | exact h.elim | skip
  rename_i t
  have z:=Dc e (show ts[i]?=some t from h)
  show Hu.aX g (Hu.z0,Hu.mi Hu.al (rs.getD i Hu.z0),Hu.mi Hu.al (rs.getD i Hu.z0))=(rl g t).map _
  rw [z,Hu.fY]
  rfl
 | fold u i j =>
  cases t <;> first | exact h.elim | skip
  rename_i v a b
  obtain ⟨rfl,h1,h2⟩:=h
  have z1:=Dc e h1
  have z2:=Dc e h2
  show Hu.aX g (Hu.fch (u5 u) (rs.getD i Hu.z0) (rs.getD j Hu.z0))=rl g (.fold u a b)
  conv=>rhs;unfold rl
  rw [z1,z2]
theorem run_tab (g:List T3) {gs:List Gr} {ts:List Tr} (h:Tab gs ts):(∃ rs,Hu.run g (gs.map gH) []=.rules rs/\ts.map (rl g)=rs.map some)\/(∃ k t,Hu.run g (gs.map gH) []=.mixed k t)/\∃ x∈ts,rl g x=none:=by
 induction h with
 | nil=>exact .inl ⟨[],rfl,rfl⟩
 | snoc hT r ih =>
  rename_i gs ts gr t
  rw [List.map_append]
  show (∃ rs,Hu.run g (gs.map gH++[gH gr]) []=_/\_)\/_
  rw [Hu.oo]
  rcases ih with ⟨rs,e,q⟩ | ⟨⟨k,tt,e⟩,x,hx,q⟩
  ·rw [e]
   dsimp only
   rw [qp q r]
   cases z:rl g t with
   | some x=>exact .inl ⟨rs++[x],rfl,by rw [List.map_append,List.map_append,q];simp [z]⟩
   | none =>
    refine .inr ⟨⟨rs.length,(Hu.choice rs (gH gr)).1,?_⟩,t,List.mem_append_right _ List.mem_cons_self,z⟩
    show Hu.run g (gs.map gH++[gH gr]) []=_
    rw [Hu.oo,e]
    dsimp only
    rw [qp q r,z]
  ·rw [e]
   refine .inr ⟨⟨k,tt,?_⟩,x,List.mem_append_left _ hx,q⟩
   show Hu.run g (gs.map gH++[gH gr]) []=_
   rw [Hu.oo,e]
theorem tab_ok {gs:List Gr} {ts:List Tr} (h:Tab gs ts):kT (gs.map gH):=λk r hr=>by
 rw [List.getElem?_map] at hr
 cases z:gs[k]? with
 | none=>rw [z] at hr;cases hr
 | some g=>rw [z] at hr;cases hr;exact BU (h.ok k g z)
structure jj (rs:List Rw) (ts:List Tr) (rows:List Hu.Row):Prop where
 gr:∃ gs:List Gr,rs=gs.map Gr.rw/\Tab gs ts/\rows=gs.map gH
theorem jj.ok {rs:List Rw} {ts:List Tr} {rows:List Hu.Row} (R:jj rs ts rows):kT rows:=by
 obtain ⟨gs,_,h,rfl⟩:=R.gr
 exact tab_ok h
theorem jj.len {rs:List Rw} {ts:List Tr} {rows:List Hu.Row} (R:jj rs ts rows):rows.length=rs.length/\rs.length=ts.length:=by
 obtain ⟨gs,rfl,h,rfl⟩:=R.gr
 exact ⟨by simp,by rw [List.length_map];exact h.len⟩
theorem jj.fd {rs:List Rw} {ts:List Tr} {rows:List Hu.Row} (R:jj rs ts rows):Hu.fds rows=rs.countP fdK:=by
 obtain ⟨gs,rfl,h,rfl⟩:=R.gr
 exact Et gs
theorem jj.dat {K:PySem.W.Frag} {H:Hp} {rs:List Rw} {ts:List Tr} {rows:List Hu.Row} {us:List V} (R:jj rs ts rows) (al:cC (RwV H) us rs):DatAll K H (rows.map lK) us:=by
 obtain ⟨gs,rfl,h0,rfl⟩:=R.gr
 clear R h0
 induction gs generalizing us with
 | nil=>cases al;rfl
 | cons g r ih =>
  cases al with
  | cons h k=>exact ⟨_,_,rfl,Ag h,ih k⟩
theorem jj.run {rs:List Rw} {ts:List Tr} {rows:List Hu.Row} (R:jj rs ts rows) (g:List T3):(∃ out,Hu.run g rows []=.rules out/\ts.map (rl g)=out.map some)\/(∃ k t,Hu.run g rows []=.mixed k t)/\∃ x∈ts,rl g x=none:=by
 obtain ⟨gs,_,h,rfl⟩:=R.gr
 exact run_tab g h
theorem vq (t:Tr):∃ ts rows,jj t.rows (ts++[t]) rows/\∀ x∈ts++[t],x∈t.post:=by
 obtain ⟨gs,ts,e,h,hp,_⟩:=CS t
 exact ⟨ts,_,⟨gs,e,h,rfl⟩,hp⟩
noncomputable def pH (t:Tr):List Hu.Row:=Classical.choose (Classical.choose_spec (vq t))
theorem CV (t:Tr):∃ ts,jj t.rows (ts++[t]) (pH t)/\∀ x∈ts++[t],x∈t.post:=⟨_,Classical.choose_spec (Classical.choose_spec (vq t))⟩
structure RowsS (t:Tr) (rows:List Hu.Row):Prop where
 ok:kT rows
 pos:0 < rows.length
 len:rows.length<=t.size
 fd:Hu.fds rows<=t.nf
 dat:∀{K:PySem.W.Frag} {H:Hp} {us:List V},cC (RwV H) us t.rows->DatAll K H (rows.map lK) us
 run:∀ g:List T3,(∃ out r,Hu.run g rows []=.rules out/\out.getLast?=some r/\rl g t=some r)\/(∃ k x,Hu.run g rows []=.mixed k x)/\rl g t=none
theorem CU (t:Tr):t.rows.length<=t.size:=by
 have:=iO t []
 show (t.putR []).1.length<=_
 simpa using this
theorem CW (t:Tr):RowsS t (pH t):=by
 obtain ⟨ts,R,hp⟩:=CV t
 obtain ⟨l1,l2⟩:=R.len
 have l3:=CU t
 refine ⟨R.ok,by rw [l1,l2];simp,by omega,?_,λal=>R.dat al,λg=>?_⟩
 ·rw [R.fd]
  have:=ow t []
  rw [List.countP_nil,Nat.zero_add] at this
  exact this
 ·rcases R.run g with ⟨out,e,q⟩ | ⟨e,x,hx,q⟩
  ·have z:(out.map some).getLast?=some (rl g t):=by rw [<- q,List.map_append];simp
   rw [List.getLast?_map] at z
   cases y:out.getLast? with
   | none=>rw [y] at z;cases z
   | some r=>rw [y] at z;exact .inl ⟨out,r,e,y,(Option.some.inj z).symm⟩
  ·refine .inr ⟨e,?_⟩
   cases y:rl g t with
   | none=>rfl
   | some r=>exact absurd q (sS g t (by rw [y];exact λz=>nomatch z) x (hp x hx))
end Mine
namespace L2
open PySem PySem.Spec PyProof.Rows
inductive Lt where
 | non | bl (b:Bool) | int (i:Int) | str (x:Str) | var (i:Nat) | tup (xs:List Lt) | lst (xs:List Lt) | dic
noncomputable def visB (sc:Scope) (x:Str):Bool:=match sc.names.lookup x with
 | some .local=>true
 | some .cell=>true
 | some .free=>true
 | _=>false
mutual
noncomputable def litE (N:List Str) (sc:Scope):Expr->Option Lt
 | .Constant .none _ _=>some .non
 | .Constant (.bool b) _ _=>some (.bl b)
 | .Constant (.int i) _ _=>some (.int i)
 | .Constant (.str x) _ _=>some (.str x)
 | .UnaryOp .USub (.Constant (.int i) _ _) _=>some (.int (-i))
 | .Name x _=>match N.idxOf? x with
  | some i=>if visB sc x && !(x == ("__debug__":Str)) && !(x == ("__classdict__":Str)) then some (.var i) else none
  | none=>none
 | .Tuple es _ _=>match nI N sc es with
  | some xs=>some (.tup xs)
  | none=>none
 | .List es _=>match nI N sc es with
  | some xs=>some (.lst xs)
  | none=>none
 | .Dict [] [] _=>some .dic
 | _=>none
noncomputable def nI (N:List Str) (sc:Scope):List Expr->Option (List Lt)
 | []=>some []
 | e::es=>match litE N sc e,nI N sc es with
  | some x,some xs=>if plainArg e then some (x::xs) else none
  | _,_=>none
end
mutual
noncomputable def tLit:Lt->TE
 | .non=>tC .non
 | .bl b=>tC (.bl b)
 | .int i=>tC (.int i)
 | .str x=>tC (.str x)
 | .var i=>tVar i
 | .tup xs=>tTup (ur xs)
 | .lst xs=>tLst (ur xs)
 | .dic=>Cd
noncomputable def ur:List Lt->TA
 | []=>nM
 | x::xs=>eA (tLit x) (ur xs)
end
mutual
noncomputable def LtV (σ:St) (H:Hp):Lt->V->Prop
 | .non,v=>v=.non
 | .bl b,v=>v=.bl b
 | .int i,v=>v=.int i
 | .str x,v=>v=.str x
 | .var i,v=>σ[i]?=some (some v)
 | .tup xs,v=>∃ a us,v=.ref a/\H a=some (.tup us)/\nr σ H xs us
 | .lst xs,v=>∃ a us,v=.ref a/\H a=some (.lst us)/\nr σ H xs us
 | .dic,v=>∃ a,v=.ref a/\H a=some (.dK [])
noncomputable def nr (σ:St) (H:Hp):List Lt->List V->Prop
 | [],us=>us=[]
 | x::xs,us=>∃ u r,us=u::r/\LtV σ H x u/\nr σ H xs r
end
mutual
noncomputable def DY (σ:St):Lt->Bool
 | .var i=>match σ[i]? with | some (some _)=>true | _=>false
 | .tup xs=>decide (xs.length<=1000) && kQ σ xs
 | .lst xs=>decide (xs.length<=1000) && kQ σ xs
 | _=>true
noncomputable def kQ (σ:St):List Lt->Bool
 | []=>true
 | x::xs=>DY σ x && kQ σ xs
end
mutual
theorem LtV.same {σ:St} {H H':Hp} (s:aI H H'):∀{l:Lt} {v:V},LtV σ H l v->LtV σ H' l v
 | .non,_,h=>h
 | .bl _,_,h=>h
 | .int _,_,h=>h
 | .str _,_,h=>h
 | .var _,_,h=>h
 | .tup _,_,⟨a,us,h1,h2,h3⟩=>⟨a,us,h1,s _ _ h2,nr.same s h3⟩
 | .lst _,_,⟨a,us,h1,h2,h3⟩=>⟨a,us,h1,s _ _ h2,nr.same s h3⟩
 | .dic,_,⟨a,h1,h2⟩=>⟨a,h1,s _ _ h2⟩
theorem nr.same {σ:St} {H H':Hp} (s:aI H H'):∀{l:List Lt} {us:List V},nr σ H l us->nr σ H' l us
 | [],_,h=>h
 | _::_,_,⟨u,r,h1,h2,h3⟩=>⟨u,r,h1,LtV.same s h2,nr.same s h3⟩
end
theorem nr.len {σ:St} {H:Hp}:∀{l:List Lt} {us:List V},nr σ H l us->us.length=l.length
 | [],_,h=>by cases (show _=([]:List V) from h);rfl
 | _::_,_,⟨u,r,h1,_,h3⟩=>by subst h1;simp [nr.len h3]
theorem sameNew {H:Hp} {p:Addr} (h:H p=none) (o:HO):aI H (upd H p o):=λb u z=>by rw [au (aw z h)];exact z
mutual
theorem lit_ok {σ:St}:∀(l:Lt) {H:Hp} {Q:VK},DY σ l=true->(∀ v H',aI H H'->LtV σ H' l v->Q v H')->tLit l σ H Q
 | .non,H,Q,_,q=>q _ _ (λ_ _ z=>z) rfl
 | .bl _,H,Q,_,q=>q _ _ (λ_ _ z=>z) rfl
 | .int _,H,Q,_,q=>q _ _ (λ_ _ z=>z) rfl
 | .str _,H,Q,_,q=>q _ _ (λ_ _ z=>z) rfl
 | .var i,H,Q,h,q=>by
  have h':(match σ[i]? with | some (some _)=>true | _=>false)=true:=h
  cases e:σ[i]? with
  | none=>rw [e] at h';cases h'
  | some o =>
   cases o with
   | none=>rw [e] at h';cases h'
   | some v=>exact ⟨v,e,q v H (λ_ _ z=>z) e⟩
 | .tup xs,H,Q,h,q=>by
  have h':(decide (xs.length<=1000) && kQ σ xs)=true:=h
  rw [Bool.and_eq_true] at h'
  refine tP xs h'.2 λus H1 s1 l1=>⟨?_,λp hp=>?_⟩
  ·rw [l1.len];exact Nat.le_trans (of_decide_eq_true h'.1) (by decide)
  ·have s2:=sameNew hp (.tup us)
   exact q _ _ (λb o z=>s2 _ _ (s1 _ _ z)) ⟨p,us,rfl,ae,l1.same s2⟩
 | .lst xs,H,Q,h,q=>by
  have h':(decide (xs.length<=1000) && kQ σ xs)=true:=h
  rw [Bool.and_eq_true] at h'
  refine tP xs h'.2 λus H1 s1 l1=>⟨?_,λp hp=>?_⟩
  ·rw [l1.len];exact Nat.le_trans (of_decide_eq_true h'.1) (by decide)
  ·have s2:=sameNew hp (.lst us)
   exact q _ _ (λb o z=>s2 _ _ (s1 _ _ z)) ⟨p,us,rfl,ae,l1.same s2⟩
 | .dic,H,Q,_,q=>λp hp=>q _ _ (sameNew hp _) ⟨p,rfl,ae⟩
theorem tP {σ:St}:∀(l:List Lt) {H:Hp} {Q:List V->Hp->Prop},kQ σ l=true->(∀ us H',aI H H'->nr σ H' l us->Q us H')->ur l σ H Q
 | [],H,Q,_,q=>q [] H (λ_ _ z=>z) rfl
 | x::xs,H,Q,h,q=>by
  have h':(DY σ x && kQ σ xs)=true:=h
  rw [Bool.and_eq_true] at h'
  refine lit_ok x h'.1 λv H1 s1 l1=>tP xs h'.2 λus H2 s2 l2=>?_
  exact q _ _ (λb o z=>s2 _ _ (s1 _ _ z)) ⟨v,us,rfl,l1.same s2,l2⟩
end
section
variable {X:Cx}
theorem Ee {N:List Str} {x:Str} {i:Nat} (h:N.idxOf? x=some i):N[i]?=some x:=by
 have:=List.of_findIdx?_eq_some (p:=λy=>y == x) (xs:=N) h
 cases e:N[i]? with
 | none=>rw [e] at this;cases this
 | some y =>
  rw [e] at this
  have:(y == x)=true:=this
  rw [beq_iff_eq] at this
  rw [this]
theorem vis_of {sc:Scope} {x:Str} (h:visB sc x=true):Vis sc x:=by
 unfold visB at h
 unfold Vis
 cases e:sc.names.lookup x with
 | none=>rw [e] at h;cases h
 | some k =>
  rw [e] at h
  cases k with
  | «local»=>exact .inl rfl
  | cell=>exact .inr (.inl rfl)
  | free=>exact .inr (.inr rfl)
  | globalExplicit=>cases h
  | globalImplicit=>cases h
mutual
theorem pe_litN {N:List Str} {sc:Scope} (eN:X.N=N) (es:X.env.scope=sc):∀(e:Expr) {l:Lt},litE N sc e=some l->PE X e (tLit l):=λe l h=>by
 cases e with
 | Constant c k p =>
  cases c with
  | none=>cases h;exact bX
  | bool b=>cases h;exact hZ
  | int i=>cases h;exact aq
  | str x=>cases h;exact aM
  | _=>cases h
 | UnaryOp o a p =>
  cases o with
  | USub =>
   cases a with
   | Constant c k q =>
    cases c with
    | int i =>
     cases h
     intro pins s σ H Q I q
     exact zf kE aq pins s σ H Q I ⟨i,rfl,q⟩
    | _=>cases h
   | _=>cases h
  | _=>cases h
 | Name x p =>
  unfold litE at h
  cases z:N.idxOf? x with
  | none=>rw [z] at h;cases h
  | some i =>
   rw [z] at h
   dsimp only at h
   by_cases c:(visB sc x && !(x == ("__debug__":Str)) && !(x == ("__classdict__":Str)))=true
   ·rw [if_pos c] at h
    cases h
    rw [Bool.and_eq_true,Bool.and_eq_true] at c
    exact Ds (by rw [eN];exact Ee z) (by rw [es];exact vis_of c.1.1) (by simpa using c.1.2) (by simpa using c.2)
   ·rw [if_neg c] at h;cases h
 | Tuple xs c p =>
  unfold litE at h
  cases z:nI N sc xs with
  | none=>rw [z] at h;cases h
  | some ls=>rw [z] at h;cases h;exact bh (tJ eN es xs z)
 | List xs p =>
  unfold litE at h
  cases z:nI N sc xs with
  | none=>rw [z] at h;cases h
  | some ls=>rw [z] at h;cases h;exact bF (tJ eN es xs z)
 | Dict ks vs p =>
  cases ks with
  | nil =>
   cases vs with
   | nil=>cases h;exact Dv
   | cons _ _=>cases h
  | cons _ _=>cases h
 | _=>cases h
theorem tJ {N:List Str} {sc:Scope} (eN:X.N=N) (es:X.env.scope=sc):∀(xs:List Expr) {ls:List Lt},nI N sc xs=some ls->PA X xs (ur ls)
 | [],ls,h=>by cases h;exact af
 | e::r,ls,h=>by
  unfold nI at h
  cases z1:litE N sc e with
  | none=>rw [z1] at h;cases h
  | some x =>
   cases z2:nI N sc r with
   | none=>rw [z1,z2] at h;cases h
   | some ys =>
    rw [z1,z2] at h
    dsimp only at h
    by_cases c:plainArg e=true
    ·rw [if_pos c] at h
     cases h
     exact paS (pe_litN eN es e z1) (tJ eN es r z2) c
    ·rw [if_neg c] at h;cases h
end
structure ui (X:Cx) (ss:List Stmt) (t:TS):Prop where
 h:PSs X ss t
theorem Au {st:Stmt} {rest:List Stmt} {t u:TS} (h1:PS X st t) (h2:ui X rest u):PSs X (st::rest) (Ca t u):=ag h1 h2.h
end
structure HE (X:Cx) (e:Expr) (t:TE):Prop where
 h:PE X e t
structure HA (X:Cx) (es:List Expr) (t:TA):Prop where
 h:PA X es t
structure HP (X:Cx) (pos:Pos) (ks:List (Option Expr)) (vs:List Expr) (trs:List (TE×TE)):Prop where
 h:PPs X pos ks vs trs
structure HT (X:Cx) (e:Expr) (t:TT):Prop where
 h:PT X e t
structure HS (X:Cx) (s:Stmt) (t:TS):Prop where
 h:PS X s t
section
variable {X:Cx} {e f a b:Expr} {es fs:List Expr} {t:TA} {te ta tb:TE} {k j:Nat} {p pos:Pos} {i:Int} {x:Str}
theorem gR:HE X (.Constant (.int i) j pos) (tC (.int i)):=⟨aq⟩
theorem gq:HE X (.Constant (.str x) j pos) (tC (.str x)):=⟨aM⟩
theorem Ei:HE X (.Constant .none j pos) (tC .non):=⟨bX⟩
theorem hv (i:Nat) {x:Str} {pos:Pos} (hN:X.N[i]?=some x:=by rfl) (hv:Vis X.env.scope x:=by first | exact Or.inl rfl | exact Or.inr (Or.inl rfl) | exact Or.inr (Or.inr rfl)) (hd:(x == ("__debug__":Str))=false:=by decide) (hd2:(x == ("__classdict__":Str))=false:=by decide):HE X (.Name x pos) (tVar i):=⟨pv i hN hv hd hd2⟩
theorem cg (h:HA X es t):HE X (.Tuple es k pos) (tTup t):=⟨bh h.h⟩
theorem he_lst (h:HA X es t):HE X (.List es pos) (tLst t):=⟨bF h.h⟩
theorem bA:HA X [] nM:=⟨af⟩
theorem bc (ha:HE X e te) (hr:HA X es t) (h:plainArg e=true:=by rfl):HA X (e::es) (eA te t):=⟨aa ha.h hr.h (iX h)⟩
theorem bw (hr:HA X es t):HA X (.Constant (.int i) j p::es) (eA (tC (.int i)) t):=⟨aa aq hr.h⟩
theorem kC (ha:HE X (.Tuple fs k p) te) (hr:HA X es t):HA X (.Tuple fs k p::es) (eA te t):=⟨aa ha.h hr.h⟩
theorem oG:HP X pos [] [] []:=⟨pps_nil⟩
theorem eW {k v:Expr} {ks:List (Option Expr)} {vs:List Expr} {tk tv:TE} {trs:List (TE×TE)} (hk:HE X k tk) (hv:HE X v tv) (hr:HP X pos ks vs trs):HP X pos (some k::ks) (v::vs) ((tk,tv)::trs):=⟨Dp hk.h hv.h hr.h⟩
theorem oH {keys:List (Option Expr)} {values:List Expr} {trs:List (TE×TE)} (h:HP X pos keys values trs) (hall:keys.all (·.isSome)=true) (hl:keys.length=values.length) (h0:keys≠[]) (h15:keys.length<=15):HE X (.Dict keys values pos) (tDisp trs):=⟨pe_disp h.h hall hl h0 h15⟩
theorem jM {n:Nat} {ps:List Str} {sp:Sp} (D:Def X.prog X.w X.K X.mg X.base n x ps sp) (hr:cX n X.A) (hg:Gl X x) (ha:HA X (e::es) t) (hdb:(x == ("__debug__":Str))=false:=by decide) (hp:plainArg e=true:=by rfl) (hpl:(backTo pos (starEach es X.env)).any (·.1)=false:=by rfl):HE X (.Call (.Name x p) (e::es) [] pos) (oO sp [] E0 t):=⟨aH D hr hg ha.h hdb (iX hp) hpl⟩
theorem zF {op:UnaryOp} {r:V->Hp->VK->Prop} (ho:UnR X (unaryOp op) r) (ha:HE X a ta):HE X (.UnaryOp op a pos) (tUn r ta):=⟨zf ho ha.h⟩
theorem pZ {r:R2} (hr:IxR X r) (ha:HE X a ta) (hb:HE X b tb) (hs:zW b):HE X (.Subscript a b pos) (tOp r ta tb):=⟨aE hr ha.h hb.h hs⟩
theorem he_dget (hu:X.A.units+1 < cLine) (ho:HE X a ta) (hi:HE X b tb) (hs:NoSl b):HE X (.Subscript a b pos) (tDGet ta tb):=⟨oz hu ho.h hi.h hs⟩
theorem vZ {id:String} {r:List V->Hp->VK->Prop} (hc:ft X (.builtin id) r) (hg:Gl X x) (hm:X.mg x=none) (hv:bootBuiltins x=some (.builtin id)) (ha:HA X (e::es) t) (hn:x≠"__name__":=by decide) (hdb:(x == ("__debug__":Str))=false:=by decide) (hp:plainArg e=true:=by rfl) (hpl:(backTo pos (starEach es X.env)).any (·.1)=false:=by rfl):HE X (.Call (.Name x p) (e::es) [] pos) (tCB r t):=⟨aB hc hg hm hv ha.h hn hdb (iX hp) hpl⟩
theorem oC {op:CmpOp} {r:R2} (ho:OpR X (compareOp op) r) (ha:HE X a ta) (hb:HE X b tb) (hm:behindInMarks op b=false):HT X (.Compare a [op] [b] pos) (BZ (tOp r ta tb)):=⟨aC ho ha.h hb.h hm⟩
theorem un {ss:List Stmt} {t:TS} (h:ui X ss t):PSs X ss t:=h.h
theorem oF:ui X [] Cb:=⟨aG⟩
theorem oE {st:Stmt} {t:TS} (h:HS X st t):ui X [st] t:=⟨ak h.h⟩
theorem cT {st:Stmt} {rest:List Stmt} {t u:TS} (h1:HS X st t) (h2:ui X rest u):ui X (st::rest) (Ca t u):=⟨ag h1.h h2.h⟩
theorem zE {c:Expr} {b e:List Stmt} {tc:TT} {t u:TS} (hc:HT X c tc) (hb:ui X b t) (he:ui X e u):HS X (.If c b e pos) (tIfS tc t u):=⟨aO hc.h hb.h he.h⟩
theorem Ef (h:HE X e te):HS X (.Return (some e) pos) (Ai te):=⟨av h.h⟩
theorem iy {i:Nat} {pos':Pos} (hN:X.N.Nodup) (hi:X.N[i]?=some x) (hx:Loc X.env.scope x) (he:HE X e te) (hs:swapsWith e (some (.Name x pos')) pos.line X.env=pure false:=by rfl) (hf:X.fn x=true\/X.env.scope.names.lookup x=some .local:=by first | exact .inl rfl | exact .inr rfl | assumption):HS X (.Assign [.Name x pos'] e pos) (tAsg te (rQ i)):=⟨aJ hN hi hx he.h hs hf⟩
end
end L2
namespace Mine
open PySem L2
theorem fY {h:List T3} {x:T3}:Hu.aX h (Hu.z0,x,x)=some x:=by
 unfold Hu.aX
 rw [if_pos (λq _=>Int.le_of_eq (Hu.nv q))]
theorem val4 {k:Nat} (hk:k < 4) (t1 t2 t3 t4:V):ee (bG [] [(Sum.inr "never",t1),(Sum.inr "always",t2),(Sum.inr "p",t3),(Sum.inr "q",t4)]) (Sum.inr (lw k))=some (if k=0 then t1 else if k=1 then t2 else if k=2 then t3 else t4):=by
 simp only [bG,List.foldl_cons,List.foldl_nil,iA]
 rcases (by omega:k=0\/k=1\/k=2\/k=3) with rfl | rfl | rfl | rfl
 ·rw [if_neg (by decide +kernel),if_neg (by decide +kernel),if_neg (by decide +kernel),if_pos (by decide +kernel)]
  rfl
 ·rw [if_neg (by decide +kernel),if_neg (by decide +kernel),if_pos (by decide +kernel)]
  rfl
 ·rw [if_neg (by decide +kernel),if_pos (by decide +kernel)]
  rfl
 ·rw [if_pos (by decide +kernel)]
  rfl
theorem val2a {a b:Str} (t1 t2:V) (h:(Sum.inr a:Key)≠Sum.inr b):ee (bG [] [(Sum.inr a,t1),(Sum.inr b,t2)]) (Sum.inr a)=some t1:=by
 simp only [bG,List.foldl_cons,List.foldl_nil,iA]
 rw [if_neg h,if_pos trivial]
theorem val2b {a b:Str} (t1 t2:V):ee (bG [] [(Sum.inr a,t1),(Sum.inr b,t2)]) (Sum.inr b)=some t2:=by
 simp only [bG,List.foldl_cons,List.foldl_nil,iA]
 rw [if_pos trivial]
theorem val1 {a:Str} (t1:V):ee (bG [] [(Sum.inr a,t1)]) (Sum.inr a)=some t1:=by
 simp only [bG,List.foldl_cons,List.foldl_nil,iA]
 rw [if_pos trivial]
theorem um {H:Hp} {l:Addr} {kvs:List (Key×V)} {u:HO} (e:H l=some (.dK kvs)):Tst H (upd H l u) :=
 ⟨λb ys h=>by rw [au (pP h e (by intro z;cases z))];exact h,λb o u h=>by rw [au (pP h e (by intro z;cases z))];exact h⟩
noncomputable def yJ (K:PySem.W.Frag):Sp:=λvs H Q _=>∃(x:V) (lr lh:Addr) (ws hs:List V) (r:Hu.Row) (rs h:List T3),vs=[x,.ref lr,.ref lh]/\Dat K H (lK r) x/\H lr=some (.lst ws)/\DatAll K H (rs.map t3D) ws/\r.Ok rs.length/\Hu.Rb rs/\rs.length<=100/\H lh=some (.lst hs)/\DatAll K H (h.map t3D) hs/\(∀ p∈h,Hu.R3 3000 p)/\0 < h.length/\h.length<=900/\
 (∀(x:T3) (u:V) (t:Addr) (H':Hp),aI H H'->Hu.aX h (Hu.choice rs r)=some x->Dat K H' (t3D x) u->H' t=some (.tup [u,.non])->Q (.ref t) H')/\
 (Hu.aX h (Hu.choice rs r)=none->∀(u:V) (t:Addr) (H':Hp),aI H H'->Dat K H' (t3D (Hu.choice rs r).1) u->H' t=some (.tup [.non,u])->Q (.ref t) H')
noncomputable def uK (K:PySem.W.Frag):Sp:=λvs H Q _=>∃(l lh:Addr) (us hs:List V) (rows:List Hu.Row) (h:List T3),vs=[.ref l,.ref lh]/\H l=some (.lst us)/\DatAll K H (rows.map lK) us/\kT rows/\rows.length<=100/\H lh=some (.lst hs)/\DatAll K H (h.map t3D) hs/\(∀ p∈h,Hu.R3 3000 p)/\0 < h.length/\h.length<=900/\
 (∀(rs:List T3) (t lr:Addr) (ws:List V) (H':Hp),aI H H'->Hu.run h rows []=.rules rs->Hu.Rb rs->rs.length=rows.length->H' t=some (.tup [.ref lr,.non])->H' lr=some (.lst ws)->DatAll K H' (rs.map t3D) ws->Q (.ref t) H')/\
 (∀(k:Nat) (tt:T3) (t:Addr) (v:V) (H':Hp),aI H H'->Hu.run h rows []=.mixed k tt->k < rows.length->Hu.R3 (k+1) tt->H' t=some (.tup [.non,v])->Dat K H' (t3D tt) v->Q (.ref t) H')
section
variable {P:Program} {w:World} {K:PySem.W.Frag} {mg:Str->Option Value} {base:Heap}
theorem DL (T:aD K mg "_law_rule" gM) (bf:mg "len"=none) (bN:mg "min"=none) (bZ:mg "max"=none) (dX:Def P w K mg base 1 "_law_sum" ["_law_one","_law_other","_law_by"] (spAdd K)) (fq:Def P w K mg base 1 "_law_tells" ["_law_rule_here","_law_corner"] (Al K)):Def P w K mg base 2 "_law_rule" ["_law_row","_law_rules_here","_law_hull"] (yJ K):=by
 refine aN T rn (λ_ _ _ _ _ _=>L2.ar3 λ_ _ _=>rfl) (λvs H Q E h=>?_) (λf cdv A outer s H vs Q E hr h=>?_)
 ·obtain ⟨x,lr,lh,ws,hs,r,rs,h,rfl,_⟩:=h
  rfl
 obtain ⟨x,lr,lh,ws,hs,r,rs,h,rfl,dx,hlr,dr,ok,rb,few,hlh,dh,bp,pos,hfew,q1,q2⟩:=h
 have nd:=rn.nd
 obtain ⟨a,rfl,sa⟩:=CY dx
 have d2:(2:Nat)<=sizeLine:=by decide
 have d3:(3:Nat)<=sizeLine:=by decide
 obtain ⟨cb,_,_⟩:=Hu.jP rb ok
 have t8:∃ t,PSs (cS CX0 P w K mg base vL "_law_rule" (ah gM) f cdv A outer s H E).nox ((bu gM).drop 8) t/\
   ∀(
    H1:Hp) (k i j:Nat) (x1 x2 x3:V) (dw tw:Addr) (kvs:List (Key×V)) (o3 o4 o5 o8:Option V),r=.fd k i j->aI H H1->H1 dw=some (.dK kvs)->ee kvs (Sum.inr (fw k))=some (.ref tw)->SqT K H1 tw [x2,x3]->Dat K H1 (t3D (Hu.choice rs r).1) x1->Dat K H1 (t3D (Hu.choice rs r).2.1) x2->Dat K H1 (t3D (Hu.choice rs r).2.2) x3->
    t {nx:=λ_ H'=>Q .non H',rt:=Q} [some (.ref a),some (.ref lr),some (.ref lh),o3,o4,o5,some x1,some (.ref dw),o8] H1:=by
  refine ⟨_,(ag (lM (i:=8) nd rfl (Or.inl rfl) (Or.inl rfl) rfl rfl (cQ (pv 2)) rfl (by decide +kernel) (by decide +kernel) rfl (show ∀ p∈Scope.names _,p.2=NameKind.free->List.lookup p.1 (ah gM).names=some .cell\/List.lookup p.1 (ah gM).names=some .free by decide +kernel) (cI (j:=6) rfl (Or.inl rfl) (by decide +kernel) (Or.inl rfl) cR) (show (["_law_corner","_law_test"]:List Str).Nodup by decide +kernel) (λ_ _ _ _=>dq) (λ_ _ _ _=>(aH fq (hr.mono (by decide)) rfl (aa (pv 1) (aa (pv 0) af)))))
  (ag (aO (aC ji (aB (ki rfl) rfl bZ (by decide +kernel) (aa (pv 8) af)) aq (aF _)) (ak (av (bh (aa (aE az (oz (zD hr) (pv 7) (aE az (pv 0) aq (λ_ _=>rfl)) (λ_ _=>rfl)) aq (λ_ _=>rfl)) (aa bX af))))) aG)
  (ag (aO (aC pN (aB (iT rfl) rfl bN (by decide +kernel) (aa (pv 8) af)) aq (aF _)) (ak (av (bh (aa (aE az (oz (zD hr) (pv 7) (aE az (pv 0) aq (λ_ _=>rfl)) (λ_ _=>rfl)) aq (λ_ _=>rfl)) (aa bX af))))) aG)
  (ak (av (bh (aa bX (aa (pv 6) af)))))))),?_⟩
  intro H1 k i j x1 x2 x3 dw tw kvs o3 o4 o5 o8 er s1 ed ev st e1 e2 e3
  refine ⟨_,rfl,lh,rfl,⟨hs,SqL.of (s1 _ _ hlh)⟩,λD hD=>?_⟩
  refine oM (K:=K) (r:=(Hu.choice rs r).1) (λH' s'=>SqL.of (s' _ _ (s1 _ _ hlh))) (dh.ts s1.ts) hfew hD ?step ?fin
  case step =>
   intro v p H' kk s' hp dp q
   exact ⟨_,rfl,_,rfl,x1,v,(Hu.choice rs r).1,p,rfl,e1.ts s'.ts,dp,cb.mono (by omega),bp p hp,q⟩
  intro H4 s4 hD4
  have m4:=s1.trans s4
  have hne:0 < (h.map (Hu.tl (Hu.choice rs r).1)).length:=by rw [List.length_map];exact pos
  have sa4:SqT K H4 a (rwX r):=sa.ts m4.ts
  have hrw:rwX r=[.str (fw k),.int i,.int j]:=by rw [er];rfl
  rw [hrw] at sa4
  refine ⟨_,rfl,D,_,rfl,SqL.of hD4,hne,λM hM hmax=>?_⟩
  refine ⟨_,_,rfl,rfl,_,rfl,?_⟩
  obtain ⟨p1,hp1,ep1⟩:=List.mem_map.mp hM
  refine dB (λcc=>?_) (λcc=>?_)
  ·have c':M<=0:=of_decide_eq_true cc
   have al:∀ q∈h,Hu.tl (Hu.choice rs r).1 q<=0:=λq hq=>Int.le_trans (hmax _ (List.mem_map.mpr ⟨q,hq,rfl⟩)) c'
   refine ⟨_,rfl,_,rfl,_,_,_,_,rfl,rfl,sa4,rfl,dw,_,rfl,(show jk H4 dw (kV (Sum.inr (fw k))) (some (.ref tw)) from by rw [<- ev];exact jk.k (s4 _ _ ed)),_,_,_,_,rfl,rfl,st.ts s4.ts,rfl,d2,λp hp=>?_⟩
   have u:=ao hp (.tup [x2,.non])
   exact q1 _ _ p _ (m4.trans u) (by unfold Hu.aX;rw [if_pos al]) ((e2.ts s4.ts).ts u.ts) ae
  have c1:¬M<=0:=λz=>cc (decide_eq_true z)
  have n1:¬ ∀ q∈h,Hu.tl (Hu.choice rs r).1 q<=0:=λz=>by have:=z p1 hp1;omega
  refine ⟨_,rfl,D,_,rfl,SqL.of hD4,hne,λM2 hM2 hmin=>?_⟩
  refine ⟨_,_,rfl,rfl,_,rfl,?_⟩
  obtain ⟨p2,hp2,ep2⟩:=List.mem_map.mp hM2
  refine dB (λcc=>?_) (λcc=>?_)
  ·have c':0<=M2:=of_decide_eq_true cc
   have al:∀ q∈h,0<=Hu.tl (Hu.choice rs r).1 q:=λq hq=>Int.le_trans c' (hmin _ (List.mem_map.mpr ⟨q,hq,rfl⟩))
   refine ⟨_,rfl,_,rfl,_,_,_,_,rfl,rfl,sa4,rfl,dw,_,rfl,(show jk H4 dw (kV (Sum.inr (fw k))) (some (.ref tw)) from by rw [<- ev];exact jk.k (s4 _ _ ed)),_,_,_,_,rfl,rfl,st.ts s4.ts,rfl,d2,λp hp=>?_⟩
   have u:=ao hp (.tup [x3,.non])
   exact q1 _ _ p _ (m4.trans u) (by unfold Hu.aX;rw [if_neg n1,if_pos al]) ((e3.ts s4.ts).ts u.ts) ae
  ·have c2:¬0<=M2:=λz=>cc (decide_eq_true z)
   have n2:¬ ∀ q∈h,0<=Hu.tl (Hu.choice rs r).1 q:=λz=>by have:=z p2 hp2;omega
   refine ⟨_,rfl,d2,λp hp=>?_⟩
   have u:=ao hp (.tup [.non,x1])
   exact q2 (by unfold Hu.aX;rw [if_neg n1,if_neg n2]) _ p _ (m4.trans u) ((e1.ts s4.ts).ts u.ts) ae
 obtain ⟨t8,ht8,hq8⟩:=t8
 refine ⟨_,un (cT (zE (oC bQ (vZ bz rfl bf (by decide +kernel) (bc (hv 0) bA)) gR (aF _)) (cT (iy (i:=3) nd rfl (Or.inl rfl) (oH (eW gq (cg (bw (bw (bw bA)))) (eW gq (cg (bw (bw (bw bA)))) (eW gq (cg (bw (bw (bw bA)))) (eW gq (cg (bw (bw (bw bA)))) oG)))) rfl rfl (by intro z;cases z) (by decide)))
  (oE (Ef (cg (bc (he_dget (zD hr) (hv 3) (pZ az (hv 0) gR (λ_ _=>rfl)) (λ_ _=>rfl)) (bc Ei bA)))))) oF) (cT (iy (i:=4) nd rfl (Or.inl rfl) (pZ bL (hv 1) (pZ az (hv 0) gR (λ_ _=>rfl)) (λ_ _=>rfl))) (cT (zE (oC bQ (vZ bz rfl bf (by decide +kernel) (bc (hv 0) bA)) gR (aF _)) (oE (Ef (cg (bc (jM dX (hr.mono (by decide)) rfl (kC (cg (bw (bw (bw bA)))) (bc (hv 4) (bc (zF kE gR) bA)))) (bc Ei bA))))) oF) (cT (iy (i:=5) nd rfl (Or.inl rfl) (pZ bL (hv 1) (pZ az (hv 0) gR (λ_ _=>rfl)) (λ_ _=>rfl))) (cT (iy (i:=6) nd rfl (Or.inr rfl) (jM dX (hr.mono (by decide)) rfl (bc (jM dX (hr.mono (by decide)) rfl (bc (hv 4) (bc (hv 5) (bw bA)))) (kC (cg (bw (bw (bw bA)))) (bc (zF kE gR) bA))))) (cT (iy (i:=7) nd rfl (Or.inl rfl) (oH (eW gq (cg (bc (jM dX (hr.mono (by decide)) rfl (bc (hv 4) (bc (hv 5) (bw bA)))) (kC (cg (bw (bw (bw bA)))) bA))) (eW gq (cg (kC (cg (bw (bw (bw bA)))) (bc (hv 6) bA))) oG)) rfl rfl (by intro z;cases z) (by decide))) (cT (zE (oC ka (pZ az (hv 0) gR (λ_ _=>rfl)) (cg (bc gq (bc gq bA))) rfl) (cT (iy (i:=6) nd rfl (Or.inr rfl) (jM dX (hr.mono (by decide)) rfl (bc (hv 4) (bc (hv 5) (bc (zF kE gR) bA)))))
  (oE (iy (i:=7) nd rfl (Or.inl rfl) (oH (eW gq (cg (bc (hv 5) (bc (hv 4) bA))) (eW gq (cg (bc (hv 4) (bc (hv 5) bA))) oG)) rfl rfl (by intro z;cases z) (by decide))))) oF) (cT (zE (oC bQ (pZ az (hv 0) gR (λ_ _=>rfl)) gq (aF _)) (cT (iy (i:=6) nd rfl (Or.inr rfl) (jM dX (hr.mono (by decide)) rfl (bc (hv 5) (bc (hv 4) (bc (zF kE gR) bA)))))
  (oE (iy (i:=7) nd rfl (Or.inl rfl) (oH (eW gq (cg (bc (jM dX (hr.mono (by decide)) rfl (kC (cg (bw (bw (bw bA)))) (bc (hv 6) (bw bA)))) (kC (cg (bw (bw (bw bA)))) bA))) oG) rfl rfl (by intro z;cases z) (by decide))))) oF) ⟨ht8⟩)))))))),?_⟩
 cases r with
 | lf k =>
  have hk:k < 4:=ok
  refine ⟨_,rfl,_,_,rfl,.inr ⟨_,sa,rfl⟩,rfl,_,rfl,dI ?_⟩
  intro dw hdw
  refine ⟨d3,λt1 h1=>⟨d3,λt2 h2=>⟨d3,λt3 h3=>⟨d3,λt4 h4=>?_⟩⟩⟩⟩
  have u0:=ao hdw (.dK [])
  have u1:=ao h1 (.tup [.int 0,.int 0,.int 0])
  have u2:=ao h2 (.tup [.int 0,.int 0,.int 1])
  have u3:=ao h3 (.tup [.int 1,.int 0,.int 0])
  have u4:=ao h4 (.tup [.int 0,.int 1,.int 0])
  have e1:=(u2.trans (u3.trans u4)) _ _ ae
  have e2:=(u3.trans u4) _ _ ae
  have e3:=u4 _ _ ae
  have e4:_=some (HO.tup [.int 0,.int 1,.int 0]):=ae (H:=upd (upd (upd (upd H dw (.dK [])) t1 (.tup [.int 0,.int 0,.int 0])) t2 (.tup [.int 0,.int 0,.int 1])) t3 (.tup [.int 1,.int 0,.int 0])) (a:=t4)
  have ed:=(u1.trans (u2.trans (u3.trans u4))) _ _ ae
  have s5:=u0.trans (u1.trans (u2.trans (u3.trans u4)))
  generalize upd (upd (upd (upd (upd H dw (.dK [])) t1 (.tup [.int 0,.int 0,.int 0])) t2 (.tup [.int 0,.int 0,.int 1])) t3 (.tup [.int 1,.int 0,.int 0])) t4 (.tup [.int 0,.int 1,.int 0])=H5 at *
  refine ⟨ed,[(Sum.inr "never",.ref t1),(Sum.inr "always",.ref t2),(Sum.inr "p",.ref t3),(Sum.inr "q",.ref t4)],rfl,Nat.le_of_ble_eq_true rfl,?_⟩
  have tm:Tst H5 (upd H5 dw (.dK (bG [] [(Sum.inr "never",.ref t1),(Sum.inr "always",.ref t2),(Sum.inr "p",.ref t3),(Sum.inr "q",.ref t4)]))):=um ed
  have s6:=aU s5 hdw (.dK (bG [] [(Sum.inr "never",.ref t1),(Sum.inr "always",.ref t2),(Sum.inr "p",.ref t3),(Sum.inr "q",.ref t4)]))
  have hv:=val4 hk (.ref t1) (.ref t2) (.ref t3) (.ref t4)
  have ed6:upd H5 dw (.dK (bG [] [(Sum.inr "never",.ref t1),(Sum.inr "always",.ref t2),(Sum.inr "p",.ref t3),(Sum.inr "q",.ref t4)])) dw=some (.dK (bG [] [(Sum.inr "never",.ref t1),(Sum.inr "always",.ref t2),(Sum.inr "p",.ref t3),(Sum.inr "q",.ref t4)])):=ae
  have D1:=((bW (K:=K) (p:=Hu.lft 0) (SqT.of e1)).ts tm)
  have D2:=((bW (K:=K) (p:=Hu.lft 1) (SqT.of e2)).ts tm)
  have D3:=((bW (K:=K) (p:=Hu.lft 2) (SqT.of e3)).ts tm)
  have D4:=((bW (K:=K) (p:=Hu.lft 3) (SqT.of e4)).ts tm)
  generalize bG [] [(Sum.inr "never",V.ref t1),(Sum.inr "always",.ref t2),(Sum.inr "p",.ref t3),(Sum.inr "q",.ref t4)]=kvs at *
  generalize upd H5 dw (.dK kvs)=H6 at *
  have dv:Dat K H6 (t3D (Hu.lft k)) (if k=0 then .ref t1 else if k=1 then .ref t2 else if k=2 then .ref t3 else .ref t4):=by
   rcases (by omega:k=0\/k=1\/k=2\/k=3) with rfl | rfl | rfl | rfl
   ·exact D1
   ·exact D2
   ·exact D3
   ·exact D4
  generalize (if k=0 then V.ref t1 else if k=1 then .ref t2 else if k=2 then .ref t3 else .ref t4)=u at hv dv
  refine ⟨_,rfl,_,rfl,_,_,_,_,rfl,rfl,sa.ts s6.ts,rfl,dw,u,rfl,(show jk H6 dw (kV (Sum.inr (lw k))) (some u) from by rw [<- hv];exact jk.k ed6),d2,λp hp=>?_⟩
  have u7:=ao hp (.tup [u,.non])
  exact q1 _ u p _ (s6.trans u7) fY (dv.ts u7.ts) ae
 | nt i =>
  obtain ⟨y,hy,dy⟩:=lx dr (getD_at (show i < rs.length from ok))
  have by':=(Hu.nG rb (show i < rs.length from ok)).mono (show rs.length<=3000 by omega)
  refine ⟨_,rfl,_,_,rfl,.inr ⟨_,sa,rfl⟩,rfl,_,rfl,bB ?_⟩
  refine ⟨_,rfl,_,rfl,_,_,_,_,rfl,rfl,sa,rfl,_,_,_,_,rfl,rfl,SqL.of hlr,dD hy,?_⟩
  refine ⟨_,rfl,_,_,rfl,.inr ⟨_,sa,rfl⟩,rfl,_,rfl,dI ?_⟩
  refine ⟨d3,λt1 h1=>?_⟩
  have u1:=ao h1 (.tup [.int 0,.int 0,.int 1])
  refine ⟨_,rfl,_,rfl,.ref t1,y,Hu.al,rs.getD i Hu.z0,-1,rfl,bW (p:=Hu.al) (SqT.of ae),dy.ts u1.ts,.inr rfl,by',λt2 H2 s2 e2=>?_⟩
  rw [uQ] at e2
  refine ⟨d2,λp hp=>?_⟩
  have u3:=ao hp (.tup [.ref t2,.non])
  exact q1 _ (.ref t2) p _ ((u1.trans s2).trans u3) fY (e2.ts u3.ts) ae
 | fd k i j =>
  obtain ⟨hk,hi,hj⟩:=ok
  obtain ⟨y,hy,dy⟩:=lx dr (getD_at hi)
  obtain ⟨z,hz,dz⟩:=lx dr (getD_at hj)
  have by':=(Hu.nG rb hi).mono (show rs.length<=3000 by omega)
  have bz':=(Hu.nG rb hj).mono (show rs.length<=3000 by omega)
  have byz:=(Hu.rq (Hu.nG rb hj) (Hu.nG rb hi)).mono (show rs.length+1<=3000 by omega)
  have ech:Hu.choice rs (.fd k i j)=Hu.fch k (rs.getD i Hu.z0) (rs.getD j Hu.z0):=rfl
  rw [ech] at hq8
  generalize rs.getD i Hu.z0=A1 at *
  generalize rs.getD j Hu.z0=B1 at *
  refine ⟨_,rfl,_,_,rfl,.inr ⟨_,sa,rfl⟩,rfl,_,rfl,bB ?_⟩
  refine ⟨_,rfl,_,rfl,_,_,_,_,rfl,rfl,sa,rfl,_,_,_,_,rfl,rfl,SqL.of hlr,dD hy,?_⟩
  refine ⟨_,rfl,_,_,rfl,.inr ⟨_,sa,rfl⟩,rfl,_,rfl,bB ?_⟩
  refine ⟨_,rfl,_,rfl,_,_,_,_,rfl,rfl,sa,rfl,_,_,_,_,rfl,rfl,SqL.of hlr,dD hz,?_⟩
  refine ⟨_,rfl,_,rfl,y,z,A1,B1,1,rfl,dy,dz,.inl rfl,bz',λt1 H1 s1 e1=>⟨d3,λt2 h2=>?_⟩⟩
  rw [Cv] at e1
  have u2:=ao h2 (.tup [.int 0,.int 0,.int 1])
  refine ⟨_,rfl,.ref t1,.ref t2,Hu.pl A1 B1,Hu.al,-1,rfl,e1.ts u2.ts,bW (p:=Hu.al) (SqT.of ae),.inr rfl,(Hu.sV 0).mono (by decide),λt3 H3 s3 e3=>?_⟩
  rw [uQ] at e3
  have m3:=(s1.trans u2).trans s3
  intro dw hdw
  have u4:=ao hdw (.dK [])
  have ed4:upd H3 dw (.dK []) dw=some (.dK []):=ae
  generalize upd H3 dw (.dK [])=H4 at u4 ed4 ⊢
  have m4:=m3.trans u4
  refine ⟨_,rfl,_,rfl,y,z,A1,B1,1,rfl,dy.ts m4.ts,dz.ts m4.ts,.inl rfl,bz',λt5 H5 s5 e5=>⟨d3,λt6 h6=>⟨d2,λt7 h7=>⟨d3,λt8' h8=>⟨_,rfl,d2,λt9 h9=>?_⟩⟩⟩⟩⟩
  rw [Cv] at e5
  have u6:=ao h6 (.tup [.int 0,.int 0,.int 1])
  have u7:=ao h7 (.tup [.ref t5,.ref t6])
  have u8:=ao h8 (.tup [.int 0,.int 0,.int 0])
  have u9:=ao h9 (.tup [.ref t8',.ref t3])
  have ed9:=(s5.trans (u6.trans (u7.trans (u8.trans u9)))) _ _ ed4
  have f6:=(u7.trans (u8.trans u9)) _ _ ae
  have f7:=(u8.trans u9) _ _ ae
  have f8:=u9 _ _ ae
  have f9:upd (upd (upd (upd H5 t6 (.tup [.int 0,.int 0,.int 1])) t7 (.tup [.ref t5,.ref t6])) t8' (.tup [.int 0,.int 0,.int 0])) t9 (.tup [.ref t8',.ref t3]) t9=some (.tup [.ref t8',.ref t3]):=ae
  have e59:=e5.ts (u6.trans (u7.trans (u8.trans u9))).ts
  have m49:=s5.trans (u6.trans (u7.trans (u8.trans u9)))
  generalize upd (upd (upd (upd H5 t6 (.tup [.int 0,.int 0,.int 1])) t7 (.tup [.ref t5,.ref t6])) t8' (.tup [.int 0,.int 0,.int 0])) t9 (.tup [.ref t8',.ref t3])=H9 at *
  refine ⟨ed9,[(Sum.inr "more",.ref t7),(Sum.inr "less",.ref t9)],rfl,Nat.le_of_ble_eq_true rfl,?_⟩
  have m9:=(m3.trans u4).trans m49
  have tA:Tst H9 (upd H9 dw (.dK (bG [] [(Sum.inr "more",.ref t7),(Sum.inr "less",.ref t9)]))):=um ed9
  have mA:aI H (upd H9 dw (.dK (bG [] [(Sum.inr "more",.ref t7),(Sum.inr "less",.ref t9)]))):=aU m9 (m3.free hdw) _
  have edA:upd H9 dw (.dK (bG [] [(Sum.inr "more",.ref t7),(Sum.inr "less",.ref t9)])) dw=some (.dK (bG [] [(Sum.inr "more",.ref t7),(Sum.inr "less",.ref t9)])):=ae
  have g3:=(e3.ts (u4.trans m49).ts).ts tA
  have g5:=e59.ts tA
  have g6:=(bW (K:=K) (p:=Hu.al) (SqT.of f6)).ts tA
  have g7:=(SqT.of (K:=K) f7).ts tA
  have g8:=(bW (K:=K) (p:=Hu.z0) (SqT.of f8)).ts tA
  have g9:=(SqT.of (K:=K) f9).ts tA
  have v7:=val2a (a:="more") (b:="less") (V.ref t7) (V.ref t9) (by decide +kernel)
  have v9:=val2b (a:="more") (b:="less") (V.ref t7) (V.ref t9)
  generalize bG [] [(Sum.inr "more",V.ref t7),(Sum.inr "less",.ref t9)]=kvs at *
  generalize upd H9 dw (.dK kvs)=HA at *
  clear ed9 f6 f7 f8 f9 e59 m49 e5 s5 h6 h7 h8 h9 u6 u7 u8 u9
  have saA:=sa.ts mA.ts
  rcases (by omega:k=0\/k=1\/k=2\/k=3\/k=4) with rfl | rfl | rfl | rfl | rfl
  ·refine ⟨_,rfl,_,_,_,_,rfl,rfl,saA,rfl,d2,λpB hB=>⟨pB,_,rfl,.inr (SqT.of ae),rfl,rfl,_,rfl,jL (by decide +kernel) ?_⟩⟩
   have uB:=ao hB (.tup [V.str "greater",.str "lesser"])
   refine ⟨_,rfl,_,_,_,_,rfl,rfl,saA.ts uB.ts,rfl,rfl,_,rfl,ite_no (by decide +kernel) ?_⟩
   exact hq8 _ 0 i j (.ref t3) (.ref t5) (.ref t6) dw t7 kvs _ _ _ _ rfl (mA.trans uB) (uB _ _ edA) v7 (g7.ts uB.ts) (g3.ts uB.ts) (g5.ts uB.ts) (g6.ts uB.ts)
  ·refine ⟨_,rfl,_,_,_,_,rfl,rfl,saA,rfl,d2,λpB hB=>⟨pB,_,rfl,.inr (SqT.of ae),rfl,rfl,_,rfl,jL (by decide +kernel) ?_⟩⟩
   have uB:=ao hB (.tup [V.str "greater",.str "lesser"])
   refine ⟨_,rfl,_,_,_,_,rfl,rfl,saA.ts uB.ts,rfl,rfl,_,rfl,ite_no (by decide +kernel) ?_⟩
   exact hq8 _ 1 i j (.ref t3) (.ref t8') (.ref t3) dw t9 kvs _ _ _ _ rfl (mA.trans uB) (uB _ _ edA) v9 (g9.ts uB.ts) (g3.ts uB.ts) (g8.ts uB.ts) (g3.ts uB.ts)
  ·refine ⟨_,rfl,_,_,_,_,rfl,rfl,saA,rfl,d2,λpB hB=>⟨pB,_,rfl,.inr (SqT.of ae),rfl,rfl,_,rfl,jK (by decide +kernel) ?_⟩⟩
   have uB:=ao hB (.tup [V.str "greater",.str "lesser"])
   have mB:=mA.trans uB
   refine ⟨_,rfl,_,rfl,_,rfl,y,z,A1,B1,-1,rfl,dy.ts mB.ts,dz.ts mB.ts,.inr rfl,bz',λtC HC sC eC=>?_⟩
   rw [uQ] at eC
   have mC:=mB.trans sC
   intro dw2 hd2
   have uD:=ao hd2 (.dK [])
   refine ⟨_,rfl,_,rfl,d2,λtE hE=>⟨_,rfl,_,rfl,d2,λtF hF=>?_⟩⟩
   have uE:=ao hE (.tup [z,y])
   have uF:=ao hF (.tup [y,z])
   have edF:=(uE.trans uF) _ _ ae
   have fE:=uF _ _ ae
   have mF:=mC.trans (uD.trans (uE.trans uF))
   have eF:=eC.ts (uD.trans (uE.trans uF)).ts
   generalize upd (upd (upd HC dw2 (.dK [])) tE (.tup [z,y])) tF (.tup [y,z])=HF at *
   refine ⟨edF,[(Sum.inr "greater",.ref tE),(Sum.inr "lesser",.ref tF)],rfl,Nat.le_of_ble_eq_true rfl,?_⟩
   have tG:=um (u:=.dK (bG [] [(Sum.inr "greater",.ref tE),(Sum.inr "lesser",.ref tF)])) edF
   have mG:=aU mF (mC.free hd2) (.dK (bG [] [(Sum.inr "greater",.ref tE),(Sum.inr "lesser",.ref tF)]))
   refine ⟨_,rfl,_,_,_,_,rfl,rfl,sa.ts mG.ts,rfl,rfl,_,rfl,ite_no (by decide +kernel) ?_⟩
   exact hq8 _ 2 i j (.ref tC) z y dw2 tE _ _ _ _ _ rfl mG ae (val2a _ _ (by decide +kernel)) ((SqT.of (K:=K) fE).ts tG) (eF.ts tG) (dz.ts mG.ts) (dy.ts mG.ts)
  ·refine ⟨_,rfl,_,_,_,_,rfl,rfl,saA,rfl,d2,λpB hB=>⟨pB,_,rfl,.inr (SqT.of ae),rfl,rfl,_,rfl,jK (by decide +kernel) ?_⟩⟩
   have uB:=ao hB (.tup [V.str "greater",.str "lesser"])
   have mB:=mA.trans uB
   refine ⟨_,rfl,_,rfl,_,rfl,y,z,A1,B1,-1,rfl,dy.ts mB.ts,dz.ts mB.ts,.inr rfl,bz',λtC HC sC eC=>?_⟩
   rw [uQ] at eC
   have mC:=mB.trans sC
   intro dw2 hd2
   have uD:=ao hd2 (.dK [])
   refine ⟨_,rfl,_,rfl,d2,λtE hE=>⟨_,rfl,_,rfl,d2,λtF hF=>?_⟩⟩
   have uE:=ao hE (.tup [z,y])
   have uF:=ao hF (.tup [y,z])
   have edF:=(uE.trans uF) _ _ ae
   have fF:upd (upd (upd HC dw2 (.dK [])) tE (.tup [z,y])) tF (.tup [y,z]) tF=some (.tup [y,z]):=ae
   have mF:=mC.trans (uD.trans (uE.trans uF))
   have eF:=eC.ts (uD.trans (uE.trans uF)).ts
   generalize upd (upd (upd HC dw2 (.dK [])) tE (.tup [z,y])) tF (.tup [y,z])=HF at *
   refine ⟨edF,[(Sum.inr "greater",.ref tE),(Sum.inr "lesser",.ref tF)],rfl,Nat.le_of_ble_eq_true rfl,?_⟩
   have tG:=um (u:=.dK (bG [] [(Sum.inr "greater",.ref tE),(Sum.inr "lesser",.ref tF)])) edF
   have mG:=aU mF (mC.free hd2) (.dK (bG [] [(Sum.inr "greater",.ref tE),(Sum.inr "lesser",.ref tF)]))
   refine ⟨_,rfl,_,_,_,_,rfl,rfl,sa.ts mG.ts,rfl,rfl,_,rfl,ite_no (by decide +kernel) ?_⟩
   exact hq8 _ 3 i j (.ref tC) y z dw2 tF _ _ _ _ _ rfl mG ae (val2b _ _) ((SqT.of (K:=K) fF).ts tG) (eF.ts tG) (dy.ts mG.ts) (dz.ts mG.ts)
  ·refine ⟨_,rfl,_,_,_,_,rfl,rfl,saA,rfl,d2,λpB hB=>⟨pB,_,rfl,.inr (SqT.of ae),rfl,rfl,_,rfl,jL (by decide +kernel) ?_⟩⟩
   have uB:=ao hB (.tup [V.str "greater",.str "lesser"])
   have mB:=mA.trans uB
   refine ⟨_,rfl,_,_,_,_,rfl,rfl,saA.ts uB.ts,rfl,rfl,_,rfl,ite_yes rfl ?_⟩
   refine ⟨_,rfl,_,rfl,_,rfl,z,y,B1,A1,-1,rfl,dz.ts mB.ts,dy.ts mB.ts,.inr rfl,by',λtC HC sC eC=>?_⟩
   rw [uQ] at eC
   have mC:=mB.trans sC
   intro dw2 hd2
   have uD:=ao hd2 (.dK [])
   refine ⟨d3,λt0 h0=>?_⟩
   have u0:=ao h0 (.tup [.int 0,.int 0,.int 1])
   refine ⟨_,rfl,.ref t0,.ref tC,Hu.al,Hu.mi B1 A1,1,rfl,bW (p:=Hu.al) (SqT.of ae),eC.ts (uD.trans u0).ts,.inl rfl,byz,λtE HE sE eE=>⟨d3,λtF hF=>⟨d2,λtG hG=>?_⟩⟩⟩
   rw [Cv] at eE
   have uF:=ao hF (.tup [.int 0,.int 0,.int 1])
   have uG:=ao hG (.tup [.ref tE,.ref tF])
   have edG:=(sE.trans (uF.trans uG)) _ _ (u0 _ _ (show upd HC dw2 (.dK []) dw2=some (.dK []) from ae))
   have fF:=uG _ _ ae
   have fG:upd (upd HE tF (.tup [.int 0,.int 0,.int 1])) tG (.tup [.ref tE,.ref tF]) tG=some (.tup [.ref tE,.ref tF]):=ae
   have mD:=(uD.trans u0).trans (sE.trans (uF.trans uG))
   have eG:=eE.ts (uF.trans uG).ts
   generalize upd (upd HE tF (.tup [.int 0,.int 0,.int 1])) tG (.tup [.ref tE,.ref tF])=HG at *
   refine ⟨edG,[(Sum.inr "leads",.ref tG)],rfl,Nat.le_of_ble_eq_true rfl,?_⟩
   have tI:=um (u:=.dK (bG [] [(Sum.inr "leads",.ref tG)])) edG
   have mG:=aU (mC.trans mD) (mC.free hd2) (.dK (bG [] [(Sum.inr "leads",.ref tG)]))
   exact hq8 _ 4 i j (.ref tC) (.ref tE) (.ref tF) dw2 tG _ _ _ _ _ rfl mG ae (val1 _) ((SqT.of (K:=K) fG).ts tI) ((eC.ts mD.ts).ts tI) (eG.ts tI) ((bW (K:=K) (p:=Hu.al) (SqT.of fF)).ts tI)
end
section
variable {P:Program} {w:World} {K:PySem.W.Frag} {mg:Str->Option Value} {base:Heap}
theorem AK (T:aD K mg "_law_cut" cN) (bN:mg "min"=none) (bZ:mg "max"=none) (cB:mg "enumerate"=none) (bf:mg "len"=none) (gW:mg "zip"=none) (ff:mg "abs"=none)
  (fq:Def P w K mg base 1 "_law_tells" ["_law_rule_here","_law_corner"] (Al K)) (iz:Def P w K mg base 1 "_law_lowest" ["_law_point"] spLwL):Def P w K mg base 3 "_law_cut" ["_law_hull","_law_rule_here"] (Cr K):=by
 refine aN T vg (λ_ _ _ _ _ _=>L2.ar2 λ_ _=>rfl) (λvs H Q E h=>?_) (λf cdv A outer s H vs Q E hr h=>?_)
 ·obtain ⟨l,x,us,h,r,rfl,_⟩:=h
  rfl
 obtain ⟨l,x,us,h,r,rfl,hl,da,dx,hu,hr3,kn,kc⟩:=h
 have nd:=vg.nd
 have lu:=il da
 have hpos:=hu.pos
 have hfew:=hu.few
 have br:Hu.R3 3000 r:=hr3.mono (by decide)
 have bp:∀ p∈h,Hu.R3 3000 p:=λp hp=>((hu.ok p hp).r).mono (by decide)
 have tb:∀ i,(Hu.tv r h i).natAbs < 2 ^ 2000:=λi=>Nat.lt_of_lt_of_le (Hu.tl_b hr3 (hu.ok _ (Hu.cW hpos i)).r) (Nat.pow_le_pow_right (by decide) (by decide))
 have tB:∀ i,Bg (Hu.tv r h i):=λi=>gU (tb i) (by decide)
 have t3:∃ t,PSs (cS CX0 P w K mg base lV "_law_cut" (ah cN) f cdv A outer s H E).nox ((kh (Ak cN 4)).drop 4) t/\
   ∀(
    N B:St->Hp->Prop) (H1 H':Hp) (d lo hi:Addr) (v:V) (i:Nat) (L1 L2:List T3) (o8 o9:Option V),i < h.length->MI K H1 H' lo hi L1 L2->H1 l=some (.lst us)->H1 d=some (.lst ((h.map (Hu.tl r)).map V.int))->H1 lo=none->H1 hi=none->lo≠hi->DatAll K H1 (h.map t3D) us->Dat K H' (t3D (Hu.cor h i)) v->L1.length<=900->L2.length<=900->
    (∀(H'':Hp) (o8' o9':Option V),MI K H1 H'' lo hi (L1++(if Hu.tv r h i*Hu.tv r h (i+1) < 0 then [Hu.mid (Hu.cor h i) (Hu.cor h (i+1)) (Hu.tv r h i) (Hu.tv r h (i+1))] else [])) (L2++(if Hu.tv r h i*Hu.tv r h (i+1) < 0 then [Hu.mid (Hu.cor h i) (Hu.cor h (i+1)) (Hu.tv r h i) (Hu.tv r h (i+1))] else []))->
     N [some (.ref l),some x,some (.ref d),some (.ref lo),some (.ref hi),some (.int i),some v,some (.int (Hu.tv r h i)),some (.int (Hu.tv r h (i+1))),o8',o9'] H'')->
    t {nx:=N,ct:=N,bk:=B,rt:=Q} [some (.ref l),some x,some (.ref d),some (.ref lo),some (.ref hi),some (.int i),some v,some (.int (Hu.tv r h i)),some (.int (Hu.tv r h (i+1))),o8,o9] H':=by
  refine ⟨_,(ak (aO (aC lT (aK bE (pv 7) (pv 8)) aq (aF _)) (ag (aJ (i:=9) nd rfl (Or.inl rfl) (aE bL (pv 0) (aK ib (aK bR (pv 5) aq) (aB bz rfl bf (by decide +kernel) (aa (pv 0) af))) (λ_ _=>rfl)))
  (ag (aJ (i:=10) nd rfl (Or.inl rfl) (aH iz (hr.mono (by decide)) rfl (aa (jY (xs:=["_law_a","_law_b"]) rfl (lP rfl gW (pv 6) (pv 9)) rfl (by decide +kernel) (by decide +kernel) (show ∀ p∈Scope.names _,p.2=NameKind.free->List.lookup p.1 (ah cN).names=some .cell\/List.lookup p.1 (ah cN).names=some .free by decide +kernel) (cI (j:=8) rfl (Or.inl rfl) (by decide +kernel) (Or.inl rfl) (cI (j:=7) rfl (Or.inl rfl) (by decide +kernel) (Or.inl rfl) cR)) (show (["_law_a","_law_b","_law_there","_law_here"]:List Str).Nodup by decide +kernel) (λ_ _ _ _=>lQ (K:=K) (n:=2) rfl rfl (bg (aV (i:=0) (show (["_law_a","_law_b","_law_there","_law_here"]:List Str).Nodup by decide +kernel) rfl (Or.inl rfl) (.inr rfl)) (bg (aV (i:=1) (show (["_law_a","_law_b","_law_there","_law_here"]:List Str).Nodup by decide +kernel) rfl (Or.inl rfl) (.inr rfl)) dO))) (λ_ _ _ _=>(aK bR (aK bE (aB fc rfl ff (by decide +kernel) (aa (pv 2) af)) (pv 0)) (aK bE (aB fc rfl ff (by decide +kernel) (aa (pv 3) af)) (pv 1))))) af)))
  (ag (bb (cD PySem.F.plainAttrs_list PySem.F.slot_list_append PySem.F.type_list_append aY (pv 3) (aa (pv 10) af)))
  (ak (bb (cD PySem.F.plainAttrs_list PySem.F.slot_list_append PySem.F.type_list_append aY (pv 4) (aa (pv 10) af))))))) aG)),?_⟩
  intro N B H1 H' d lo hi v i L1 L2 o8 o9 hi' mi hl1 hd1 hlo hhi ne da1 dv l1 l2 n
  have jl:(i+1) % h.length < h.length:=Nat.mod_lt _ hpos
  have sd:SqL K H' d ((h.map (Hu.tl r)).map V.int):=SqL.of (mi.sm _ _ hd1)
  have ai:=gu (r:=r) hi'
  have aj:=gu (r:=r) jl
  rw [Hu.wQ] at aj
  refine ⟨_,rfl,_,rfl,_,_,rfl,rfl,gP (tB _) (tB _),_,_,rfl,rfl,_,rfl,?_⟩
  refine dB (λc=>?_) (λc=>?_)
  ·have c':Hu.tv r h i*Hu.tv r h (i+1) < 0:=of_decide_eq_true c
   rw [if_pos c'] at n
   obtain ⟨y,hy,dy⟩:=lx (da1.ts mi.sm.ts) (Hu.lY jl)
   rw [Hu.zQ] at dy
   have sl:SqL K H' l us:=SqL.of (mi.sm _ _ hl1)
   have hp:=hu.ok _ (Hu.cW hpos i)
   have hq:=hu.ok _ (Hu.cW hpos (i+1))
   obtain ⟨u0,ub⟩:=rC (a:=Hu.cor h i) (b:=Hu.cor h i) (Int.le_of_lt hp.n0) (Int.le_of_lt hq.n0) hp.n1 hq.n1 (tb i) (tb (i+1))
   obtain ⟨v0,vb⟩:=rC (a:=Hu.cor h i) (b:=Hu.cor h i) hp.x0 hq.x0 hp.x1 hq.x1 (tb i) (tb (i+1))
   obtain ⟨w0,wb⟩:=rC (a:=Hu.cor h i) (b:=Hu.cor h i) hp.y0 hq.y0 hp.y1 hq.y1 (tb i) (tb (i+1))
   have up:=Hu.ic hp hq c'
   obtain ⟨g0,gb⟩:=gg_bg (V:=Hu.nm (Hu.cor h i).v (Hu.cor h (i+1)).v (Hu.tv r h i) (Hu.tv r h (i+1))) (W:=Hu.nm (Hu.cor h i).w (Hu.cor h (i+1)).w (Hu.tv r h i) (Hu.tv r h (i+1))) up ub
   have bs:Bg ((Hu.tv r h i).natAbs:Int):=gU (n:=2000) (by simpa using tb i) (by decide)
   have bt:Bg ((Hu.tv r h (i+1)).natAbs:Int):=gU (n:=2000) (by simpa using tb (i+1)) (by decide)
   obtain ⟨pb1,pb2,pb3⟩:=r3b (hp.r.mono (by decide))
   obtain ⟨qb1,qb2,qb3⟩:=r3b (hq.r.mono (by decide))
   obtain ⟨ax,rfl,sx⟩:=dH dv
   obtain ⟨ay,rfl,sy⟩:=dH dy
   refine ⟨_,rfl,_,rfl,_,_,rfl,rfl,_,rfl,_,_,rfl,.inl ⟨_,sl,rfl⟩,_,_,rfl,rfl,(by rw [lu];omega),_,_,_,_,rfl,rfl,sl,(by rw [lu];show atI us (Int.fmod ((i:Int)+1) (h.length:Int))=_;rw [Hu.qe];exact dD hy),?_⟩
   refine ⟨_,rfl,_,rfl,ax,ay,_,_,rfl,rfl,sx,sy,λD hD=>?_⟩
   refine qR (K:=K) (F:=λx y=>Hu.nm x y (Hu.tv r h i) (Hu.tv r h (i+1))) sx sy hD (λT' x y o1 o2 H R s r=>⟨T',_,rfl,s,rfl,_,_,rfl,_,_,rfl,rfl,r⟩) (λx y H' k hy hx z=>?_) (λH2 s2 eD=>?_)
   ·have by':Bg y:=by rcases hy with rfl | rfl | rfl <;> assumption
    have bx':Bg x:=by rcases hx with rfl | rfl | rfl <;> assumption
    refine ⟨_,rfl,_,rfl,_,rfl,_,_,rfl,rfl,(by rw [cM];exact gP bt bx'),_,rfl,_,rfl,_,rfl,_,_,rfl,rfl,(by rw [cM];exact gP bs by'),_,_,rfl,rfl,?_⟩
    rw [cM,cM]
    exact z
   have ge:=gcs3 (Hu.nm (Hu.cor h i).v (Hu.cor h (i+1)).v (Hu.tv r h i) (Hu.tv r h (i+1))) (Hu.nm (Hu.cor h i).w (Hu.cor h (i+1)).w (Hu.tv r h i) (Hu.tv r h (i+1))) u0
   refine ⟨D,[_,_,_],rfl,eD,λn hn=>?_,by rw [ge];exact g0,by rw [ge];exact gb,by simp,λmt H3 s3 em=>?_⟩
   ·simp only [List.mem_cons,List.not_mem_nil,or_false] at hn
    rcases hn with rfl | rfl | rfl <;> assumption
   rw [ge] at em
   have dm:Dat K H3 (t3D (Hu.mid (Hu.cor h i) (Hu.cor h (i+1)) (Hu.tv r h i) (Hu.tv r h (i+1)))) (.ref mt):=bW (p:=Hu.mid _ _ _ _) (SqT.of em)
   obtain ⟨m,em'⟩:∃ m,m=V.ref mt:=⟨_,rfl⟩
   rw [<- em'] at dm ⊢
   have s2:=s2.trans s3
   have m2:=mi.new s2
   obtain ⟨⟨u1,e1,k1⟩,u2,e2,k2⟩:=m2.len (by omega) (by omega)
   refine ⟨_,rfl,.inl ⟨rfl,_,SqL.of e1⟩,_,rfl,lo,u1,_,rfl,rfl,e1,aQ k1,?_⟩
   have m3:=m2.app1 hlo ne e1 dm
   have e2':(upd H3 lo (.lst (u1++[m]))) hi=some (.lst u2):=by rw [au (Ne.symm ne)];exact e2
   refine ⟨_,rfl,.inl ⟨rfl,_,SqL.of e2'⟩,_,rfl,hi,u2,_,rfl,rfl,e2',aQ k2,?_⟩
   exact n _ _ _ (m3.app2 hhi ne e2' (dm.ts (dF e1)))
  ·have c':¬Hu.tv r h i*Hu.tv r h (i+1) < 0:=λz=>c (decide_eq_true z)
   rw [if_neg c',List.append_nil,List.append_nil] at n
   exact n _ _ _ mi
 obtain ⟨t3,ht3,hq3⟩:=t3
 have t2:∃ t,PSs (cS CX0 P w K mg base lV "_law_cut" (ah cN) f cdv A outer s H E).nox ((kh (Ak cN 4)).drop 3) t/\
   ∀(
    N B:St->Hp->Prop) (H1 H':Hp) (d lo hi:Addr) (v:V) (i:Nat) (L1 L2:List T3) (o8 o9:Option V),i < h.length->MI K H1 H' lo hi L1 L2->H1 l=some (.lst us)->H1 d=some (.lst ((h.map (Hu.tl r)).map V.int))->H1 lo=none->H1 hi=none->lo≠hi->DatAll K H1 (h.map t3D) us->Dat K H' (t3D (Hu.cor h i)) v->L1.length<=800->L2.length<=800->
    (∀(H'':Hp) (o8' o9':Option V),MI K H1 H'' lo hi (L1++(if Hu.tv r h i*Hu.tv r h (i+1) < 0 then [Hu.mid (Hu.cor h i) (Hu.cor h (i+1)) (Hu.tv r h i) (Hu.tv r h (i+1))] else [])) (L2++Hu.stp h (Hu.tn r h) i)->
     N [some (.ref l),some x,some (.ref d),some (.ref lo),some (.ref hi),some (.int i),some v,some (.int (Hu.tv r h i)),some (.int (Hu.tv r h (i+1))),o8',o9'] H'')->
    t {nx:=N,ct:=N,bk:=B,rt:=Q} [some (.ref l),some x,some (.ref d),some (.ref lo),some (.ref hi),some (.int i),some v,some (.int (Hu.tv r h i)),some (.int (Hu.tv r h (i+1))),o8,o9] H':=by
  refine ⟨_,ag (aO (aC pN (pv 7) aq (aF _)) (ak (bb (cD PySem.F.plainAttrs_list PySem.F.slot_list_append PySem.F.type_list_append aY (pv 4) (aa (pv 6) af)))) aG) ht3,?_⟩
  intro N B H1 H' d lo hi v i L1 L2 o8 o9 hi' mi hl1 hd1 hlo hhi ne da1 dv l1 l2 n
  have sd:SqL K H' d ((h.map (Hu.tl r)).map V.int):=SqL.of (mi.sm _ _ hd1)
  have ai:=gu (r:=r) hi'
  rw [Hu.uw] at n
  refine ⟨_,rfl,_,_,rfl,rfl,_,rfl,?_⟩
  refine dB (λc=>?_) (λc=>?_)
  ·have c':0<=Hu.tv r h i:=of_decide_eq_true c
   rw [if_pos c'] at n
   obtain ⟨_,u2,e2,k2⟩:=mi.len (by omega) (by omega)
   refine ⟨_,rfl,.inl ⟨rfl,_,SqL.of e2⟩,_,rfl,hi,u2,_,rfl,rfl,e2,aQ k2,?_⟩
   refine hq3 N B H1 _ d lo hi v i L1 (L2++[Hu.cor h i]) o8 o9 hi' (mi.app2 hhi ne e2 dv) hl1 hd1 hlo hhi ne da1 (dv.ts (dF e2)) (by omega) (by simp;omega) λH'' o' o'' m=>n H'' o' o'' ?_
   rw [List.append_assoc] at m
   exact m
  ·have c':¬0<=Hu.tv r h i:=λz=>c (decide_eq_true z)
   rw [if_neg c',List.nil_append] at n
   exact hq3 N B H1 _ d lo hi v i L1 L2 o8 o9 hi' mi hl1 hd1 hlo hhi ne da1 dv (by omega) (by omega) n
 obtain ⟨t2,ht2,hq2⟩:=t2
 have t1:∃ t,PSs (cS CX0 P w K mg base lV "_law_cut" (ah cN) f cdv A outer s H E).nox (kh (Ak cN 4)) t/\
   ∀(
    N B:St->Hp->Prop) (H1 H':Hp) (d lo hi:Addr) (v:V) (i:Nat) (L1 L2:List T3) (o6 o7 o8 o9:Option V),i < h.length->MI K H1 H' lo hi L1 L2->H1 l=some (.lst us)->H1 d=some (.lst ((h.map (Hu.tl r)).map V.int))->H1 lo=none->H1 hi=none->lo≠hi->DatAll K H1 (h.map t3D) us->Dat K H' (t3D (Hu.cor h i)) v->L1.length<=700->L2.length<=700->
    (∀(H'':Hp) (o6' o7' o8' o9':Option V),MI K H1 H'' lo hi (L1++Hu.stp h (Hu.tv r h) i) (L2++Hu.stp h (Hu.tn r h) i)->
     N [some (.ref l),some x,some (.ref d),some (.ref lo),some (.ref hi),some (.int i),some v,o6',o7',o8',o9'] H'')->
    t {nx:=N,ct:=N,bk:=B,rt:=Q} [some (.ref l),some x,some (.ref d),some (.ref lo),some (.ref hi),some (.int i),some v,o6,o7,o8,o9] H':=by
  refine ⟨_,ag (aJ (i:=7) nd rfl (Or.inr rfl) (aE bL (pv 2) (pv 5) (λ_ _=>rfl))) (ag (aJ (i:=8) nd rfl (Or.inr rfl) (aE bL (pv 2) (aK ib (aK bR (pv 5) aq) (aB bz rfl bf (by decide +kernel) (aa (pv 0) af))) (λ_ _=>rfl))) (ag (aO (aC ji (pv 7) aq (aF _)) (ak (bb (cD PySem.F.plainAttrs_list PySem.F.slot_list_append PySem.F.type_list_append aY (pv 3) (aa (pv 6) af)))) aG) ht2)),?_⟩
  intro N B H1 H' d lo hi v i L1 L2 o6 o7 o8 o9 hi' mi hl1 hd1 hlo hhi ne da1 dv l1 l2 n
  have sl:SqL K H' l us:=SqL.of (mi.sm _ _ hl1)
  have sd:SqL K H' d ((h.map (Hu.tl r)).map V.int):=SqL.of (mi.sm _ _ hd1)
  have ai:=gu (r:=r) hi'
  have jl:(i+1) % h.length < h.length:=Nat.mod_lt _ hpos
  have aj:=gu (r:=r) jl
  rw [Hu.wQ] at aj
  refine ⟨_,rfl,_,rfl,_,_,_,_,rfl,rfl,sd,ai,?_⟩
  refine ⟨_,rfl,_,rfl,_,_,rfl,rfl,_,rfl,_,_,rfl,.inl ⟨_,sl,rfl⟩,_,_,rfl,rfl,(by rw [lu];omega),_,_,_,_,rfl,rfl,sd,(by rw [lu];show atI _ (Int.fmod ((i:Int)+1) (h.length:Int))=_;rw [Hu.qe];exact aj),?_⟩
  refine ⟨_,rfl,_,_,rfl,rfl,_,rfl,?_⟩
  refine dB (λc=>?_) (λc=>?_)
  ·have c':Hu.tv r h i<=0:=of_decide_eq_true c
   obtain ⟨⟨u1,e1,k1⟩,_⟩:=mi.len (by omega) (by omega)
   refine ⟨_,rfl,.inl ⟨rfl,_,SqL.of e1⟩,_,rfl,lo,u1,_,rfl,rfl,e1,aQ k1,?_⟩
   refine hq2 N B H1 _ d lo hi v i (L1++[Hu.cor h i]) L2 o8 o9 hi' (mi.app1 hlo ne e1 dv) hl1 hd1 hlo hhi ne da1 (dv.ts (dF e1)) (by simp;omega) (by omega) λH'' o' o'' m=>n H'' _ _ o' o'' ?_
   rw [List.append_assoc] at m
   rw [show Hu.stp h (Hu.tv r h) i=[Hu.cor h i]++(if Hu.tv r h i*Hu.tv r h (i+1) < 0 then [Hu.mid (Hu.cor h i) (Hu.cor h (i+1)) (Hu.tv r h i) (Hu.tv r h (i+1))] else []) by unfold Hu.stp;rw [if_pos c']]
   exact m
  ·have c':¬Hu.tv r h i<=0:=λz=>c (decide_eq_true z)
   refine hq2 N B H1 _ d lo hi v i L1 L2 o8 o9 hi' mi hl1 hd1 hlo hhi ne da1 dv (by omega) (by omega) λH'' o' o'' m=>n H'' _ _ o' o'' ?_
   rw [show Hu.stp h (Hu.tv r h) i=(if Hu.tv r h i*Hu.tv r h (i+1) < 0 then [Hu.mid (Hu.cor h i) (Hu.cor h (i+1)) (Hu.tv r h i) (Hu.tv r h (i+1))] else []) by unfold Hu.stp;rw [if_neg c',List.nil_append]]
   exact m
 obtain ⟨t1,ht1,hq1⟩:=t1
 have t4:∃ t,PSs (cS CX0 P w K mg base lV "_law_cut" (ah cN) f cdv A outer s H E).nox ((bu cN).drop 2) t/\
   ∀(H1:Hp) (d:Addr),¬Hu.gX r h->aI H H1->H1 d=some (.lst ((h.map (Hu.tl r)).map V.int))->t {nx:=λ_ H'=>Q .non H',rt:=Q} [some (.ref l),some x,some (.ref d),none,none,none,none,none,none,none,none] H1:=by
  refine ⟨_,ag (aJ (i:=3) nd rfl (Or.inl rfl) (bF af)) (ag (aJ (i:=4) nd rfl (Or.inl rfl) (bF af)) (ag (fD PassesOwn.never rfl (tq rfl cB (pv 0)) (jB rfl (bg (aV (i:=5) nd rfl (Or.inl rfl)) (bg (aV (i:=6) nd rfl (Or.inl rfl)) dO))) ht1) (ak (av (bh (aa (pv 3) (aa (pv 4) af))))))),?_⟩
  intro H1 d nc sm hd
  have hl1:=sm _ _ hl
  have da1:=da.ts sm.ts
  refine ⟨(by show 0<=sizeLine;decide),λlo hlo=>⟨(by show 0<=sizeLine;decide),λhi hhi=>?_⟩⟩
  have u1:=ao hlo (.lst [])
  have u2:=ao hhi (.lst [])
  have ne:lo≠hi:=λz=>by subst z;rw [ae] at hhi;cases hhi
  have hhi1:H1 hi=none:=by rw [au (Ne.symm ne)] at hhi;exact hhi
  refine ⟨_,rfl,l,rfl,⟨us,SqL.of ((u1.trans u2) _ _ hl1)⟩,?_⟩
  refine qd (xs:=us) (λi σ H'=>i<=us.length/\MI K H1 H' lo hi (Hu.fl (Hu.stp h (Hu.tv r h)) i) (Hu.fl (Hu.stp h (Hu.tn r h)) i)/\∃ o5 o6 o7 o8 o9 o10,σ=[some (.ref l),some x,some (.ref d),some (.ref lo),some (.ref hi),o5,o6,o7,o8,o9,o10])
   ⟨Nat.zero_le _,⟨u1.trans u2,[],[],u2 _ _ ae,ae,rfl,rfl⟩,_,_,_,_,_,_,rfl⟩ (λi σ H' _ z=>SqL.of (z.2.1.sm _ _ hl1)) (λi v T' σ H' hv z hT=>?_) (fun σ H' z=>?_)
  ·obtain ⟨_,mi,o5,o6,o7,o8,o9,o10,rfl⟩:=z
   have hi':i < us.length:=(List.getElem?_eq_some_iff.mp hv).1
   have uT:=ao hT (.tup [.int i,v])
   obtain ⟨p,hp,dp⟩:=so (da1.ts mi.sm.ts) hv
   have ep:p=Hu.cor h i:=by rw [Hu.lY (by omega)] at hp;exact (Option.some.inj hp).symm
   subst ep
   have f1:=Hu.qf (Hu.lz hu (Hu.tv r h)).len i
   have f2:=Hu.qf (Hu.lz hu (Hu.tn r h)).len i
   refine ⟨T',_,rfl,SqT.of ae,rfl,_,_,rfl,_,_,rfl,rfl,?_⟩
   refine hq1 _ _ H1 _ d lo hi v i _ _ o7 o8 o9 o10 (by omega) (mi.new uT) hl1 hd hlo hhi1 ne da1 (dp.ts uT.ts) (by omega) (by omega) λH'' o7' o8' o9' o10' m=>⟨hi',?_,_,_,_,_,_,_,rfl⟩
   rw [Hu.ba,Hu.ba]
   exact m
  ·obtain ⟨_,mi,o5,o6,o7,o8,o9,o10,rfl⟩:=z
   rw [lu] at mi
   refine ⟨_,rfl,_,rfl,(by show 2<=sizeLine;decide),λtt htt=>?_⟩
   have u3:=ao htt (.tup [.ref lo,.ref hi])
   obtain ⟨w1,w2,e1,e2,d1,d2⟩:=(mi.new u3).ex
   refine kc nc _ _ (sm.trans (mi.sm.trans u3)) ⟨tt,lo,hi,w1,w2,rfl,ne,?_,?_,SqT.of ae,e1,e2,d1,d2⟩
   ·exact sm.free hlo
   ·exact sm.free hhi1
 obtain ⟨t4,ht4,hq4⟩:=t4
 refine ⟨_,ag (lM (i:=2) nd rfl (Or.inl rfl) (Or.inl rfl) rfl rfl (cQ (pv 0)) rfl (by decide +kernel) (by decide +kernel) rfl (show ∀ p∈Scope.names _,p.2=NameKind.free->List.lookup p.1 (ah cN).names=some .cell\/List.lookup p.1 (ah cN).names=some .free by decide +kernel) (cI (j:=1) rfl (Or.inl rfl) (by decide +kernel) (Or.inl rfl) cR) (show (["_law_corner","_law_rule_here"]:List Str).Nodup by decide +kernel) (λ_ _ _ _=>dq) (λ_ _ _ _=>(aH fq (hr.mono (by decide)) rfl (aa (pv 1) (aa (pv 0) af))))) (ag (aO (PW.pt (fW (aC pN (aB (iT rfl) rfl bN (by decide +kernel) (aa (pv 2) af)) aq (aF _)) (gN (aC ji (aB (ki rfl) rfl bZ (by decide +kernel) (aa (pv 2) af)) aq (aF _))))) (ak (av bX)) aG) ht4),?_⟩
 refine ⟨_,rfl,l,rfl,⟨us,SqL.of hl⟩,λd hd0=>?_⟩
 refine oM (K:=K) (r:=r) (λH' s'=>SqL.of (s' _ _ hl)) da (by omega) hd0 ?step ?fin
 case step =>
  intro v p H' kk sm hp dp q
  exact ⟨_,rfl,_,rfl,x,v,r,p,rfl,dx.ts sm.ts,dp,br,bp p hp,q⟩
 intro H1 s1 hd
 have hne:0 < (h.map (Hu.tl r)).length:=by rw [List.length_map];exact hpos
 refine ⟨_,rfl,d,_,rfl,SqL.of hd,hne,λM hM hmin=>?_⟩
 refine ⟨_,_,rfl,rfl,_,rfl,?_⟩
 refine dB (λc=>?_) (λc=>?_)
 ·have c':0<=M:=of_decide_eq_true c
  exact kn (.inl λp hp=>Int.le_trans c' (hmin _ (List.mem_map.mpr ⟨p,hp,rfl⟩))) _ s1
 have c1:¬0<=M:=λz=>c (decide_eq_true z)
 refine ⟨_,rfl,d,_,rfl,SqL.of hd,hne,λM2 hM2 hmax=>?_⟩
 refine ⟨_,_,rfl,rfl,_,rfl,?_⟩
 refine dB (λc=>?_) (λc=>?_)
 ·have c':M2<=0:=of_decide_eq_true c
  exact kn (.inr λp hp=>Int.le_trans (hmax _ (List.mem_map.mpr ⟨p,hp,rfl⟩)) c') _ s1
 have c2:¬M2<=0:=λz=>c (decide_eq_true z)
 obtain ⟨p1,hp1,ep1⟩:=List.mem_map.mp hM
 obtain ⟨p2,hp2,ep2⟩:=List.mem_map.mp hM2
 refine hq4 H1 d (λnc=>?_) s1 hd
 rcases nc with z | z
 ·have:=z p1 hp1;omega
 ·have:=z p2 hp2;omega
end
section
variable {P:Program} {w:World} {K:PySem.W.Frag} {mg:Str->Option Value} {base:Heap}
theorem ok_lwT (T:aD K mg "_law_lowest" de) (aP:mg "tuple"=none):Def P w K mg base 1 "_law_lowest" ["_law_point"] spLwT:=by
 refine aN T hJ (λ_ _ _ _ _ _=>L2.ar1 λ_=>rfl) (λvs H Q E h=>?_) (λf cdv A outer s H vs Q E hr h=>?_)
 ·obtain ⟨l,ns,rfl,_⟩:=h
  rfl
 obtain ⟨l,ns,rfl,el,pos,g0,gb,few,q⟩:=h
 have nd:=hJ.nd
 refine ⟨_,(ag (aJ (i:=1) nd rfl (Or.inr rfl) aq)
  (ag (fD PassesOwn.never rfl (kN (pv 0)) (aV (i:=2) nd rfl (Or.inl rfl)) (ak (iQ PassesOwn.never (aC jF (pv 2) aq (aF _)) (ak (sY (bh (aa (pv 2) (aa (aK ib (pv 1) (pv 2)) af))) (jB rfl (bg (aV (i:=1) nd rfl (Or.inr rfl)) (bg (aV (i:=2) nd rfl (Or.inl rfl)) dO))))))))
  (ak (av (bV bS rfl aP (by decide +kernel) (aa (eT rfl (kN (pv 0)) rfl (by decide +kernel) (by decide +kernel) rfl (show ∀ p∈Scope.names _,p.2=NameKind.free->List.lookup p.1 (ah de).names=some .cell\/List.lookup p.1 (ah de).names=some .free by decide +kernel) (cI (j:=1) rfl (Or.inl rfl) (by decide +kernel) (Or.inl rfl) cR) (show (["_law_number","_law_by"]:List Str).Nodup by decide +kernel) (λ_ _ _ _=>dq) (λ_ _ _ _=>(aK jG (pv 0) (pv 1)))) af)))))),?_⟩
 refine ⟨_,rfl,l,rfl,⟨_,SqT.of el⟩,?_⟩
 refine for_tup (xs:=ns.map V.int) (λi σ H'=>aI H H'/\∃ o2,σ=[some (.ref l),some (.int (gcs (ns.take i))),o2]) ⟨aI.refl _,_,rfl⟩ (λi σ H' _ z=>SqT.of (z.1 _ _ el)) (λi v σ H' hv z=>?_) (fun σ H' z=>?_)
 ·obtain ⟨s1,o2,rfl⟩:=z
  rw [List.getElem?_map] at hv
  obtain ⟨n,hn,rfl⟩:=Option.map_eq_some_iff.mp hv
  have n0:=pos n (List.mem_of_getElem? hn)
  have gn:=qc (ns.take i)
  refine ⟨λm σ H''=>aI H H''/\∃(g l':Int),σ=[some (.ref l),some (.int g),some (.int l')]/\0<=g/\0<=l'/\l'.toNat=m/\Lo.gc g l'=Lo.gc (gcs (ns.take i)) n,⟨_,s1,_,_,rfl,gn,n0,rfl,rfl⟩,?_⟩
  rintro m σ H'' ⟨s2,g,l',rfl,hg,hl',rfl,e⟩
  refine ⟨_,rfl,_,_,rfl,rfl,_,rfl,?_⟩
  refine dB (λc=>?_) (λc=>?_)
  ·have c2:0 < l':=of_decide_eq_true c
   refine ⟨fun σ' H3=>aI H H3/\σ'=[some (.ref l),some (.int l'),some (.int (g.fmod l'))],?_,?_⟩
   ·rintro σ' H3 ⟨s3,rfl⟩
    have z0:=Int.fmod_nonneg_of_pos g c2
    have z1:=Int.fmod_lt_of_pos g c2
    exact ⟨_,(show (g.fmod l').toNat < l'.toNat by omega),s3,l',g.fmod l',rfl,by omega,z0,rfl,by rw [Lo.tV];exact e⟩
   ·exact ⟨_,rfl,_,rfl,_,rfl,_,_,rfl,rfl,(by omega),(by show 2<=sizeLine;decide),λp hp=>⟨p,_,rfl,SqT.of ae,rfl,_,_,rfl,_,_,rfl,rfl,s2.trans (ao hp _),rfl⟩⟩
  ·have c2:¬0 < l':=λz=>c (decide_eq_true z)
   have l0:l'=0:=by omega
   subst l0
   rw [Lo.tU hg] at e
   refine ⟨s2,some (.int 0),?_⟩
   rw [List.take_add_one,hn]
   show _=[_,some (V.int (gcs (ns.take i++[n]))),_]
   rw [wc,<- e]
 ·obtain ⟨s1,o2,rfl⟩:=z
  have el:=s1 _ _ el
  rw [List.length_map,List.take_length]
  dsimp only [Ai,tOp,tC,tCB,eA,nM]
  refine rS (K:=K) (ts:=ns) (R:=λ_ v n=>v=V.int n) (xs:=ns.map V.int) (λn=>.int (n.fdiv (gcs ns))) (λ_ _ _ _ _ h=>h) (λl' H2=>l'=l/\H2=H') (λR h=>⟨_,rfl,l,rfl,⟨_,SqT.of el⟩,h l _ ⟨rfl,rfl⟩⟩) (λl' H2 h=>by obtain ⟨rfl,rfl⟩:=h;exact ⟨el,aI.refl _⟩) (by simp;omega)
   (qu ns) (λv n H2 N hn hv hN=>?_) (λD H2 s2 hD eD=>?_)
  ·subst hv
   exact ⟨_,rfl,_,rfl,_,_,rfl,rfl,xZ g0 gb,hN _ (aI.refl _)⟩
  ·refine ⟨D,_,rfl,.inl ⟨SqL.of eD,λtt htt=>?_⟩⟩
   exact q tt _ ((s1.trans s2).trans (ao htt _)) ae
end
noncomputable def Cj (K:PySem.W.Frag):Sp:=λvs H Q _=>vs=[]/\∀(l:Addr) (us:List V) (H':Hp),aI H H'->H l=none->H' l=some (.lst us)->DatAll K H' (Hu.sqH.map t3D) us->Q (.ref l) H'
section
variable {P:Program} {w:World} {K:PySem.W.Frag} {mg:Str->Option Value} {base:Heap}
theorem ok_sq (T:aD K mg "square" lH):Def P w K mg base 1 "square" [] (Cj K):=by
 refine aN T Ao (λ_ _ _ _ _ _=>L2.ar0 rfl) (λvs H Q E h=>?_) (λf cdv A outer s H vs Q E hr h=>?_)
 ·obtain ⟨rfl,_⟩:=h
  rfl
 obtain ⟨rfl,q⟩:=h
 obtain ⟨e,p,he,eq⟩:∃ e p,IsSq e/\bu lH=[.Return (some e) p]:=⟨_,_,⟨_,_,_,_,_,_,_,_,_,_,_,_,_,_,_,_,_,_,_,_,_,_,_,_,_,_,_,_,_,_,_,_,_,rfl⟩,rfl⟩
 rw [eq]
 refine ⟨_,ak (av (pe_sq he)),?_⟩
 refine ⟨(by show 3<=sizeLine;decide),λt1 h1=>⟨(by show 3<=sizeLine;decide),λt2 h2=>⟨(by show 3<=sizeLine;decide),λt3 h3=>⟨(by show 3<=sizeLine;decide),λt4 h4=>⟨(by show 4<=sizeLine;decide),λl h5=>?_⟩⟩⟩⟩⟩
 have u1:=ao h1 (.tup [.int 1,.int 0,.int 0])
 have u2:=ao h2 (.tup [.int 1,.int 1,.int 0])
 have u3:=ao h3 (.tup [.int 1,.int 1,.int 1])
 have u4:=ao h4 (.tup [.int 1,.int 0,.int 1])
 have u5:=ao h5 (.lst [.ref t1,.ref t2,.ref t3,.ref t4])
 refine q l _ _ (u1.trans (u2.trans (u3.trans (u4.trans u5)))) ((u1.trans (u2.trans (u3.trans u4))).free h5) ae ?_
 exact ⟨_,_,rfl,bW (p:=⟨1,0,0⟩) (SqT.of ((u2.trans (u3.trans (u4.trans u5))) _ _ ae)),_,_,rfl,bW (p:=⟨1,1,0⟩) (SqT.of ((u3.trans (u4.trans u5)) _ _ ae)),_,_,rfl,bW (p:=⟨1,1,1⟩) (SqT.of ((u4.trans u5) _ _ ae)),_,_,rfl,bW (p:=⟨1,0,1⟩) (SqT.of (u5 _ _ ae)),rfl⟩
end
end Mine
namespace L2
open PySem
theorem my {n:Nat} (h:n<=9000):n < sizeLine:=Nat.lt_of_le_of_lt h (by decide)
end L2
namespace Mine
open PySem L2
noncomputable def HuL (K:PySem.W.Frag) (H:Hp) (N:Addr->Prop) (h:List T3) (v:V):Prop:=∃ a us,v=.ref a/\N a/\H a=some (.lst us)/\DatAll K H (h.map t3D) us
noncomputable def bJ (K:PySem.W.Frag) (H:Hp) (N:Addr->Prop):List (List T3)->List V->Prop
 | [],vs=>vs=[]
 | h::hs,vs=>∃ v r,vs=v::r/\HuL K H N h v/\bJ K H N hs r
section
variable {K:PySem.W.Frag} {H H':Hp} {N M:Addr->Prop} {h:List T3} {v:V}
theorem HuL.same (g:HuL K H N h v) (s:aI H H'):HuL K H' N h v:=by
 obtain ⟨a,us,e,n,ha,d⟩:=g
 exact ⟨a,us,e,n,s _ _ ha,d.ts s.ts⟩
theorem HuL.mut (g:HuL K H N h v) {c:Addr} {ws zs:List V} (e:H c=some (.lst ws)) (ne:∀ a,N a->a≠c):HuL K (upd H c (.lst zs)) N h v:=by
 obtain ⟨a,us,e1,n,ha,d⟩:=g
 exact ⟨a,us,e1,n,by rw [au (ne a n)];exact ha,d.ts (dF e)⟩
theorem HuL.imp (g:HuL K H N h v) (z:∀ a,N a->M a):HuL K H M h v:=by
 obtain ⟨a,us,e1,n,ha,d⟩:=g
 exact ⟨a,us,e1,z a n,ha,d⟩
theorem bJ.map {H':Hp} {M:Addr->Prop} (f:∀ h v,HuL K H N h v->HuL K H' M h v):∀{hs:List (List T3)} {vs:List V},bJ K H N hs vs->bJ K H' M hs vs
 | [],_,g=>g
 | _::_,_,⟨v,r,e,g1,g2⟩=>⟨v,r,e,f _ _ g1,bJ.map f g2⟩
theorem bJ.same {hs:List (List T3)} {vs:List V} (g:bJ K H N hs vs) (s:aI H H'):bJ K H' N hs vs:=bJ.map (λ_ _ z=>z.same s) g
theorem bJ.mut {hs:List (List T3)} {vs:List V} (g:bJ K H N hs vs) {c:Addr} {ws zs:List V} (e:H c=some (.lst ws)) (ne:∀ a,N a->a≠c):bJ K (upd H c (.lst zs)) N hs vs:=bJ.map (λ_ _ z=>z.mut e ne) g
theorem bJ.imp {hs:List (List T3)} {vs:List V} (g:bJ K H N hs vs) (z:∀ a,N a->M a):bJ K H M hs vs:=bJ.map (λ_ _ y=>y.imp z) g
theorem bJ.len:∀{hs:List (List T3)} {vs:List V},bJ K H N hs vs->vs.length=hs.length
 | [],_,g=>by rw [show _=([]:List V) from g];rfl
 | _::_,_,⟨v,r,e,g1,g2⟩=>by rw [e,List.length_cons,List.length_cons,bJ.len g2]
theorem bJ.app:∀{hs gs:List (List T3)} {vs us:List V},bJ K H N hs vs->bJ K H N gs us->bJ K H N (hs++gs) (vs++us)
 | [],_,_,_,g,z=>by rw [show _=([]:List V) from g];exact z
 | _::_,_,_,_,⟨v,r,e,g1,g2⟩,z=>by subst e;exact ⟨v,_,rfl,g1,bJ.app g2 z⟩
theorem bJ.one (g:HuL K H N h v):bJ K H N [h] [v]:=⟨v,[],rfl,g,rfl⟩
end
section
variable {K:PySem.W.Frag} {H H':Hp} {N M:Addr->Prop} {h:List T3} {v:V}
theorem DatAll.unsnoc:∀{ds:List PyData} {d:PyData} {vs:List V},DatAll K H (ds++[d]) vs->∃ us v,vs=us++[v]/\DatAll K H ds us/\Dat K H d v
 | [],d,vs,⟨x,r,e,g,z⟩=>by
  cases (show r=[] from z)
  exact ⟨[],x,e,rfl,g⟩
 | c::ds,d,vs,⟨x,r,e,g,z⟩=>by
  obtain ⟨us,v,rfl,g1,g2⟩:=DatAll.unsnoc (ds:=ds) z
  exact ⟨x::us,v,e,⟨x,us,rfl,g,g1⟩,g2⟩
theorem bJ.unsnoc:∀{hs:List (List T3)} {h:List T3} {vs:List V},bJ K H N (hs++[h]) vs->∃ us v,vs=us++[v]/\bJ K H N hs us/\HuL K H N h v
 | [],d,vs,⟨x,r,e,g,z⟩=>by
  cases (show r=[] from z)
  exact ⟨[],x,e,rfl,g⟩
 | c::ds,d,vs,⟨x,r,e,g,z⟩=>by
  obtain ⟨us,v,rfl,g1,g2⟩:=bJ.unsnoc (hs:=ds) z
  exact ⟨x::us,v,e,⟨x,us,rfl,g,g1⟩,g2⟩
end
theorem rH {us:List V} {v:V}:(us++[v])[(us++[v]).length - 1]?=some v:=by simp
noncomputable abbrev Stk:=List (Hu.Tc×List T3)
noncomputable def tot:Stk->Nat
 | []=>0
 | p::r=>p.1.size+tot r
theorem oh:∀ a b,tot (a++b)=tot a+tot b
 | [],b=>by simp [tot]
 | p::a,b=>by have:=oh a b;simp only [List.cons_append,tot];omega
theorem sj:∀ S:Stk,S.length<=tot S
 | []=>Nat.le_refl _
 | p::r=>by
  have:=sj r
  have:=Hu.Tc.size_pos p.1
  simp only [tot,List.length_cons];omega
noncomputable def yK (K:PySem.W.Frag) (CN:Addr):Sp:=λvs H Q E=>∃(x:V) (t:Hu.Tc),vs=[x]/\Dat K H (tcD t) x/\t.Sm 64/\t.deep<=12/\
 (t.told Hu.sqH=none->∀ H',aI H H'->E (.ref CN) none H')/\
 (∀ L,t.told Hu.sqH=some L->∀(l:Addr) (us:List V) (H':Hp),aI H H'->H l=none->H' l=some (.lst us)->bJ K H' (λa=>H a=none/\a≠l) L us->Q (.ref l) H')
structure HI (K:PySem.W.Frag) (H H':Hp) (t:Hu.Tc) (lf lt lh:Addr) (m:Nat) (S:Stk) (F:List (List T3)) (fv tv hv:List V):Prop where
 sm:aI H H'
 ef:H' lf=some (.lst fv)
 et:H' lt=some (.lst tv)
 eh:H' lh=some (.lst hv)
 df:bJ K H' (λa=>H a=none/\a≠lf/\a≠lt/\a≠lh) F fv
 dt:DatAll K H' (S.map λp=>tcD p.1) tv
 dh:bJ K H' (λa=>H a=none/\a≠lf/\a≠lt/\a≠lh) (S.map (·.2)) hv
 to:t.told Hu.sqH=(Hu.Tc.dG S.reverse).map (F++·)
 ok:∀ p∈S,Hu.HK p.2/\p.1.Sm 64/\p.2.length+p.1.deep<=20
 me:tot S=m
 few:F.length+m<=8900
section
variable {P:Program} {w:World} {K:PySem.W.Frag} {mg:Str->Option Value} {base:Heap}
theorem DN {CN:Addr} (T:aD K mg "hulls_of" kJ) (qz:Def P w K mg base 1 "square" [] (Cj K)) (EW:wH P w K mg base 3 "cut" ["hull","rule"] (Cu K CN)):wH P w K mg base 4 "hulls_of" ["tree"] (yK K CN):=by
 refine zK T nC (λ_ _ _ _ _ _=>L2.ar1 λ_=>rfl) (λvs H Q E h=>?_) (λf cdv A outer s H vs Q E hr h=>?_)
 ·obtain ⟨x,t,rfl,_⟩:=h
  rfl
 obtain ⟨x,t,rfl,dx,sm0,dp,kn,kc⟩:=h
 have nd:=nC.nd
 have tsz:=Hu.Tc.size_le (t:=t) (d:=12) dp
 refine ⟨_,(ag (aJ (i:=1) nd rfl (Or.inl rfl) (bF af))
  (ag (aJ (i:=2) nd rfl (Or.inl rfl) (bF (aa (pv 0) af)))
  (ag (aJ (i:=3) nd rfl (Or.inl rfl) (bF (aa (zh qz (hr.mono (by decide)) rfl) af)))
  (ag (iQ PassesOwn.leaving (pJ (pv 2) (λ_=>rfl)) (ag (aJ (i:=4) nd rfl (Or.inl rfl) (ix PySem.F.plainAttrs_list PySem.F.slot_list_pop PySem.F.type_list_pop jH (pv 2)))
  (ag (aJ (i:=5) nd rfl (Or.inl rfl) (ix PySem.F.plainAttrs_list PySem.F.slot_list_pop PySem.F.type_list_pop jH (pv 3)))
  (ak (aO (aC bQ (aE az (pv 4) aq (λ_ _=>rfl)) aM (aF _)) (ak (bb (cD PySem.F.plainAttrs_list PySem.F.slot_list_append PySem.F.type_list_append aY (pv 1) (aa (pv 5) af)))) (ag (aJ (i:=6) nd rfl (Or.inl rfl) (pe_defR EW (hr.mono (by decide)) rfl (aa (pv 5) (aa (aE az (pv 4) aq (λ_ _=>rfl)) af))))
  (ag (bb (cD PySem.F.plainAttrs_list PySem.F.slot_list_extend PySem.F.type_list_extend mW (pv 2) (aa (bF (aa (aE az (pv 4) aq (λ_ _=>rfl)) (aa (aE az (pv 4) aq (λ_ _=>rfl)) af))) af)))
  (ak (bb (cD PySem.F.plainAttrs_list PySem.F.slot_list_extend PySem.F.type_list_extend mW (pv 3) (aa (bF (aa (aE az (pv 6) aq (λ_ _=>rfl)) (aa (aE az (pv 6) aq (λ_ _=>rfl)) af))) af)))))))))))
  (ak (av (pv 1))))))),?_⟩
 refine ⟨(by show 0<=sizeLine;decide),λlf hlf=>?_⟩
 refine ⟨_,rfl,(by show 1<=sizeLine;decide),λlt hlt=>?_⟩
 refine ⟨rfl,λl0 us0 H0 s0 f0 hl0 da0=>⟨(by show 1<=sizeLine;decide),λlh hlh=>?_⟩⟩
 have u1:=ao hlf (.lst [])
 have u2:=ao hlt (.lst [x])
 have u3:=ao hlh (.lst [.ref l0])
 have ef0:H0 lf=some (.lst []):=s0 _ _ (u2 _ _ ae)
 have et0:H0 lt=some (.lst [x]):=s0 _ _ ae
 have n1:lf≠lt:=λz=>by subst z;rw [ae] at hlt;cases hlt
 have n2:lf≠lh:=λz=>by subst z;rw [ef0] at hlh;cases hlh
 have n3:lt≠lh:=λz=>by subst z;rw [et0] at hlh;cases hlh
 have n4:l0≠lh:=λz=>by subst z;rw [hl0] at hlh;cases hlh
 have s00:=u1.trans (u2.trans s0)
 have Hlt:H lt=none:=u1.free hlt
 have Hlh:H lh=none:=s00.free hlh
 have n5:l0≠lf:=λz=>by subst z;rw [u2 _ _ ae] at f0;cases f0
 have n6:l0≠lt:=λz=>by subst z;rw [ae] at f0;cases f0
 refine ⟨λm σ H'=>∃ S F fv tv hv,∃(o4 o5 o6:Option V),σ=[some x,some (.ref lf),some (.ref lt),some (.ref lh),o4,o5,o6]/\HI K H H' t lf lt lh m S F fv tv hv,⟨t.size,[(t,Hu.sqH)],[],[],[x],[.ref l0],_,_,_,rfl,?_⟩,?_⟩
 ·refine ⟨s00.trans u3,u3 _ _ ef0,u3 _ _ et0,ae,rfl,?_,?_,?_,?_,?_,?_⟩
  ·exact ⟨x,[],rfl,dx.ts (s00.trans u3).ts,rfl⟩
  ·exact bJ.one ⟨l0,us0,rfl,⟨(u1.trans u2).free f0,n5,n6,n4⟩,u3 _ _ hl0,da0.ts u3.ts⟩
  ·show t.told Hu.sqH=(match t.told Hu.sqH,Hu.Tc.dG [] with | some a,some b=>some (a++b) | _,_=>none).map ([]++·)
   cases t.told Hu.sqH with
   | none=>rfl
   | some L=>simp [Hu.Tc.dG]
  ·intro p hp
   rw [List.mem_singleton.mp hp]
   exact ⟨Hu.ny,sm0,by show 4+t.deep<=20;omega⟩
  ·simp [tot]
  ·show 0+t.size<=8900
   omega
 rintro m σ H' ⟨S,F,fv,tv,hv,o4,o5,o6,rfl,I⟩
 refine ⟨_,rfl,_,.inl ⟨tv,SqL.of I.et,rfl⟩,?_⟩
 have lt1:=I.dt.len
 rw [List.length_map] at lt1
 have hfew:=I.few
 have hme:=I.me
 have hlen:=sj S
 rcases List.eq_nil_or_concat S with e | ⟨S',p,e⟩
 ·subst e
  have e2:tv=[]:=List.eq_nil_of_length_eq_zero lt1
  rw [e2]
  refine bB ⟨_,rfl,?_⟩
  have to:=I.to
  simp only [List.reverse_nil,Hu.Tc.dG,Option.map_some,List.append_nil] at to
  exact kc F to lf fv H' I.sm hlf I.ef (I.df.imp λa z=>⟨z.1,z.2.1⟩)
 rw [List.concat_eq_append] at e
 subst e
 obtain ⟨t1,h1⟩:=p
 have dt:=I.dt
 have dh:=I.dh
 rw [List.map_append] at dt dh
 obtain ⟨tv',b,rfl,dt',db⟩:=DatAll.unsnoc dt
 obtain ⟨hv',c,rfl,dh',dc⟩:=bJ.unsnoc dh
 have hb:(!(tv'++[b]).isEmpty)=true:=by cases tv' <;> rfl
 rw [hb]
 obtain ⟨hk,hsm,hdp⟩:Hu.HK h1/\t1.Sm 64/\h1.length+t1.deep<=20:=I.ok (t1,h1) (List.mem_append_right _ List.mem_cons_self)
 have hlS:=sj S'
 have ok':∀ q∈S',Hu.HK q.2/\q.1.Sm 64/\q.2.length+q.1.deep<=20:=λq hq=>I.ok q (List.mem_append_left _ hq)
 rw [oh] at hme hlen
 simp only [tot] at hme hlen
 have tp:=Hu.Tc.size_pos t1
 have to:=I.to
 rw [List.reverse_append] at to
 refine dI ⟨fun σ' H''=>∃ m',m' < m/\∃ S F fv tv hv,∃(o4 o5 o6:Option V),σ'=[some x,some (.ref lf),some (.ref lt),some (.ref lh),o4,o5,o6]/\HI K H H'' t lf lt lh m' S F fv tv hv,fun σ' H'' ⟨m',q1,q2⟩=>⟨m',q1,q2⟩,?_⟩
 refine ⟨_,rfl,.inl ⟨rfl,_,SqL.of I.et⟩,lt,_,b,rfl,rfl,I.et,rH,?_⟩
 rw [List.dropLast_concat]
 have eh1:(upd H' lt (.lst tv')) lh=some (.lst (hv'++[c])):=by rw [au (Ne.symm n3)];exact I.eh
 have g1:Tst H' (upd H' lt (.lst tv')):=dF I.et
 refine ⟨_,rfl,.inl ⟨rfl,_,SqL.of eh1⟩,lh,_,c,rfl,rfl,eh1,rH,?_⟩
 rw [List.dropLast_concat]
 have g2:Tst (upd H' lt (.lst tv')) (upd (upd H' lt (.lst tv')) lh (.lst hv')):=dF eh1
 generalize eH2:upd (upd H' lt (.lst tv')) lh (.lst hv')=H2 at g2
 have sm2:aI H H2:=by rw [<- eH2];exact aU (aU I.sm Hlt _) Hlh _
 have ef2:H2 lf=some (.lst fv):=by rw [<- eH2,au n2,au n1];exact I.ef
 have et2:H2 lt=some (.lst tv'):=by rw [<- eH2,au n3,ae]
 have eh2:H2 lh=some (.lst hv'):=by rw [<- eH2,ae]
 have df2:=(I.df.mut (zs:=tv') I.et λa z=>z.2.2.1).mut (zs:=hv') eh1 λa z=>z.2.2.2
 have dh2:=(dh'.mut (zs:=tv') I.et λa z=>z.2.2.1).mut (zs:=hv') eh1 λa z=>z.2.2.2
 have dc2:=(dc.mut (zs:=tv') I.et λa z=>z.2.2.1).mut (zs:=hv') eh1 λa z=>z.2.2.2
 rw [eH2] at df2 dh2 dc2
 have db2:=(db.ts g1).ts g2
 have dt2:=(dt'.ts g1).ts g2
 have lh1:=dh'.len
 have lf1:=I.df.len
 have lt2:=dt'.len
 rw [List.length_map] at lh1 lt2
 cases t1 with
 | leaf =>
  obtain ⟨a,rfl,sa⟩:=tc_leaf db2
  refine ⟨_,rfl,_,_,_,_,rfl,rfl,sa,rfl,rfl,_,rfl,dI ?_⟩
  refine ⟨_,rfl,.inl ⟨rfl,_,SqL.of ef2⟩,_,rfl,lf,fv,_,rfl,rfl,ef2,my (by omega),?_⟩
  refine ⟨tot S',by omega,S',F++[h1],fv++[c],tv',hv',_,_,_,rfl,?_⟩
  refine ⟨aU sm2 hlf _,ae,by rw [au (Ne.symm n1)];exact et2,by rw [au (Ne.symm n2)];exact eh2,?_,dt2.ts (dF ef2),dh2.mut ef2 (λa z=>z.2.1),?_,ok',rfl,?_⟩
  ·exact (df2.app (.one dc2)).mut ef2 λa z=>z.2.1
  ·rw [to]
   show (Hu.Tc.dG ((Hu.Tc.leaf,h1)::S'.reverse)).map _=_
   rw [Hu.Tc.wX]
   cases Hu.Tc.dG S'.reverse with
   | none=>rfl
   | some L=>simp
  ·rw [List.length_append]
   simp only [List.length_cons,List.length_nil]
   omega
 | cut r l g =>
  obtain ⟨a,y1,y2,y3,rfl,sa,d1,d2,d3⟩:=BX db2
  refine ⟨_,rfl,_,_,_,_,rfl,rfl,sa,rfl,rfl,_,rfl,bB ?_⟩
  obtain ⟨cc,cu,rfl,cn,hcc,dcc⟩:=dc2
  have ddp:max l.deep g.deep+1+h1.length<=20:=by simp only [Hu.Tc.deep] at hdp;omega
  refine ⟨_,rfl,_,rfl,_,_,_,_,rfl,rfl,sa,rfl,cc,y1,cu,h1,r,rfl,hcc,dcc,d1,hk.hull.mono (by decide) (by omega),hsm.1.mono (by decide),λnc H3 s3=>?_,λnc v H3 s3 cr=>?_⟩
  ·refine kn ?_ H3 (sm2.trans s3)
   rw [to]
   show (Hu.Tc.dG ((Hu.Tc.cut r l g,h1)::S'.reverse)).map _=_
   rw [Hu.Tc.BS nc]
   rfl
  obtain ⟨pt,pa,pb,w1,w2,rfl,nab,fa,fb,sp,e1,e2,p1,p2⟩:=cr
  have C:=Hu.jf hk hsm.1 nc
  have cl:=C.ll
  have ch:=C.lh
  refine ⟨_,rfl,.inl ⟨rfl,_,SqL.of (s3 _ _ et2)⟩,_,rfl,_,_,_,_,rfl,rfl,sa.ts s3.ts,rfl,_,rfl,_,_,_,_,rfl,rfl,sa.ts s3.ts,rfl,(by show 2<=sizeLine;decide),λq1 hq1=>?_⟩
  have v1:=ao hq1 (.lst [y3,y2])
  have et4:=v1 _ _ (s3 _ _ et2)
  refine ⟨lt,q1,tv',[y3,y2],rfl,rfl,et4,ae,(by show tv'.length+2<=sizeLine;exact Nat.le_of_lt (my (by omega))),?_⟩
  have s34:=s3.trans v1
  generalize eH4:upd H3 q1 (.lst [y3,y2])=H4 at et4 s34
  have g5:Tst H4 (upd H4 lt (.lst (tv'++[y3,y2]))):=dF et4
  have s24:=sm2.trans s34
  have sp4:SqT K H4 pt [.ref pa,.ref pb]:=by rw [<- eH4];exact sp.ts v1.ts
  have ha4:H4 pa=some (.lst w1):=by rw [<- eH4];exact v1 _ _ e1
  have hb4:H4 pb=some (.lst w2):=by rw [<- eH4];exact v1 _ _ e2
  have p14:DatAll K H4 ((Hu.low r h1).map t3D) w1:=by rw [<- eH4];exact p1.ts v1.ts
  have p24:DatAll K H4 ((Hu.high r h1).map t3D) w2:=by rw [<- eH4];exact p2.ts v1.ts
  have ne2:∀ z u,H2 z=some u->∀ k,H2 k=none->k≠z:=λz u h3 k h4 h5=>by rw [h5,h3] at h4;cases h4
  have na:H pa=none/\pa≠lf/\pa≠lt/\pa≠lh:=⟨sm2.free fa,ne2 _ _ ef2 _ fa,ne2 _ _ et2 _ fa,ne2 _ _ eh2 _ fa⟩
  have nb:H pb=none/\pb≠lf/\pb≠lt/\pb≠lh:=⟨sm2.free fb,ne2 _ _ ef2 _ fb,ne2 _ _ et2 _ fb,ne2 _ _ eh2 _ fb⟩
  have eh5':(upd H4 lt (.lst (tv'++[y3,y2]))) lh=some (.lst hv'):=by rw [au (Ne.symm n3)];exact s34 _ _ eh2
  refine ⟨_,rfl,.inl ⟨rfl,_,SqL.of eh5'⟩,_,rfl,_,_,_,_,rfl,rfl,sp4.ts g5,rfl,_,rfl,_,_,_,_,rfl,rfl,sp4.ts g5,rfl,(by show 2<=sizeLine;decide),λq2 hq2=>?_⟩
  have v2:=ao hq2 (.lst [.ref pb,.ref pa])
  have eh5:(upd H4 lt (.lst (tv'++[y3,y2]))) lh=some (.lst hv'):=by rw [au (Ne.symm n3)];exact s34 _ _ eh2
  have ef5:(upd H4 lt (.lst (tv'++[y3,y2]))) lf=some (.lst fv):=by rw [au n1];exact s34 _ _ ef2
  have s25:aI H (upd H4 lt (.lst (tv'++[y3,y2]))):=aU s24 Hlt _
  have et5:(upd H4 lt (.lst (tv'++[y3,y2]))) lt=some (.lst (tv'++[y3,y2])):=ae
  have df5:=(df2.same s34).mut (zs:=tv'++[y3,y2]) et4 λa z=>z.2.2.1
  have dh5:=(dh2.same s34).mut (zs:=tv'++[y3,y2]) et4 λa z=>z.2.2.1
  have da5:=(show HuL K H4 (λa=>H a=none/\a≠lf/\a≠lt/\a≠lh) (Hu.low r h1) (.ref pa) from ⟨pa,w1,rfl,na,ha4,p14⟩).mut (zs:=tv'++[y3,y2]) et4 λa z=>z.2.2.1
  have db5:=(show HuL K H4 (λa=>H a=none/\a≠lf/\a≠lt/\a≠lh) (Hu.high r h1) (.ref pb) from ⟨pb,w2,rfl,nb,hb4,p24⟩).mut (zs:=tv'++[y3,y2]) et4 λa z=>z.2.2.1
  have dt5:=(dt2.ts s34.ts).ts g5
  have y35:=(d3.ts s34.ts).ts g5
  have y25:=(d2.ts s34.ts).ts g5
  generalize upd H4 lt (.lst (tv'++[y3,y2]))=H5 at *
  have eh6:=v2 _ _ eh5
  refine ⟨lh,q2,hv',[.ref pb,.ref pa],rfl,rfl,eh6,ae,(by show hv'.length+2<=sizeLine;exact Nat.le_of_lt (my (by omega))),?_⟩
  have g6:Tst (upd H5 q2 (.lst [.ref pb,.ref pa])) (upd (upd H5 q2 (.lst [.ref pb,.ref pa])) lh (.lst (hv'++[.ref pb,.ref pa]))):=dF eh6
  refine ⟨tot (S'++[(g,Hu.high r h1),(l,Hu.low r h1)]),?_,S'++[(g,Hu.high r h1),(l,Hu.low r h1)],F,fv,tv'++[y3,y2],hv'++[.ref pb,.ref pa],_,_,_,rfl,?_⟩
  ·rw [oh]
   simp only [tot,Hu.Tc.size] at hme ⊢
   omega
  refine ⟨aU (s25.trans v2) Hlh _,by rw [au n2];exact v2 _ _ ef5,by rw [au n3];exact v2 _ _ et5,ae,(df5.same v2).mut eh6 (λa z=>z.2.2.2),?_,?_,?_,?_,rfl,?_⟩
  ·rw [List.map_append]
   exact ((dt5.ts v2.ts).ts g6).append ⟨y3,[y2],rfl,(y35.ts v2.ts).ts g6,y2,[],rfl,(y25.ts v2.ts).ts g6,rfl⟩
  ·rw [List.map_append]
   exact ((dh5.same v2).mut eh6 λa z=>z.2.2.2).app ⟨_,_,rfl,(db5.same v2).mut eh6 (λa z=>z.2.2.2),_,_,rfl,(da5.same v2).mut eh6 (λa z=>z.2.2.2),rfl⟩
  ·rw [to,List.reverse_append]
   show (Hu.Tc.dG ((Hu.Tc.cut r l g,h1)::S'.reverse)).map _=(Hu.Tc.dG ((l,Hu.low r h1)::(g,Hu.high r h1)::S'.reverse)).map _
   rw [Hu.Tc.Af nc]
  ·intro q hq
   rcases List.mem_append.mp hq with z | z
   ·exact ok' q z
   ·rcases List.mem_cons.mp z with z | z
    ·rw [z]
     exact ⟨C.hi,hsm.2.2,by show (Hu.high r h1).length+g.deep<=20;omega⟩
    ·rw [List.mem_singleton.mp z]
     exact ⟨C.lo,hsm.2.1,by show (Hu.low r h1).length+l.deep<=20;omega⟩
  ·rw [oh]
   simp only [tot,Hu.Tc.size] at hme ⊢
   omega
end
noncomputable def spFew:Sp:=λvs H Q _=>∃ i:Int,vs=[.int i]/\i<=8/\Q .non H
section
variable {P:Program} {w:World} {K:PySem.W.Frag} {mg:Str->Option Value} {base:Heap} {c:CCs}
theorem ok_few {tm:Tok} (T:aD K mg "must_be_few" ip) (ug:mg "MOST_FOLDS"=some (.int 8 tm)):Def P w K mg base 1 "must_be_few" ["folds"] spFew:=by
 refine aN T jr (λ_ _ _ _ _ _=>L2.ar1 λ_=>rfl) (λvs H Q E h=>?_) (λf cdv A outer s H vs Q E hr h=>?_)
 ·obtain ⟨i,rfl,_⟩:=h
  rfl
 obtain ⟨i,rfl,hi,q⟩:=h
 have nd:=jr.nd
 refine ⟨_,ak (aO (aC jF (pv 0) (cG (v:=V.int 8) rfl ug ⟨_,rfl⟩) (aF _)) (ak vv) aG),?_⟩
 refine ⟨_,rfl,_,_,rfl,rfl,_,rfl,dB (λc=>?_) (λ_=>q)⟩
 have c:(8:Int) < i:=of_decide_eq_true c
 exfalso
 omega
end
structure yf (K:PySem.W.Frag) (mg:Str->Option Value) (x s:Str):Prop where
 ex:∃ a,mg x=some (.ref a)/\∀ H,SqT K H a [.str s]
theorem Ad {K:PySem.W.Frag} {h:Heap} {mg:Str->Option Value} {x s:Str} {a:Addr} {od:Option Addr} {its:Array Value} {n:Nat} {osl:Array (Option Value)} (X:K.In h) (G:h.Ns mainGlobals mg)
  (e:PySem.W.nsIn K mainGlobals x=some (some (.ref a))) (l:K.lookup a=some ⟨.type "tuple",od,.seq its n,osl⟩) (hz:its.size<=sizeLine) (v:Vals [V.str s] its.toList):yf K mg x s :=
 ⟨a,PySem.W.mg_of X G e,λ_=>.inr ⟨_,its,n,l,rfl,rfl,hz,v⟩⟩
noncomputable def Gd (Ls:List (List Hu.Row)) (h:List T3) (T:Hu.Tc):Prop:=∃ L,T.told h=some L/\∀ g∈L,∀ rows∈Ls,∃ rs,Hu.run g rows []=.rules rs
theorem uo {r:T3} {l g:Hu.Tc} {h:List T3} (n:¬Hu.gX r h):(Hu.Tc.cut r l g).told h=match l.told (Hu.low r h),g.told (Hu.high r h) with | some a,some b=>some (a++b) | _,_=>none:=by
 conv=>lhs;unfold Hu.Tc.told
 rw [if_neg n]
 all_goals (cases l.told (Hu.low r h) <;> cases g.told (Hu.high r h) <;> rfl)
theorem Gd.leaf {Ls:List (List Hu.Row)} {h:List T3} (k:∀ rows∈Ls,∃ rs,Hu.run h rows []=.rules rs):Gd Ls h .leaf:=⟨[h],rfl,λg hg rows hr=>by rw [List.mem_singleton.mp hg];exact k rows hr⟩
theorem Gd.cut {Ls:List (List Hu.Row)} {h:List T3} {t:T3} {X1 X2:Hu.Tc} (n:¬Hu.gX t h) (a:Gd Ls (Hu.low t h) X1) (b:Gd Ls (Hu.high t h) X2):Gd Ls h (.cut t X1 X2):=by
 obtain ⟨L1,e1,k1⟩:=a
 obtain ⟨L2,e2,k2⟩:=b
 exact ⟨L1++L2,by rw [uo n,e1,e2],λg hg=>(List.mem_append.mp hg).elim (k1 g) (k2 g)⟩
theorem sq_tnl {Ls:List (List Hu.Row)} (h:(Ls.map Hu.fds).sum<=8):Hu.TnL Ls 8 Hu.sqH:=⟨Hu.ny,by show 4+8<=20;decide,Nat.le_trans (Hu.xc Ls λx _=>Hu.need_le _ x) h⟩
noncomputable def uC (K:PySem.W.Frag) (n:Nat):Sp:=λvs H Q _=>∃(l lr:Addr) (us ws:List V) (rows:List Hu.Row) (h:List T3) (d:Nat),vs=[.ref l,.ref lr]/\H l=some (.lst us)/\DatAll K H (h.map t3D) us/\H lr=some (.lst ws)/\DatAll K H (rows.map lK) ws/\kT rows/\0 < rows.length/\rows.length<=60/\Hu.TnL [rows] d h/\d+1<=n/\∀(v:V) (T:Hu.Tc) (H':Hp),aI H H'->Dat K H' (tcD T) v->T.Sm 61->T.deep<=d->T.jf+1<=2 ^ d->Gd [rows] h T->Q v H'
noncomputable def yN (c:CCs) (K:PySem.W.Frag):Sp:=λvs H Q _=>∃(a:Addr) (t:Tr),vs=[.ref a]/\Ob c H a t/\t.size<=60/\t.nf<=8/\∀(v:V) (T:Hu.Tc) (H':Hp),aI H H'->Dat K H' (tcD T) v->T.Sm 61->T.deep<=8->T.jf+1<=2 ^ 8->Gd [pH t] Hu.sqH T->Q v H'
section
variable {P:Program} {w:World} {K:PySem.W.Frag} {mg:Str->Option Value} {base:Heap} {c:CCs}
theorem AD {CN:Addr} (T:aD K mg "tree_on" mH) (TL:yf K mg "LEAF" "leaf") (nX:Def P w K mg base 4 "rules_of_rows" ["rows","hull"] (yG K)) (EW:wH P w K mg base 3 "cut" ["hull","rule"] (Cu K CN)):∀ n:Nat,Def P w K mg base (n+4) "tree_on" ["hull","rows"] (uC K n):=by
 intro n
 induction n with
 | zero =>
  refine aN T kF (λ_ _ _ _ _ _=>L2.ar2 λ_ _=>rfl) (λvs H Q E h=>?_) (λf cdv A outer s H vs Q E hr h=>?_)
  ·obtain ⟨l,lr,us,ws,rows,h,d,rfl,_⟩:=h
   rfl
  ·obtain ⟨l,lr,us,ws,rows,h,d,rfl,_,_,_,_,_,_,_,_,z,_⟩:=h
   omega
 | succ n ko =>
  refine aN T kF (λ_ _ _ _ _ _=>L2.ar2 λ_ _=>rfl) (λvs H Q E h=>?_) (λf cdv A outer s H vs Q E hr h=>?_)
  ·obtain ⟨l,lr,us,ws,rows,h,d,rfl,_⟩:=h
   rfl
  obtain ⟨l,lr,us,ws,rows,h,d,rfl,el,da,er,dr,ok,pos,few,tn,dn,q⟩:=h
  have nd:=kF.nd
  obtain ⟨aLF,M_LEAF,qL⟩:=TL.ex
  have n3:=tn.hk.n3
  have hl:=tn.ln
  refine ⟨_,(ag (aJ (i:=2) nd rfl (Or.inl rfl) (aH nX (hr.mono (by omega)) rfl (aa (pv 1) (aa (pv 0) af))))
  (ag (aO (aC bQ (aE az (pv 2) aq (λ_ _=>rfl)) aM (aF _)) (ak (av (cG (v:=V.ref aLF) rfl M_LEAF rfl))) aG)
  (ag (aJ (i:=3) nd rfl (Or.inl rfl) (aE az (pv 2) aq (λ_ _=>rfl)))
  (ag (aJ (i:=4) nd rfl (Or.inl rfl) (zg EW (hr.mono (by omega)) rfl (aa (pv 0) (aa (pv 3) af))))
  (ak (av (bh (aa aM (aa (pv 3) (aa (aH ko (hr.mono (by omega)) rfl (aa (aE az (pv 4) aq (λ_ _=>rfl)) (aa (pv 1) af))) (aa (aH ko (hr.mono (by omega)) rfl (aa (aE az (pv 4) aq (λ_ _=>rfl)) (aa (pv 1) af))) af))))))))))),?_⟩
  refine ⟨_,rfl,_,rfl,lr,l,ws,us,rows,h,rfl,er,dr,ok,pos,by omega,el,da,(λp hp=>(tn.hk.ok p hp).r.mono (by decide)),by omega,by omega,λrs t lr2 ws2 H1 s1 ru rb rl f2 st e2 d2=>?_,λk tt t v H1 s1 mx kl bt st dv=>?_⟩
  ·refine ⟨_,rfl,_,_,_,_,rfl,rfl,st,rfl,rfl,_,rfl,ite_yes rfl ?_⟩
   exact q _ .leaf _ s1 (mr (qL _)) trivial (Nat.zero_le _) (Nat.one_le_two_pow) (Gd.leaf λx hx=>by rw [List.mem_singleton.mp hx];exact ⟨rs,ru⟩)
  ·refine ⟨_,rfl,_,_,_,_,rfl,rfl,st,rfl,rfl,_,rfl,ite_no (by decide +kernel) ?_⟩
   obtain ⟨b40,d',ed,T1,T2⟩:=tn.cut List.mem_cons_self ok few mx
   subst ed
   refine ⟨_,rfl,_,_,_,_,rfl,rfl,st,rfl,?_⟩
   refine ⟨_,rfl,_,rfl,l,v,us,h,tt,rfl,s1 _ _ el,da.ts s1.ts,dv,tn.hk.hull.mono (by decide) (by omega),b40.mono (by decide),(λz=>absurd z (Hu.rD mx)),λ_ v2 H2 s2 cr=>?_⟩
   obtain ⟨t2,a,b,us1,us2,rfl,nab,fa,fb,sq,ea,eb,d1,d2⟩:=cr
   have s12:=s1.trans s2
   refine ⟨_,rfl,_,rfl,_,_,_,_,rfl,rfl,sq,rfl,_,rfl,a,lr,us1,ws,rows,_,d',rfl,ea,d1,s12 _ _ er,dr.ts s12.ts,ok,pos,few,T1,by omega,λv3 X1 H3 s3 d3 m3 p3 c3 g3=>?_⟩
   refine ⟨_,rfl,_,_,_,_,rfl,rfl,sq.ts s3.ts,rfl,_,rfl,b,lr,us2,ws,rows,_,d',rfl,s3 _ _ eb,d2.ts s3.ts,(s12.trans s3) _ _ er,dr.ts (s12.trans s3).ts,ok,pos,few,T2,by omega,λv4 X2 H4 s4 d4 m4 p4 c4 g4=>?_⟩
   refine ⟨(by show 4<=sizeLine;decide),λp hp=>?_⟩
   have u5:=ao hp (.tup [.str "cut",v,v3,v4])
   have e2:2 ^ (d'+1)=2*2 ^ d':=by rw [Nat.pow_succ];omega
   exact q _ (.cut tt X1 X2) _ (((s12.trans s3).trans s4).trans u5) (BW (SqT.of ae) (dv.ts (((s2.trans s3).trans s4).trans u5).ts) (d3.ts (s4.trans u5).ts) (d4.ts u5.ts)) ⟨b40,m3,m4⟩ (by simp only [Hu.Tc.deep];omega) (by show 1+X1.jf+X2.jf+1<=_;omega) (Gd.cut (Hu.rD mx) g3 g4)
theorem DR (T:aD K mg "cutting" mM) (M:∀ t,aT P w K mg base (c.of t) "folds" 3 ["self"] (oR c t)) (qO:Def P w K mg base 1 "must_be_few" ["folds"] spFew) (qz:Def P w K mg base 1 "square" [] (Cj K)) (BM:Def P w K mg base 3 "rows_of" ["saying"] (uI c)) (ko:Def P w K mg base 13 "tree_on" ["hull","rows"] (uC K 9)):Def P w K mg base 14 "cutting" ["saying"] (yN c K):=by
 refine aN T pD (λ_ _ _ _ _ _=>L2.ar1 λ_=>rfl) (λvs H Q E h=>?_) (λf cdv A outer s H vs Q E hr h=>?_)
 ·obtain ⟨a,t,rfl,_⟩:=h
  rfl
 obtain ⟨a,t,rfl,oa,sz,nf8,q⟩:=h
 have nd:=pD.nd
 obtain ⟨dx,fs,ea,nf⟩:=oa.cls
 have R:=CW t
 have fd:=R.fd
 have ln:=R.len
 refine ⟨_,(ag (bb (aH qO (hr.mono (by decide)) rfl (aa (dA (k:=3) (pv 0) (hr.mono (by omega))) af)))
  (ak (av (aH ko (hr.mono (by omega)) rfl (aa (zh qz (hr.mono (by omega)) rfl) (aa (aH BM (hr.mono (by omega)) rfl (aa (pv 0) af)) af)))))),?_⟩
 refine ⟨_,rfl,a,_,_,_,_,_,rfl,ea,nf _ (by decide +kernel),M t,a,rfl,oa,by omega,λH1 s1=>⟨_,rfl,by omega,?_⟩⟩
 refine ⟨rfl,λl us H2 s2 hl el da=>?_⟩
 have s12:=s1.trans s2
 refine ⟨_,rfl,a,t,rfl,oa.to (Kp.of s12),by omega,λlr ws H3 s3 hlr er al=>?_⟩
 exact ⟨l,lr,us,ws,pH t,Hu.sqH,8,rfl,s3 _ _ el,da.ts s3.ts,er,R.dat al,R.ok,R.pos,by omega,sq_tnl (by simp;omega),by decide,λv T H4 s4 d4 m4 p4 c4 g4=>q v T H4 ((s12.trans s3).trans s4) d4 m4 p4 c4 g4⟩
end
noncomputable def FrV (K:PySem.W.Frag) (H:Hp) (v:V) (p:Int×Int):Prop:=∃ a,v=.ref a/\SqT K H a [.int p.1,.int p.2]
theorem FrV.to {K:PySem.W.Frag} {H H':Hp} {v:V} {p:Int×Int} (s:aI H H') (h:FrV K H v p):FrV K H' v p:=by
 obtain ⟨a,rfl,q⟩:=h
 exact ⟨a,rfl,q.ts s.ts⟩
noncomputable def yI (K:PySem.W.Frag):Sp:=λvs H Q _=>∃ t b:Int,vs=[.int t,.int b]/\b≠0/\Bg b/\∀(v:V) (H':Hp),aI H H'->FrV K H' v (Lo.vU t b,Lo.vV t b)->Q v H'
noncomputable def uJ (K:PySem.W.Frag):Sp:=λvs H Q _=>∃(x y:V) (f g:Int×Int),vs=[x,y]/\FrV K H x f/\FrV K H y g/\Bg f.1/\Bg f.2/\Bg g.1/\Bg g.2/\Q (.bl (decide (f.1*g.2 < g.1*f.2))) H
section
variable {P:Program} {w:World} {K:PySem.W.Frag} {mg:Str->Option Value} {base:Heap}
theorem qE (T:aD K mg "fraction" kK) (dQ:Def P w K mg base 1 "common_factor" ["one","other"] oS):Def P w K mg base 2 "fraction" ["top","bottom"] (yI K):=by
 refine aN T nE (λ_ _ _ _ _ _=>L2.ar2 λ_ _=>rfl) (λvs H Q E h=>?_) (λf cdv A outer s H vs Q E hr h=>?_)
 ·obtain ⟨t,b,rfl,_⟩:=h
  rfl
 obtain ⟨t,b,rfl,hb,hs,q⟩:=h
 have nd:=nE.nd
 refine ⟨_,(ag (aO (aC bQ (pv 1) aq (aF _)) (ak ps_dead) aG)
  (ag (aJ (i:=2) nd rfl (Or.inl rfl) (aH dQ (hr.mono (by decide)) rfl (aa (pv 0) (aa (pv 1) af))))
  (ag (aO (aC lT (pv 1) aq (aF _)) (ak (aJ (i:=2) nd rfl (Or.inl rfl) (zf kE (pv 2)))) aG)
  (ak (av (bh (aa (aK jG (pv 0) (pv 2)) (aa (aK jG (pv 1) (pv 2)) af)))))))),?_⟩
 refine ⟨_,rfl,rfl,_,rfl,?_⟩
 refine dB (λc=>absurd (V.int.inj (of_decide_eq_true c)) hb) (λc=>?_)
 have hg2:Bg (Lo.sg t b):=Nat.lt_of_le_of_lt (Lo.sg_le hb) hs
 refine ⟨_,rfl,_,rfl,t,b,rfl,?_⟩
 refine ⟨_,rfl,_,_,rfl,rfl,_,rfl,?_⟩
 refine dB (λc=>?_) (λc=>?_)
 ·have c2:b < 0:=of_decide_eq_true c
  have es:-(Lo.gc t b)=Lo.sg t b:=by unfold Lo.sg;rw [if_pos c2]
  refine ⟨_,rfl,_,rfl,_,rfl,_,rfl,_,_,rfl,rfl,(by rw [es];exact xZ (Lo.qZ hb) hg2),_,rfl,_,rfl,_,_,rfl,rfl,(by rw [es];exact xZ (Lo.qZ hb) hg2),(by show 2<=sizeLine;decide),λp hp=>?_⟩
  rw [es]
  exact q _ _ (ao hp _) ⟨p,rfl,SqT.of ae⟩
 ·have c2:¬b < 0:=λz=>c (decide_eq_true z)
  have es:Lo.gc t b=Lo.sg t b:=by unfold Lo.sg;rw [if_neg c2]
  refine ⟨_,rfl,_,rfl,_,_,rfl,rfl,(by rw [es];exact xZ (Lo.qZ hb) hg2),_,rfl,_,rfl,_,_,rfl,rfl,(by rw [es];exact xZ (Lo.qZ hb) hg2),(by show 2<=sizeLine;decide),λp hp=>?_⟩
  rw [es]
  exact q _ _ (ao hp _) ⟨p,rfl,SqT.of ae⟩
theorem AJ (T:aD K mg "less" xi):Def P w K mg base 1 "less" ["one","other"] (uJ K):=by
 refine aN T yV (λ_ _ _ _ _ _=>L2.ar2 λ_ _=>rfl) (λvs H Q E h=>?_) (λf cdv A outer s H vs Q E hr h=>?_)
 ·obtain ⟨x,y,f,g,rfl,_⟩:=h
  rfl
 obtain ⟨x,y,f,g,rfl,⟨a,rfl,sa⟩,⟨c,rfl,sc⟩,b1,b2,b3,b4,k⟩:=h
 have nd:=yV.nd
 refine ⟨_,(ak (av (dP lT (aK bE (aE az (pv 0) aq (λ_ _=>rfl)) (aE az (pv 1) aq (λ_ _=>rfl))) (aK bE (aE az (pv 1) aq (λ_ _=>rfl)) (aE az (pv 0) aq (λ_ _=>rfl))) (aF _)))),?_⟩
 exact ⟨_,rfl,_,_,_,_,rfl,rfl,sa,rfl,_,rfl,_,_,_,_,rfl,rfl,sc,rfl,_,_,rfl,rfl,gP b1 b4,_,rfl,_,_,_,_,rfl,rfl,sc,rfl,_,rfl,_,_,_,_,rfl,rfl,sa,rfl,_,_,rfl,rfl,gP b3 b2,_,_,rfl,rfl,k⟩
end
theorem ED {K:PySem.W.Frag} {te:TE} {js:List Nat} {σ:St} {H:Hp} {Q:VK} {l:Addr} {is:List Int} (g:Int->V) (sq:SqT K H l (is.map V.int)) (hx:is.length<=1000)
  (hs:∀(i:Int) (H':Hp) (N:VK),aI H H'->(∀ H'',aI H' H''->N (g i) H'')->te (some (.int i)::bI js σ) H' N)
  (hd:∀ D H',aI H H'->H D=none->H' D=some (.lst (is.map g))->Q (.ref D) H'):iD (λ_ H R=>R (Itt K l) H) ky te js σ H Q:=by
 intro D hD
 refine ⟨λi m H'=>m=is.length - i/\i<=is.length/\aI H H'/\H' D=some (.lst ((is.take i).map g)),⟨is.length,rfl,Nat.zero_le _,ao hD _,ae⟩,?_⟩
 rintro i m H2 ⟨rfl,hi,s2,eD⟩
 have sq2:=sq.ts s2.ts
 by_cases hlt:i < is.length
 ·have h1:(is.map V.int)[i]?=some (.int is[i]):=by rw [List.getElem?_map,List.getElem?_eq_getElem hlt];rfl
  refine .inr ⟨⟨_,_,sq2,h1⟩,λv H3 y=>?_⟩
  obtain ⟨rfl,y⟩:=y
  have hv:=y _ sq2
  rw [h1] at hv
  cases hv
  refine iC ?_
  refine hs _ _ _ s2 λH4 s4=>?_
  refine ⟨_,s4 _ _ eD,Nat.lt_of_le_of_lt (show _<=1000 by rw [List.length_map,List.length_take];omega) (by decide),is.length - (i+1),by omega,rfl,hlt,aU (s2.trans s4) hD _,?_⟩
  rw [ae,List.take_add_one,List.getElem?_eq_getElem hlt,List.map_append]
  rfl
 ·have ei:i=is.length:=by omega
  subst ei
  rw [List.take_length] at eD
  exact .inl ⟨⟨_,sq2,by simp⟩,hd D H2 s2 hD eD⟩
noncomputable def PtS (K:PySem.W.Frag) (H:Hp) (p:Addr) (n x y:Int):Prop:=SqT K H p [.int n,.int x,.int y]/\1<=n/\0<=x/\x<=n/\0<=y/\y<=n
theorem PtS.to {K:PySem.W.Frag} {H H':Hp} {p:Addr} {n x y:Int} (h:PtS K H p n x y) (s:aI H H'):PtS K H' p n x y:=⟨h.1.ts s.ts,h.2⟩
noncomputable def uN (K:PySem.W.Frag):Sp:=λvs H Q _=>∃(p:Addr) (n x y:Int),vs=[.ref p]/\PtS K H p n x y/\∀ H',aI H H'->Q (.bl true) H'
noncomputable def oP (K:PySem.W.Frag):Sp:=λvs H Q _=>∃(p:Addr) (n x y:Int),vs=[.ref p]/\PtS K H p n x y/\∀ H',aI H H'->Q .non H'
noncomputable def qY (c:CCs) (K:PySem.W.Frag):Sp:=λvs H Q _=>∃(a p:Addr) (t:Tr) (n x y:Int),vs=[.ref a,.ref p]/\Ob c H a t/\t.size<=1000/\PtS K H p n x y/\∀ H',aI H H'->Q (.int (t.worth n x y)) H'
section
variable {P:Program} {w:World} {K:PySem.W.Frag} {mg:Str->Option Value} {base:Heap} {c:CCs}
theorem tK (T:aD K mg "is_point" dR) (aL:mg "isinstance"=none) (aP:mg "tuple"=none) (bf:mg "len"=none) (ma:mg "all"=none) (yt:Def P w K mg base 1 "is_whole" ["thing"] uA):Def P w K mg base 2 "is_point" ["thing"] (uN K):=by
 refine aN T pz (λ_ _ _ _ _ _=>L2.ar1 λ_=>rfl) (λvs H Q E h=>?_) (λf cdv A outer s H vs Q E hr h=>?_)
 ·obtain ⟨p,n,x,y,rfl,_⟩:=h
  rfl
 obtain ⟨p,n,x,y,rfl,⟨e,g1,g2,g3,g4,g5⟩,q⟩:=h
 have nd:=pz.nd
 have ex1:∃ te,PE (cS CX0 P w K mg base ptN "is_point" (ah dR) f cdv A outer s H E).nox (allArg (ptAt 1)) te/\∀(Q':VK) (o1:Option V),(∀ l H',aI H H'->H' l=some (.lst [.bl true,.bl true,.bl true])->Q' (.ref l) H')->te [some (.ref p),o1] H Q':=by
  refine ⟨_,(eT rfl (kN (pv 0)) rfl (by decide +kernel) (by decide +kernel) rfl (show ∀ p∈Scope.names _,p.2=NameKind.free->List.lookup p.1 (ah dR).names=some .cell\/List.lookup p.1 (ah dR).names=some .free by decide +kernel) cR (show (["number"]:List Str).Nodup by decide +kernel) (λ_ _ _ _=>dq) (λ_ _ _ _=>(aH yt (hr.mono (by decide)) rfl (aa (pv 0) af)))),?_⟩
  intro Q' o1 fin
  refine iS ?_
  refine ⟨_,rfl,p,rfl,⟨_,e⟩,?_⟩
  refine ED (K:=K) (is:=[n,x,y]) (λ_=>.bl true) e (by show 3<=1000;decide) (λi H' N s1 hN=>?_) (λD H' s1 hD eD=>fin D H' s1 eD)
  exact ⟨_,rfl,i,rfl,hN _ (aI.refl _)⟩
 obtain ⟨t1,ht1,hq1⟩:=ex1
 refine ⟨_,ag (aO (PW.pt (fW (dU (dj (aB gF rfl aL (by decide +kernel) (aa (pv 0) (aa (fT (v:=V.ty "tuple") rfl aP (by decide +kernel) rfl) af))))) (gN (aC lS (aB bz rfl bf (by decide +kernel) (aa (pv 0) af)) aq (aF _))))) (ak (av hZ)) aG) (ag (aO (dU (dj (aB (qt rfl) rfl ma (by decide +kernel) (aa ht1 af)))) (ak (av hZ)) aG) (ag (aJ (i:=1) nd rfl (Or.inl rfl) (aE az (pv 0) aq (λ_ _=>rfl)))
  (ak (av (jD (dP pN (pv 1) aq (aF _)) (jD (vx ji ji aq (aE az (pv 0) aq (λ_ _=>rfl)) (pv 1)) (mS (vx ji ji aq (aE az (pv 0) aq (λ_ _=>rfl)) (pv 1))))))))),?_⟩
 refine ⟨_,rfl,_,_,_,_,true,rfl,(λ_ h=>h),e,fX,_,rfl,?_⟩
 refine bB ⟨_,rfl,_,3,rfl,.inr ⟨_,e,rfl⟩,rfl,_,rfl,?_⟩
 refine iteNS rfl ?_
 refine hq1 _ _ λl H1 s1 el=>?_
 have e1:=e.ts s1.ts
 refine ⟨l,[true,true,true],rfl,SqL.of el,_,rfl,bB ?_⟩
 refine ⟨_,rfl,_,_,_,_,rfl,rfl,e1,rfl,?_⟩
 refine ⟨_,rfl,_,_,rfl,rfl,_,rfl,?_⟩
 rw [decide_eq_true (show n ≥ 1 from g1)]
 refine dI ⟨_,rfl,_,_,_,_,rfl,rfl,e1,rfl,_,_,rfl,rfl,_,rfl,?_⟩
 rw [decide_eq_true (show (0:Int)<=x from g2)]
 refine dI ⟨_,rfl,_,_,rfl,rfl,_,rfl,?_⟩
 rw [decide_eq_true (show x<=n from g3)]
 refine dI ⟨_,rfl,_,_,_,_,rfl,rfl,e1,rfl,_,_,rfl,rfl,_,rfl,?_⟩
 rw [decide_eq_true (show (0:Int)<=y from g4)]
 refine dI ⟨_,rfl,_,_,rfl,rfl,?_⟩
 show Q (.bl (decide (y<=n))) H1
 rw [decide_eq_true (show y<=n from g5)]
 exact q _ s1
theorem vB (T:aD K mg "must_be_point" gh) (yu:Def P w K mg base 2 "is_point" ["thing"] (uN K)):Def P w K mg base 3 "must_be_point" ["thing"] (oP K):=by
 refine aN T rm (λ_ _ _ _ _ _=>L2.ar1 λ_=>rfl) (λvs H Q E h=>?_) (λf cdv A outer s H vs Q E hr h=>?_)
 ·obtain ⟨p,n,x,y,rfl,_⟩:=h
  rfl
 obtain ⟨p,n,x,y,rfl,g,q⟩:=h
 have nd:=rm.nd
 refine ⟨_,(ak (aO (dU (dj (aH yu (hr.mono (by decide)) rfl (aa (pv 0) af)))) (ak vv) aG)),?_⟩
 exact ⟨_,rfl,p,n,x,y,rfl,g,λH' s'=>⟨_,rfl,bB (q _ s')⟩⟩
theorem rf:aA ["saying","point"] ["saying","point"] (ah sI):=L2.fsc rfl (by decide +kernel)
theorem xw (T:aD K mg "worth" sI) (nY:Def P w K mg base 3 "must_be_point" ["thing"] (oP K)) (M:∀ t,aT P w K mg base (c.of t) "out_of" 3 ["self","n","x","y"] (Cm c t)):Def P w K mg base 4 "worth" ["saying","point"] (qY c K):=by
 refine aN T rf (λ_ _ _ _ _ _=>L2.ar2 λ_ _=>rfl) (λvs H Q E h=>?_) (λf cdv A outer s H vs Q E hr h=>?_)
 ·obtain ⟨a,p,t,n,x,y,rfl,_⟩:=h
  rfl
 obtain ⟨a,p,t,n,x,y,rfl,o,z,g,q⟩:=h
 have nd:=rf.nd
 refine ⟨_,(ag (bb (aH nY (hr.mono (by decide)) rfl (aa (pv 1) af)))
  (ak (av (pM (k:=3) (pv 0) (hr.mono (by omega)) (aa (aE az (pv 1) aq (λ_ _=>rfl)) (aa (aE az (pv 1) aq (λ_ _=>rfl)) (aa (aE az (pv 1) aq (λ_ _=>rfl)) af))))))),?_⟩
 refine ⟨_,rfl,p,n,x,y,rfl,g,λH1 s1=>?_⟩
 have o1:=o.to (Kp.of s1)
 have e1:=(g.to s1).1
 obtain ⟨dx,fs,ea,nf⟩:=o1.cls
 exact ⟨_,rfl,a,_,_,_,_,_,rfl,ea,nf _ (by decide +kernel),M t,_,rfl,_,_,_,_,rfl,rfl,e1,rfl,_,rfl,_,_,_,_,rfl,rfl,e1,rfl,_,rfl,_,_,_,_,rfl,rfl,e1,rfl,a,n,x,y,rfl,o1,z,λH2 s2=>q _ (s1.trans s2)⟩
end
noncomputable def lowF (w n:Int):Int×Int:=(Lo.vU w n,Lo.vV w n)
theorem zv {w n:Int} (hn:0 < n):(lowF w n).1*n=w*(lowF w n).2/\0 < (lowF w n).2:=by
 have g0:0 < Lo.gc w n:=Lo.xV (by omega)
 have es:Lo.sg w n=Lo.gc w n:=by unfold Lo.sg;rw [if_neg (by omega)]
 obtain ⟨k1,e1⟩:=Lo.dY w n
 obtain ⟨k2,e2⟩:=Lo.eX w n
 have f1:w.fdiv (Lo.gc w n)=k1:=by
  conv=>lhs;arg 1;rw [e1]
  exact Int.mul_fdiv_cancel_left k1 (by omega)
 have f2:n.fdiv (Lo.gc w n)=k2:=by
  conv=>lhs;arg 1;rw [e2]
  exact Int.mul_fdiv_cancel_left k2 (by omega)
 show w.fdiv (Lo.sg w n)*n=w*n.fdiv (Lo.sg w n)/\0 < n.fdiv (Lo.sg w n)
 rw [es,f1,f2]
 generalize Lo.gc w n=g at *
 refine ⟨?_,?_⟩
 ·rw [e1,e2];grind
 ·rcases Int.lt_or_le 0 k2 with z | z
  ·exact z
  ·exact absurd (Int.mul_nonpos_of_nonneg_of_nonpos (Int.le_of_lt g0) z) (by omega)
theorem vT {f g:Int×Int} {w n:Int} (hf:0 < f.2) (hg:0 < g.2) (hn:0 < n) (h:g.1*f.2<=f.1*g.2) (k:f.1*n<=w*f.2):g.1*n<=w*g.2:=by
 have h1:g.1*f.2*n<=f.1*g.2*n:=Int.mul_le_mul_of_nonneg_right h (Int.le_of_lt hn)
 have h2:f.1*n*g.2<=w*f.2*g.2:=Int.mul_le_mul_of_nonneg_right k (Int.le_of_lt hg)
 refine Int.le_of_mul_le_mul_right (a:=f.2) ?_ hf
 have e1:g.1*n*f.2=g.1*f.2*n:=by grind
 have e2:w*g.2*f.2=w*f.2*g.2:=by grind
 have e3:f.1*g.2*n=f.1*n*g.2:=by grind
 omega
namespace Hu
theorem Tc.told_cone:∀{t:Tc} {h:List T3} {L:List (List T3)},HK h->t.Sm 64->t.told h=some L->∀ g∈L,∀ c∈g,gZ h c
 | .leaf,h,L,H,_,e,g,hg,c,hc=>by
  cases e
  rw [List.mem_singleton.mp hg] at hc
  exact jO hc
 | .cut r l k,h,L,H,sm,e,x,hx,p,hp=>by
  unfold Tc.told at e
  split at e
  ·cases e
  ·rename_i nc
   have c:=Hu.jf H sm.1 nc
   cases ea:l.told (low r h) with
   | none=>rw [ea] at e;cases e
   | some a=>cases eb:k.told (high r h) with
    | none=>rw [ea,eb] at e;cases e
    | some b =>
     rw [ea,eb] at e
     cases e
     rcases List.mem_append.mp hx with z | z
     ·exact gZ.sub (jZ H) (Tc.told_cone c.lo sm.2.1 ea x z p hp)
     ·exact gZ.sub (jZ H) (Tc.told_cone c.hi sm.2.2 eb x z p hp)
theorem zR {p:T3} (C:gZ sqH p):0<=p.v/\p.v<=p.u/\0<=p.w/\p.w<=p.u:=by
 have h:∀ f:T3,0<=tl f ⟨1,0,0⟩->0<=tl f ⟨1,1,0⟩->0<=tl f ⟨1,1,1⟩->0<=tl f ⟨1,0,1⟩->0<=tl f p:=λf a b c d=>C f λx hx=>by
  simp only [sqH,List.mem_cons,List.not_mem_nil,or_false] at hx
  rcases hx with rfl | rfl | rfl | rfl <;> assumption
 have e:∀ f q:T3,tl f q=f.u*q.v+f.v*q.w+f.w*q.u:=λ_ _=>rfl
 have h1:=h ⟨1,0,0⟩ (by decide) (by decide) (by decide) (by decide)
 have h2:=h ⟨-1,0,1⟩ (by decide) (by decide) (by decide) (by decide)
 have h3:=h ⟨0,1,0⟩ (by decide) (by decide) (by decide) (by decide)
 have h4:=h ⟨0,-1,1⟩ (by decide) (by decide) (by decide) (by decide)
 rw [e] at h1 h2 h3 h4
 refine ⟨?_,?_,?_,?_⟩ <;> simp at h1 h2 h3 h4 <;> omega
end Hu
theorem iB:∀{t:Hu.Tc} {h:List T3} {L:List (List T3)},t.told h=some L->L.length=t.jf+1
 | .leaf,h,L,e=>by cases e;rfl
 | .cut r l g,h,L,e=>by
  unfold Hu.Tc.told at e
  split at e
  ·cases e
  ·cases ea:l.told (Hu.low r h) with
   | none=>rw [ea] at e;cases e
   | some a=>cases eb:g.told (Hu.high r h) with
    | none=>rw [ea,eb] at e;cases e
    | some b =>
     rw [ea,eb] at e
     cases e
     have:=iB ea
     have:=iB eb
     rw [List.length_append]
     show _=1+l.jf+g.jf+1
     omega
noncomputable def HuV (K:PySem.W.Frag) (H:Hp) (v:V) (h:List T3):Prop:=∃(a:Addr) (us:List V),v=.ref a/\H a=some (.lst us)/\DatAll K H (h.map t3D) us
theorem HuV.to {K:PySem.W.Frag} {H H':Hp} (s:aI H H') (v:V) (h:List T3) (y:HuV K H v h):HuV K H' v h:=by
 obtain ⟨a,us,rfl,e,d⟩:=y
 exact ⟨a,us,rfl,s _ _ e,d.ts s.ts⟩
theorem bJ.all2 {K:PySem.W.Frag} {H:Hp} {N:Addr->Prop}:∀{L:List (List T3)} {vs:List V},bJ K H N L vs->cC (HuV K H) vs L
 | [],_,g=>by cases (show _=([]:List V) from g);exact .nil
 | _::_,_,⟨v,r,e,⟨a,us,e1,_,e2,e3⟩,g2⟩=>by subst e;exact .cons ⟨a,us,e1,e2,e3⟩ g2.all2
theorem w5_bd {u:W5} {n i j:Int} (hn:0<=n) (a:0<=i/\i<=n) (b:0<=j/\j<=n):0<=u.worth n i j/\u.worth n i j<=n:=by
 cases u with
 | more=>show 0<=min (i+j) n/\min (i+j) n<=n;omega
 | less=>show 0<=max (i+j - n) 0/\max (i+j - n) 0<=n;omega
 | greater=>show 0<=max i j/\max i j<=n;omega
 | lesser=>show 0<=min i j/\min i j<=n;omega
 | leads=>show 0<=min (n - i+j) n/\min (n - i+j) n<=n;omega
theorem jm {n x y:Int} (hn:0<=n) (a:0<=x/\x<=n) (b:0<=y/\y<=n):∀ t:Tr,0<=t.worth n x y/\t.worth n x y<=n
 | .no t=>by
  have:=jm hn a b t
  show 0<=n - t.worth n x y/\n - t.worth n x y<=n
  omega
 | .fold w u v=>w5_bd hn (jm hn a b u) (jm hn a b v)
 | .never=>⟨Int.le_refl _,hn⟩
 | .always=>⟨hn,Int.le_refl _⟩
 | .lp=>a
 | .lq=>b
noncomputable def WF (a:Tr) (c:T3):Int×Int:=lowF (a.worth c.u c.v c.w) c.u
noncomputable def Best (K:PySem.W.Frag) (H:Hp) (a:Tr) (cs:List T3) (ol op:V):Prop:=(cs=[]/\ol=.non/\op=.non)\/∃ pt,pt∈cs/\FrV K H ol (WF a pt)/\Dat K H (t3D pt) op/\∀ c∈cs,(WF a pt).1*c.u<=a.worth c.u c.v c.w*(WF a pt).2
noncomputable def spLW (c:CCs) (K:PySem.W.Frag):Sp:=λvs H Q _=>∃(x:Addr) (a:Tr),vs=[.ref x]/\Ob c H x a/\a.size<=60/\a.nf<=8/\
 ∀(p:Addr) (vl vp vt:V) (pt:T3) (T:Hu.Tc) (L:List (List T3)) (H':Hp),aI H H'->H' p=some (.tup [vl,vp,vt])->FrV K H' vl (WF a pt)->Dat K H' (t3D pt) vp->Dat K H' (tcD T) vt->T.Sm 61->T.deep<=8->T.jf+1<=2 ^ 8->T.told Hu.sqH=some L->(∀ g∈L,∃ rs,Hu.run g (pH a) []=.rules rs)->(∃ g∈L,pt∈g)->(∀ g∈L,∀ c∈g,(WF a pt).1*c.u<=a.worth c.u c.v c.w*(WF a pt).2)->Q (.ref p) H'
section
variable {P:Program} {w:World} {K:PySem.W.Frag} {mg:Str->Option Value} {base:Heap} {c:CCs}
theorem ok_lw {CN:Addr} (T:aD K mg "least_worth" ir) (BO:Def P w K mg base 14 "cutting" ["saying"] (yN c K)) (yw:wH P w K mg base 4 "hulls_of" ["tree"] (yK K CN)) (D_worth:Def P w K mg base 4 "worth" ["saying","point"] (qY c K)) (yx:Def P w K mg base 2 "fraction" ["top","bottom"] (yI K)) (D_less:Def P w K mg base 1 "less" ["one","other"] (uJ K)):Def P w K mg base 16 "least_worth" ["saying"] (spLW c K):=by
 refine aN T jt (λ_ _ _ _ _ _=>L2.ar1 λ_=>rfl) (λvs H Q E h=>?_) (λf cdv A outer s H vs Q E hr h=>?_)
 ·obtain ⟨x,a,rfl,_⟩:=h
  rfl
 obtain ⟨x,a,rfl,oa,sz,n8,q⟩:=h
 have nd:=jt.nd
 refine ⟨_,(ag (aJ (i:=1) nd rfl (Or.inl rfl) (aH BO (hr.mono (by omega)) rfl (aa (pv 0) af)))
  (ag (aJ (i:=2) nd rfl (Or.inl rfl) bX)
  (ag (aJ (i:=3) nd rfl (Or.inl rfl) bX)
  (ag (fD PassesOwn.never rfl (cQ (zg yw (hr.mono (by omega)) rfl (aa (pv 1) af))) (aV (i:=4) nd rfl (Or.inl rfl)) (ak (fD PassesOwn.never rfl (cQ (pv 4)) (aV (i:=5) nd rfl (Or.inl rfl)) (ag (aJ (i:=6) nd rfl (Or.inl rfl) (aH yx (hr.mono (by omega)) rfl (aa (aH D_worth (hr.mono (by omega)) rfl (aa (pv 0) (aa (pv 5) af))) (aa (aE az (pv 5) aq (λ_ _=>rfl)) af))))
  (ak (aO (PW.pt (fW (aC jE (pv 2) bX (aF _)) (gN (dj (aH D_less (hr.mono (by omega)) rfl (aa (pv 6) (aa (pv 2) af))))))) (ag (aJ (i:=2) nd rfl (Or.inl rfl) (pv 6))
  (ak (aJ (i:=3) nd rfl (Or.inl rfl) (pv 5)))) aG))))))
  (ak (av (bh (aa (pv 2) (aa (pv 3) (aa (pv 1) af)))))))))),?_⟩
 refine ⟨_,rfl,x,a,rfl,oa,sz,n8,λvt X H1 s1 dt sm dp cu gd=>?_⟩
 obtain ⟨L,eL,kL⟩:=gd
 have sm64:X.Sm 64:=sm.mono (by decide)
 have hk:=Hu.Tc.kZ Hu.ny sm64 eL
 have cn:=Hu.Tc.told_cone Hu.ny sm64 eL
 refine ⟨_,rfl,vt,X,rfl,dt,sm64,by omega,λnn=>absurd (eL.symm.trans nn) (λz=>by cases z),λL' eL' l us H2 s2 hl el al=>?_⟩
 rw [eL] at eL'
 cases eL'
 have s12:=s1.trans s2
 have al2:=al.all2
 have lu:=al2.len
 have hp:∀ g∈L,∀ p∈g,0 < p.u/\(0<=p.v/\p.v<=p.u/\0<=p.w/\p.w<=p.u)/\Bg p.u:=λg hg p hp=>⟨((hk g hg).1.ok p hp).n0,Hu.zR (cn g hg p hp),gU ((hk g hg).1.ok p hp).r.a (by decide)⟩
 have wb:∀ g∈L,∀ p∈g,Bg (WF a p).1/\Bg (WF a p).2/\0 < (WF a p).2/\(WF a p).1*p.u=a.worth p.u p.v p.w*(WF a p).2:=λg hg p hp'=>by
  obtain ⟨u0,⟨v0,v1,w0,w1⟩,ub⟩:=hp g hg p hp'
  have b:=jm (n:=p.u) (x:=p.v) (y:=p.w) (by omega) ⟨v0,v1⟩ ⟨w0,w1⟩ a
  have e:=zv (w:=a.worth p.u p.v p.w) u0
  exact ⟨Nat.lt_of_le_of_lt (Lo.zt (by omega)) (Nat.lt_of_le_of_lt (by omega) ub),Nat.lt_of_le_of_lt (Lo.zw (by omega)) ub,e.2,e.1⟩
 refine ⟨l,rfl,⟨us,SqL.of el⟩,?_⟩
 refine gS (xs:=us) (λi σ H'=>aI H2 H'/\∃(ol op:V) (o4 o5 o6:Option V),σ=[some (.ref x),some vt,some ol,some op,o4,o5,o6]/\Best K H' a (L.take i).flatten ol op) ⟨aI.refl _,_,_,_,_,_,rfl,.inl ⟨rfl,rfl,rfl⟩⟩ (λi σ H' _ z=>SqL.of (z.1 _ _ el)) (λi v σ H' hv z=>?_) (fun σ H' z=>?_)
 ·obtain ⟨s3,ol,op,o4,o5,o6,rfl,be⟩:=z
  obtain ⟨g,hg,ga,gus,rfl,eg,dg⟩:=(al2.imp (HuV.to s3)).get i v hv
  have gm:=List.mem_of_getElem? hg
  refine ⟨_,rfl,ga,rfl,⟨gus,SqL.of eg⟩,?_⟩
  refine gS (xs:=gus) (λj σ H''=>aI H' H''/\∃(ol op:V) (o5 o6:Option V),σ=[some (.ref x),some vt,some ol,some op,some (.ref ga),o5,o6]/\Best K H'' a ((L.take i).flatten++g.take j) ol op) ⟨aI.refl _,_,_,_,_,rfl,by simpa using be⟩ (λj σ H'' _ z=>SqL.of (z.1 _ _ eg)) (λj v σ H'' hv z=>?_) (fun σ H'' z=>?_)
  ·obtain ⟨s4,ol,op,o5,o6,rfl,be⟩:=z
   obtain ⟨p,hpj,dpv⟩:=so (dg.ts s4.ts) hv
   obtain ⟨pa,rfl,sp⟩:=dH dpv
   have pm:=List.mem_of_getElem? hpj
   obtain ⟨u0,bx,ub⟩:=hp g gm p pm
   obtain ⟨w1,w2,w3,w4⟩:=wb g gm p pm
   have s04:=(s12.trans s3).trans s4
   refine ⟨_,rfl,_,rfl,x,pa,a,p.u,p.v,p.w,rfl,oa.to (Kp.of s04),by omega,⟨sp,by omega,bx.1,bx.2.1,bx.2.2.1,bx.2.2.2⟩,λH5 s5=>?_⟩
   refine ⟨_,rfl,_,_,_,_,rfl,rfl,sp.ts s5.ts,rfl,_,_,rfl,by omega,ub,λvf H6 s6 fv=>?_⟩
   have s46:=s5.trans s6
   have tk:g.take (j+1)=g.take j++[p]:=by rw [List.take_add_one,hpj];rfl
   have inL:∀ c∈(L.take i).flatten++g.take j,∃ g'∈L,c∈g':=λc hc=>by
    rcases List.mem_append.mp hc with h | h
    ·obtain ⟨g',h1,h2⟩:=List.mem_flatten.mp h
     exact ⟨g',List.mem_of_mem_take h1,h2⟩
    ·exact ⟨g,gm,List.mem_of_mem_take h⟩
   have ap:(L.take i).flatten++g.take (j+1)=((L.take i).flatten++g.take j)++[p]:=by rw [tk,List.append_assoc]
   rw [ap]
   rcases be with ⟨ec,rfl,rfl⟩ | ⟨pt,hpt,fpt,dpt,kpt⟩
   ·refine ⟨_,rfl,rfl,_,rfl,dI (dI ?_)⟩
    refine ⟨_,rfl,_,rfl,?_⟩
    refine ⟨s4.trans s46,vf,.ref pa,_,_,rfl,.inr ⟨p,by simp,fv,dpv.ts s46.ts,λc hc=>?_⟩⟩
    rw [ec,List.nil_append] at hc
    rw [List.mem_singleton.mp hc]
    exact Int.le_of_eq w4
   ·obtain ⟨la,rfl,sl⟩:=id fpt
    obtain ⟨g',hg',hpt'⟩:=inL pt hpt
    obtain ⟨y1,y2,y3,y4⟩:=wb g' hg' pt hpt'
    refine ⟨_,rfl,rfl,_,rfl,bB ?_⟩
    refine ⟨_,rfl,_,rfl,vf,.ref la,WF a p,WF a pt,rfl,fv,fpt.to s46,w1,w2,y1,y2,_,rfl,dB (λcc=>?_) (λcc=>?_)⟩
    ·have cc:(WF a p).1*(WF a pt).2 < (WF a pt).1*(WF a p).2:=of_decide_eq_true cc
     refine ⟨_,rfl,_,rfl,?_⟩
     refine ⟨s4.trans s46,vf,.ref pa,_,_,rfl,.inr ⟨p,by simp,fv,dpv.ts s46.ts,λc hc=>?_⟩⟩
     rcases List.mem_append.mp hc with h | h
     ·obtain ⟨g2,hg2,hc2⟩:=inL c h
      exact vT y3 w3 (hp g2 hg2 c hc2).1 (Int.le_of_lt cc) (kpt c h)
     ·rw [List.mem_singleton.mp h]
      exact Int.le_of_eq w4
    ·have cc:¬ (WF a p).1*(WF a pt).2 < (WF a pt).1*(WF a p).2:=λz=>cc (decide_eq_true z)
     refine ⟨s4.trans s46,_,_,_,_,rfl,.inr ⟨pt,List.mem_append_left _ hpt,fpt.to s46,dpt.ts s46.ts,λc hc=>?_⟩⟩
     rcases List.mem_append.mp hc with h | h
     ·exact kpt c h
     ·rw [List.mem_singleton.mp h]
      exact vT w3 y3 u0 (by omega) (Int.le_of_eq w4)
  ·obtain ⟨s4,ol,op,o5,o6,rfl,be⟩:=z
   have gl:=il dg
   refine ⟨s3.trans s4,ol,op,_,_,_,rfl,?_⟩
   rw [gl,List.take_length] at be
   rw [List.take_add_one,hg]
   simpa using be
 ·obtain ⟨s3,ol,op,o4,o5,o6,rfl,be⟩:=z
  rw [lu,List.take_length] at be
  rcases be with ⟨ec,_,_⟩ | ⟨pt,hpt,fpt,dpt,kpt⟩
  ·exfalso
   have ln:=iB eL
   cases L with
   | nil=>simp at ln
   | cons g r =>
    have n3:=(hk g List.mem_cons_self).1.n3
    rw [List.flatten_cons] at ec
    have e0:=(List.append_eq_nil_iff.mp ec).1
    rw [e0] at n3
    simp at n3
  ·refine ⟨_,rfl,_,rfl,_,rfl,(by show 3<=sizeLine;decide),λp9 hp9=>?_⟩
   have u:=ao hp9 (.tup [ol,op,vt])
   obtain ⟨g,hg,hpg⟩:=List.mem_flatten.mp hpt
   exact q p9 ol op vt pt X L _ ((s12.trans s3).trans u) ae (fpt.to u) (dpt.ts u.ts) (dt.ts ((s2.trans s3).trans u).ts) sm dp cu eL (λg hg=>kL g hg _ List.mem_cons_self) ⟨g,hg,hpg⟩ (λg hg c hc=>kpt c (List.mem_flatten.mpr ⟨g,hg,hc⟩))
end
noncomputable def di:List Tr->List Rw->List Rw×List Nat
 | [],rs=>(rs,[])
 | t::r,rs=>((di r (t.putR rs).1).1,(t.putR rs).2::(di r (t.putR rs).1).2)
theorem kM (x:Tr):∀(l:List Tr) (rs:List Rw),di (l++[x]) rs=((x.putR (di l rs).1).1,(di l rs).2++[(x.putR (di l rs).1).2])
 | [],rs=>rfl
 | t::r,rs=>by
  show ((di (r++[x]) (t.putR rs).1).1,(t.putR rs).2::(di (r++[x]) (t.putR rs).1).2)=_
  rw [kM x r]
  rfl
theorem As (t:Tr) (rs:List Rw):t.putR rs=aS (di t.kids rs).1 (dS t.word (di t.kids rs).2):=by cases t <;> rfl
theorem mQ:∀(l:List Tr) (rs:List Rw),(di l rs).1.length<=rs.length+bH l
 | [],rs=>by simp [di,bH]
 | t::r,rs=>by
  have h1:=iO t rs
  have h2:=mQ r (t.putR rs).1
  have e:bH (t::r)=t.size+bH r:=by simp [bH]
  show (di r (t.putR rs).1).1.length<=_
  omega
theorem pI:∀(l:List Tr) (rs:List Rw),(∀ x∈rs,nq x)->∀ x∈(di l rs).1,nq x
 | [],rs,h=>h
 | t::r,rs,h=>pI r _ (oq t rs h)
theorem rz:∀(l:List Tr) (rs:List Rw),(di l rs).2.length=l.length
 | [],rs=>rfl
 | t::r,rs=>congrArg (·+1) (rz r _)
theorem xg (l:List Tr) (i:Nat):bH (l.take i)<=bH l:=by
 have:bH l=bH (l.take i)+bH (l.drop i):=by rw [<- jT,List.take_append_drop]
 omega
noncomputable def Cp (n:Nat):Sp:=λvs H Q _=>∃(a:Addr) (t:Tr),vs=[.ref a]/\Tu H a t/\t.size<=n/\∀ H',aI H H'->Q (.int (t.nf:Int)) H'
theorem kids_nf (t:Tr):(if (t.kids.length+1:Nat)=3 then (1:Int) else 0)+(t.kids.map λx=>(x.nf:Int)).sum=(t.nf:Int):=by
 cases t with
 | no t=>rw [nf_no];simp [Tr.kids]
 | fold u a b=>rw [zp];simp [Tr.kids];omega
 | never=>rfl
 | always=>rfl
 | lp=>rfl
 | lq=>rfl
section
variable {P:Program} {w:World} {K:PySem.W.Frag} {mg:Str->Option Value} {base:Heap} {c:CCs}
theorem ok_nf50 (T:aD K mg "_law_folds" iN) (EM:mg "sum"=none) (fe:mg "int"=none) (bf:mg "len"=none):∀ n:Nat,Def P w K mg base (n+1) "_law_folds" ["_law_tree"] (Cp n):=by
 intro n
 induction n with
 | zero =>
  refine aN T kH (λ_ _ _ _ _ _=>L2.ar1 λ_=>rfl) (λvs H Q E h=>?_) (λf cdv A outer s H vs Q E hr h=>?_)
  ·obtain ⟨a,t,rfl,_⟩:=h
   rfl
  ·obtain ⟨a,t,rfl,_,z,_⟩:=h
   have:=t.size_pos
   omega
 | succ n jh =>
  refine aN T kH (λ_ _ _ _ _ _=>L2.ar1 λ_=>rfl) (λvs H Q E h=>?_) (λf cdv A outer s H vs Q E hr h=>?_)
  ·obtain ⟨a,t,rfl,_⟩:=h
   rfl
  obtain ⟨a,t,rfl,tu,hz,q⟩:=h
  have nd:=kH.nd
  obtain ⟨us,e,ou⟩:=tu.parts
  have ul:=ou.len
  refine ⟨_,(ak (av (aK bR (bV iV rfl fe (by decide +kernel) (aa (dP bQ (aB bz rfl bf (by decide +kernel) (aa (pv 0) af)) aq (aF _)) af)) (aB (Bs rfl) rfl EM (by decide +kernel) (aa (eT rfl (kN (jC om (pv 0) (lN aq) lO)) rfl (by decide +kernel) (by decide +kernel) rfl (show ∀ p∈Scope.names _,p.2=NameKind.free->List.lookup p.1 (ah iN).names=some .cell\/List.lookup p.1 (ah iN).names=some .free by decide +kernel) cR (show (["_law_part"]:List Str).Nodup by decide +kernel) (λ_ _ _ _=>dq) (λ_ _ _ _=>(aH jh (hr.mono (by omega)) rfl (aa (pv 0) af)))) af))))),?_⟩
  refine ⟨_,rfl,_,_,rfl,.inr ⟨_,SqT.of e,rfl⟩,rfl,.inr ⟨_,rfl,?_⟩⟩
  dsimp only [Ai,tOp,tC,tCB,eA,nM]
  refine iS ?_
  refine ⟨_,rfl,_,rfl,?_⟩
  dsimp only [lj]
  refine sl1 (K:=K) e λp hp=>?_
  refine ⟨p,rfl,⟨_,SqT.of ae⟩,?_⟩
  have sp:=ao hp (.tup us)
  refine rS (K:=K) (ts:=t.kids) (R:=TuV) (xs:=us) (λx=>.int (x.nf:Int)) (λ_ _ v t e h=>TuV.to (Kp.of e) v t h) (λl H'=>l=p/\H'=upd H p (.tup us)) (λR h=>h p _ ⟨rfl,rfl⟩) (λl H' h=>by obtain ⟨rfl,rfl⟩:=h;exact ⟨ae,aI.refl _⟩) (by rw [ul];have:=jJ t;omega)
   (ou.imp (TuV.to (Kp.of sp))) (λv x H' N hx hv hN=>?_) (λD H6 s6 hD eD=>?_)
  ·obtain ⟨b,rfl,tb⟩:=hv
   have:=pX hx
   exact ⟨_,rfl,b,x,rfl,tb,by omega,hN⟩
  ·refine ⟨D,t.kids.map λx=>(x.nf:Int),rfl,SqL.of (by rw [List.map_map];exact eD),_,_,rfl,rfl,?_⟩
   have ks:=kids_nf t
   have e1:(if decide (V.int (((V.str t.word::us).length:Nat):Int)=V.int 3)=true then (1:Int) else 0)=if t.kids.length+1=3 then (1:Int) else 0:=by
    rw [List.length_cons,ul]
    by_cases h3:t.kids.length+1=3
    ·rw [if_pos h3,h3,if_pos (by decide)]
    ·rw [if_neg h3,if_neg (λz=>h3 (by have:=V.int.inj (of_decide_eq_true z);omega))]
   try dsimp only
   rw [e1,ks]
   exact q _ (sp.trans s6)
noncomputable def Ck (K:PySem.W.Frag) (n:Nat):Sp:=λvs H Q _=>∃(a l:Addr) (t:Tr) (rs:List Rw) (us:List V),vs=[.ref a,.ref l]/\Tu H a t/\t.size<=n/\H l=some (.lst us)/\cC (RwV H) us rs/\rs.length+t.size<=1000/\(∀ x∈rs,nq x)/\
 ∀ H' us',SB (.ref l) H H'->H' l=some (.lst us')->cC (RwV H') us' (t.putR rs).1->Q (.int ((t.putR rs).2:Nat)) H'
theorem ok_rt50 (T:aD K mg "_law_rows_to" fV) (aP:mg "tuple"=none):∀ n:Nat,Def P w K mg base (n+1) "_law_rows_to" ["_law_tree","_law_rows"] (Ck K n):=by
 intro n
 induction n with
 | zero =>
  refine aN T iZ (λ_ _ _ _ _ _=>L2.ar2 λ_ _=>rfl) (λvs H Q E h=>?_) (λf cdv A outer s H vs Q E hr h=>?_)
  ·obtain ⟨a,l,t,rs,us,rfl,_⟩:=h
   rfl
  ·obtain ⟨a,l,t,rs,us,rfl,_,z,_⟩:=h
   have:=t.size_pos
   omega
 | succ n gY =>
  refine aN T iZ (λ_ _ _ _ _ _=>L2.ar2 λ_ _=>rfl) (λvs H Q E h=>?_) (λf cdv A outer s H vs Q E hr h=>?_)
  ·obtain ⟨a,l,t,rs,us,rfl,_⟩:=h
   rfl
  obtain ⟨a,l,t,rs,vs0,rfl,tu,hz,el,rv,hb,rok,q⟩:=h
  have nd:=iZ.nd
  have hu:=hr.units
  obtain ⟨us,e,ou⟩:=tu.parts
  refine ⟨_,(ag (lM (i:=2) nd rfl (Or.inl rfl) (Or.inl rfl) rfl rfl (kN (jC om (pv 0) (lN aq) lO)) rfl (by decide +kernel) (by decide +kernel) rfl (show ∀ p∈Scope.names _,p.2=NameKind.free->List.lookup p.1 (ah fV).names=some .cell\/List.lookup p.1 (ah fV).names=some .free by decide +kernel) (cI (j:=1) rfl (Or.inl rfl) (by decide +kernel) (Or.inl rfl) cR) (show (["_law_part","_law_rows"]:List Str).Nodup by decide +kernel) (λ_ _ _ _=>dq) (λ_ _ _ _=>(aH gY (hr.mono (by omega)) rfl (aa (pv 0) (aa (pv 1) af)))))
  (ag (aJ (i:=3) nd rfl (Or.inl rfl) (aK zk (bh (aa (aE az (pv 0) aq (λ_ _=>rfl)) af)) (bV bS rfl aP (by decide +kernel) (aa (pv 2) af))))
  (ag (aO (aC (Ax hu) (pv 3) (pv 1) rfl) (ak (bb (cD PySem.F.plainAttrs_list PySem.F.slot_list_append PySem.F.type_list_append aY (pv 1) (aa (pv 3) af)))) aG)
  (ak (av (cD PySem.F.plainAttrs_list PySem.F.slot_list_index PySem.F.type_list_index (Bb hu) (pv 1) (aa (pv 3) af))))))),?_⟩
  have ksz:=rJ t
  have kl:=jJ t
  have ul:=ou.len
  dsimp only [Ca,qV]
  refine iS ?_
  refine ⟨_,rfl,_,rfl,?_⟩
  dsimp only [lj]
  refine sl1 (K:=K) e λp hp=>?_
  refine ⟨p,rfl,⟨_,SqT.of ae⟩,?_⟩
  have sp:=ao hp (.tup us)
  have ep:upd H p (.tup us) p=some (.tup us):=ae
  generalize upd H p (.tup us)=H1 at sp ep ⊢
  have el1:=sp _ _ el
  refine wo (K:=K) (xs:=us) (λl' H'=>l'=p/\H'=H1) (λR h=>h p _ ⟨rfl,rfl⟩) (λl' H' h=>by obtain ⟨rfl,rfl⟩:=h;exact ep) (by omega)
   (λl' D i ys H'=>H1 D=none/\ys=(di (t.kids.take i) rs).2.map (λi:Nat=>V.int (i:Int))/\SB (.ref l) H1 H'/\∃ vs1,H' l=some (.lst vs1)/\cC (RwV H') vs1 (di (t.kids.take i) rs).1) (λl' H' D src hD=>?_) (λl' D i v ys H' hv nl el' eD h N hN=>?_) (λl' D ys H' el' eD h=>?_)
  ·obtain ⟨rfl,rfl⟩:=src
   have sD:=ao hD (.lst [])
   exact ⟨hD,rfl,SB.of sD,vs0,sD _ _ el1,rv.imp (RwV.to (Kp.of (sp.trans sD)))⟩
  ·obtain ⟨hD,rfl,sb,vs1,elv,rv1⟩:=h
   obtain ⟨x,hx,b,rfl,tb⟩:=ou.get i v hv
   have xm:x∈t.kids:=List.mem_of_getElem? hx
   have xs:=pX xm
   have kp:Kp H1 H':=sb.kp λa' o' z1 z2=>by cases z1;rw [el1] at z2;cases z2;rfl
   have pl:=mQ (t.kids.take i) rs
   have hsn:t.kids.take (i+1)=t.kids.take i++[x]:=by rw [List.take_add_one,hx];rfl
   have st:bH (t.kids.take (i+1))<=bH t.kids:=xg _ _
   have st2:bH (t.kids.take (i+1))=bH (t.kids.take i)+x.size:=by rw [hsn,jT];simp [bH]
   have nDl:D≠l:=λz=>by subst z;rw [hD] at el1;cases el1
   refine ⟨_,rfl,_,rfl,b,l,x,(di (t.kids.take i) rs).1,vs1,rfl,(tb.to (Kp.of sp)).to kp,by omega,elv,rv1,by omega,pI _ _ rok,λH2 vs2 sb2 el2 rv2=>?_⟩
   have ep2:=sb2 _ _ el' λz=>by cases z;rw [el'] at elv;cases elv
   have eD2:=sb2 _ _ eD λz=>nDl (by cases z;rfl)
   refine hN _ _ ep2 eD2 ⟨hD,?_,λd o z n=>?_,vs2,?_,?_⟩
   ·rw [hsn,kM,List.map_append]
    rfl
   ·rw [au (λy=>by subst y;rw [hD] at z;cases z)]
    exact sb2 _ _ (sb _ _ z n) n
   ·rw [au (Ne.symm nDl)]
    exact el2
   ·rw [hsn,kM]
    exact rv2.imp (RwV.to (gQ eD2 rfl))
  ·obtain ⟨hD,rfl,sb,vs1,el6,rv6⟩:=h
   rw [ul,List.take_length] at eD rv6
   have pl:=mQ t.kids rs
   have pc:=rz t.kids rs
   have pok:=pI t.kids rs rok
   have e6:H' a=some (.tup (.str t.word::us)):=sb _ _ (sp _ _ e) λz=>by cases z;rw [sp _ _ e] at el1;cases el1
   refine ⟨_,rfl,_,_,_,_,rfl,rfl,SqT.of e6,dD (j:=0) rfl,(by show 1<=sizeLine;decide),λr0 hr00=>?_⟩
   have sr:=ao hr00 (.tup [V.str t.word])
   refine ⟨_,rfl,D,_,rfl,.inl ⟨SqL.of (sr _ _ eD),λr1 hr1=>?_⟩⟩
   have sr1:=ao hr1 (.tup ((di t.kids rs).2.map λi:Nat=>V.int (i:Int)))
   refine wx (K:=K) (sr1 _ _ ae) ae (by simp) (by simp only [List.length_cons,List.length_nil,List.length_map];exact Nat.le_trans (show _<=5 by omega) (by decide)) λrw' H4 s4 e4=>?_
   have s14:=(sr.trans sr1).trans s4
   have e6':RwV H4 (.ref rw') (dS t.word (di t.kids rs).2):=⟨rw',rfl,by rw [sQ];exact e4⟩
   have sb06:SB (.ref l) H H4:=λd o z n=>s14 _ _ (sb _ _ (sp _ _ z) n)
   have el6:=s14 _ _ el6
   have rv6:=rv6.imp (RwV.to (Kp.of s14))
   have hr0:nq (dS t.word (di t.kids rs).2):=jb (word_ok t)
   have vl:=rv6.len
   have hput:=As t rs
   clear eD
   generalize dS t.word (di t.kids rs).2=r at e6' hr0 hput
   generalize (di t.kids rs).1=rs1 at *
   refine ⟨_,rfl,_,rfl,rwD r,rs1.map rwD,l,vs1,.inl e6'.dat,rfl,SqL.of el6,RwV.all rv6,sN pok,xo hr0,Nat.le_trans (mO _) (by decide),_,rfl,?_⟩
   rw [rws_any]
   have fin:∀(H7:Hp) (vs7:List V),SB (.ref l) H H7->H7 l=some (.lst vs7)->cC (RwV H7) vs7 (aS rs1 r).1->RwV H7 (.ref rw') r->∃ j,(aS rs1 r).2=j/\zd K (.ref l) [.ref rw'] H7 Q:=by
    intro H7 vs7 sb7 el7 rv7 e7
    refine ⟨_,rfl,l,vs7,.ref rw',(aS rs1 r).1.map rwD,rwD r,(aS rs1 r).2,rwD r,rfl,rfl,el7,RwV.all rv7,e7.dat,sN (jd pok hr0),xo hr0,Nat.le_trans (mO _) (by decide),?_,?_,?_,?_⟩
    ·rw [List.getElem?_map]
     unfold aS
     cases hx0:idx rs1 r with
     | some i=>exact congrArg (Option.map rwD) (xS hx0)
     | none=>show ((rs1++[r])[rs1.length]?).map rwD=_;simp
    ·rw [sO,decide_eq_true rfl]
    ·intro m x hm hx
     rw [List.getElem?_map] at hx
     obtain ⟨y,hy,rfl⟩:=Option.map_eq_some_iff.mp hx
     rw [sO,decide_eq_false_iff_not]
     unfold aS at hm hy
     cases hx0:idx rs1 r with
     | some i=>rw [hx0] at hm hy;exact rO hx0 m y hm hy
     | none =>
      rw [hx0] at hm hy
      have hm':m < rs1.length:=hm
      have hy':rs1[m]?=some y:=by
       have:=hy
       simp only [List.getElem?_append_left hm'] at this
       exact this
      intro z
      subst z
      exact vY hx0 (List.mem_of_getElem? hy')
    ·have:=q H7 vs7 sb7 el7 (by rw [hput];exact rv7)
     rw [hput] at this
     exact this
   cases hx0:idx rs1 r with
   | some i =>
    refine bB ?_
    have hp7:(aS rs1 r).1=rs1:=by unfold aS;rw [hx0]
    obtain ⟨_,_,g⟩:=fin H4 vs1 sb06 el6 (by rw [hp7];exact rv6) e6'
    exact ⟨_,rfl,.inl ⟨rfl,_,SqL.of el6⟩,_,rfl,g⟩
   | none =>
    refine dI ?_
    have hp7:(aS rs1 r).1=rs1++[r]:=by unfold aS;rw [hx0]
    refine ⟨_,rfl,.inl ⟨rfl,_,SqL.of el6⟩,_,rfl,l,_,_,rfl,rfl,el6,by rw [vl];exact Nat.lt_of_le_of_lt (show _<=1000 by omega) (by decide),?_⟩
    have km:Kp H4 (upd H4 l (.lst (vs1++[.ref rw']))):=gQ el6 rfl
    obtain ⟨_,_,g⟩:=fin (upd H4 l (.lst (vs1++[.ref rw']))) (vs1++[.ref rw']) (sb06.trans (jv _ _)) ae (by rw [hp7];exact (rv6.imp (RwV.to km)).app (.cons (RwV.to km _ _ e6') .nil)) (RwV.to km _ _ e6')
    exact ⟨_,rfl,.inl ⟨rfl,_,SqL.of ae⟩,_,rfl,g⟩
end
end Mine
namespace PySem
section
variable {prog:Program} {w:World} {A:Around} {E:Value->Shared->Prop} {s:Shared} {l:Addr} {xs:Array (Int×Tok)}
theorem xJ {Q:Value->Shared->Prop} (hh:A.handled=none) (hl:s.heap.IsTuple l (intItems xs)) (hne:0 < xs.size)
  (h:∀ v h' tk,(intItems xs)[argBest (λi j=>decide (numAt xs i < numAt xs j)) (xs.size - 1)]?=some v->(∀ b o,s.heap.get? b=some o->h'.get? b=some o)->Q v {s with heap:=h',toks:=tk}) :
  wpAny (model prog w) A (call (.builtin "min") [.ref l]) Q E s:=by
 have hlt:l < s.heap.objs.size:=by obtain ⟨_,e,_⟩:=hl;exact Heap.lt_size e
 refine call_min_walk (wpAny_pyIter_tuple hl ?_)
 refine ⟨_,[s.heap.objs.size,l],[s.heap.objs.size],_,_,_,_,rfl,Walks.tuple (A:=A.in1) hh _ l (Nat.ne_of_lt hlt) (intItems xs),⟨⟨_,Heap.get?_push_size _ rfl,rfl,rfl⟩,hl.push _⟩,(λb hb=>?_),by simpa [intItems] using hne,CmpOf.ints_lt (numAt xs) (λ_ _=>intItems_at),λv h' tk hP hk=>?_⟩
 ·show b < (s.heap.push _).objs.size
  rw [Heap.size_push]
  rcases List.mem_cons.mp hb with rfl | hb
  ·exact Nat.lt_succ_self _
  ·rcases List.mem_cons.mp hb with rfl | hb
   ·exact Nat.lt_succ_of_lt hlt
   ·cases hb
 ·exact h v h' tk (by simpa [intItems] using hP) (λb o e=>hk b o (λhm=>by
   rcases List.mem_cons.mp hm with e1 | hm
   ·exact absurd (e1 ▸ Heap.lt_size e) (Nat.lt_irrefl _)
   ·cases hm) (Heap.get?_push_of_some _ e))
theorem xM {Q:Value->Shared->Prop} (hh:A.handled=none) (hl:s.heap.IsTuple l (intItems xs)) (hne:0 < xs.size)
  (h:∀ v h' tk,(intItems xs)[argBest (λi j=>decide (numAt xs i > numAt xs j)) (xs.size - 1)]?=some v->(∀ b o,s.heap.get? b=some o->h'.get? b=some o)->Q v {s with heap:=h',toks:=tk}) :
  wpAny (model prog w) A (call (.builtin "max") [.ref l]) Q E s:=by
 have hlt:l < s.heap.objs.size:=by obtain ⟨_,e,_⟩:=hl;exact Heap.lt_size e
 refine call_max_walk (wpAny_pyIter_tuple hl ?_)
 refine ⟨_,[s.heap.objs.size,l],[s.heap.objs.size],_,_,_,_,rfl,Walks.tuple (A:=A.in1) hh _ l (Nat.ne_of_lt hlt) (intItems xs),⟨⟨_,Heap.get?_push_size _ rfl,rfl,rfl⟩,hl.push _⟩,(λb hb=>?_),by simpa [intItems] using hne,CmpOf.ints_gt (numAt xs) (λ_ _=>intItems_at),λv h' tk hP hk=>?_⟩
 ·show b < (s.heap.push _).objs.size
  rw [Heap.size_push]
  rcases List.mem_cons.mp hb with rfl | hb
  ·exact Nat.lt_succ_self _
  ·rcases List.mem_cons.mp hb with rfl | hb
   ·exact Nat.lt_succ_of_lt hlt
   ·cases hb
 ·exact h v h' tk (by simpa [intItems] using hP) (λb o e=>hk b o (λhm=>by
   rcases List.mem_cons.mp hm with e1 | hm
   ·exact absurd (e1 ▸ Heap.lt_size e) (Nat.lt_irrefl _)
   ·cases hm) (Heap.get?_push_of_some _ e))
end
end PySem
namespace L2
open PySem PySem.Spec PyProof.Rows
section
variable {X:Cx}
theorem Bt {K:PySem.W.Frag} (hk:X.K=K) (hc:X.calm=true):ft X (.builtin "min") (λxs H Q=>∃(l:Addr) (ns:List Int),xs=[.ref l]/\SqT K H l (ns.map V.int)/\0 < ns.length/\∀ M,M∈ns->(∀ a∈ns,M<=a)->Q (.int M) H):=by
 subst hk
 intro pins s σ H xs us Q I r h
 obtain ⟨l,ns,rfl,hq,hne,q⟩:=h
 obtain ⟨u,rfl,rx⟩:=vals1 r
 cases rx
 obtain ⟨its,rv,pl,_⟩:=I.tuple hq
 have hi:IntsAre its ns:=intsAre_of rv
 have hl:s.heap.IsTuple l its.toArray:=pl
 obtain ⟨ys,e⟩:=hi.allInts.items
 have en:ns=ys.toList.map (·.1):=by rw [<- hi.numsOf,<- nums_intItems,<- e]
 have sz:ns.length=ys.size:=by rw [en,List.length_map,Array.length_toList]
 rw [e] at hl
 refine xJ (I.ok.hd hc) hl (by omega) λv h' tk hv hk=>?_
 obtain ⟨t,rfl⟩:=intItems_at hv
 obtain ⟨h1,h2⟩:=argBest_lt (numAt ys) (ys.size - 1)
 refine ⟨.int _,H,I.kept hk,⟨t,rfl⟩,q _ ?_ λa ha=>?_⟩
 ·rw [numAt_eq,<- en];exact PySem.getD_mem (by omega)
 ·rw [en] at ha
  obtain ⟨j,hj,rfl⟩:=mem_getD ha
  rw [<- numAt_eq];exact h2 j (by rw [List.length_map,Array.length_toList] at hj;omega)
theorem Bu {K:PySem.W.Frag} (hk:X.K=K) (hc:X.calm=true):ft X (.builtin "max") (λxs H Q=>∃(l:Addr) (ns:List Int),xs=[.ref l]/\SqT K H l (ns.map V.int)/\0 < ns.length/\∀ M,M∈ns->(∀ a∈ns,a<=M)->Q (.int M) H):=by
 subst hk
 intro pins s σ H xs us Q I r h
 obtain ⟨l,ns,rfl,hq,hne,q⟩:=h
 obtain ⟨u,rfl,rx⟩:=vals1 r
 cases rx
 obtain ⟨its,rv,pl,_⟩:=I.tuple hq
 have hi:IntsAre its ns:=intsAre_of rv
 have hl:s.heap.IsTuple l its.toArray:=pl
 obtain ⟨ys,e⟩:=hi.allInts.items
 have en:ns=ys.toList.map (·.1):=by rw [<- hi.numsOf,<- nums_intItems,<- e]
 have sz:ns.length=ys.size:=by rw [en,List.length_map,Array.length_toList]
 rw [e] at hl
 refine xM (I.ok.hd hc) hl (by omega) λv h' tk hv hk=>?_
 obtain ⟨t,rfl⟩:=intItems_at hv
 obtain ⟨h1,h2⟩:=argBest_gt (numAt ys) (ys.size - 1)
 refine ⟨.int _,H,I.kept hk,⟨t,rfl⟩,q _ ?_ λa ha=>?_⟩
 ·rw [numAt_eq,<- en];exact PySem.getD_mem (by omega)
 ·rw [en] at ha
  obtain ⟨j,hj,rfl⟩:=mem_getD ha
  rw [<- numAt_eq];exact h2 j (by rw [List.length_map,Array.length_toList] at hj;omega)
end
end L2
namespace Mine
open PySem L2
theorem fld_u5 (u:W5) (n a b:Int):Hu.fld (u5 u) n a b=u.worth n a b:=by
 cases u <;> simp [u5,Hu.fld,W5.worth] <;> omega
theorem lL {g:List T3} {p:T3} (C:Hu.gZ g p):∀{t:Tr} {r:T3},rl g t=some r->t.worth p.u p.v p.w=Hu.tl r p
 | .never,r,h=>by cases h;rw [Hu.mn];rfl
 | .always,r,h=>by cases h;rw [Hu.mn];rfl
 | .lp,r,h=>by cases h;rw [Hu.mn];rfl
 | .lq,r,h=>by cases h;rw [Hu.mn];rfl
 | .no t,r,h=>by
  cases e:rl g t with
  | none=>rw [show rl g (.no t)=(rl g t).map λr=>Hu.mi Hu.al r from rfl,e] at h;cases h
  | some x =>
   rw [show rl g (.no t)=(rl g t).map λr=>Hu.mi Hu.al r from rfl,e] at h
   cases h
   rw [Hu.ku,Hu.lg,<- lL C e]
   rfl
 | .fold u a b,r,h=>by
  unfold rl at h
  cases e1:rl g a with
  | none=>rw [e1] at h;cases h
  | some x=>cases e2:rl g b with
   | none=>rw [e1,e2] at h;cases h
   | some y =>
    rw [e1,e2] at h
    have z:=Hu.eZ (rs:=[x,y]) (r:=.fd (u5 u) 0 1) h C
    rw [z]
    show u.worth p.u (a.worth p.u p.v p.w) (b.worth p.u p.v p.w)=Hu.fld (u5 u) p.u (Hu.tl x p) (Hu.tl y p)
    rw [fld_u5,lL C e1,lL C e2]
theorem sl1T {K:PySem.W.Frag} {H:Hp} {a:Addr} {x:V} {us:List V} {Q:VK} (e:SqT K H a (x::us)) (h:∀ p,H p=none->Q (.ref p) (upd H p (.tup us))):rSlA K (.ref a) (some 1) none H Q:=by
 refine ⟨a,_,rfl,e,λz=>?_,λ_ p=>?_⟩
 ·have hix0:_root_.HT.sIx (x::us).length 0 (some 1)=1:=by
   rw [show (some (1:Int))=some ((1:Nat):Int) from rfl,_root_.HT.sM,List.length_cons];omega
  exact absurd (hix0.symm.trans z) (by decide)
 ·intro hp'
  rw [cut1]
  exact h _ hp'
theorem Bw {xs:List V} (h:0 < xs.length):atI xs (-1)=xs[xs.length - 1]?:=by
 unfold atI ixN
 rw [if_neg (by decide),if_pos (by omega)]
 show xs[((-1:Int)+(xs.length:Nat)).toNat]?=_
 congr 1
 omega
theorem wW {r:T3} {l g:Hu.Tc} {h:List T3} {L:List (List T3)} (e:(Hu.Tc.cut r l g).told h=some L):¬Hu.gX r h/\∃ a b,l.told (Hu.low r h)=some a/\g.told (Hu.high r h)=some b/\L=a++b:=by
 by_cases n:Hu.gX r h
 ·unfold Hu.Tc.told at e
  rw [if_pos n] at e
  cases e
 ·rw [uo n] at e
  cases e1:l.told (Hu.low r h) with
  | none=>rw [e1] at e;cases e
  | some a=>cases e2:g.told (Hu.high r h) with
   | none=>rw [e1,e2] at e;cases e
   | some b=>rw [e1,e2] at e;cases e;exact ⟨n,a,b,rfl,rfl,rfl⟩
theorem wZ:∀ t:Hu.Tc,(tcD t).canLay0=true
 | .leaf=>by decide +kernel
 | .cut r l g=>by
  have h1:=wZ l
  have h2:=wZ g
  have h3:(t3D r).canLay0=true:=rfl
  have h4:(PyData.str "cut").canLay0=true:=by decide +kernel
  unfold tcD
  simp only [PyData.canLay0,PyData.canLayAll0,h1,h2,h3,Bool.and_true,Bool.true_and] at h4 ⊢
  exact h4
theorem oN:∀ t:Hu.Tc,(tcD t).depth<=t.deep+3
 | .leaf=>by decide +kernel
 | .cut r l g=>by
  have h1:=oN l
  have h2:=oN g
  have h3:(t3D r).depth<=2:=by simp [t3D,PyData.depth,PyData.depthAll]
  unfold tcD
  simp only [PyData.depth,PyData.depthAll,Hu.Tc.deep]
  omega
theorem Ah {t:Hu.Tc} (h:t.deep<=20):SeqAt.shaped (tcD t)=true:=by
 have:=oN t
 simp only [SeqAt.shaped,wZ,Bool.true_and]
 exact decide_eq_true (by omega)
theorem tc_ne (r:T3) (l g:Hu.Tc):PyData.eqv (tcD (.cut r l g)) (tcD .leaf)=false:=by
 unfold tcD
 simp [PyData.eqv,PyData.eqvAll]
noncomputable def oj:Sp:=λvs H Q _=>∃ i:Int,vs=[.int i]/\Q (.bl true) H
noncomputable def uL (K:PySem.W.Frag) (n:Nat):Sp:=λvs H Q _=>∃(x:V) (l:Addr) (us:List V) (t:Hu.Tc) (h:List T3) (L:List (List T3)),vs=[x,.ref l]/\H l=some (.lst us)/\DatAll K H (h.map t3D) us/\Hu.HK h/\t.Sm 64/\h.length+t.deep<=20/\t.deep+1<=n/\t.jf<=700/\Dat K H (tcD t) x/\t.told h=some L/\
 ∀(ll:Addr) (ws:List V) (H':Hp),aI H H'->H' ll=some (.lst ws)->cC (HuV K H') ws L->Q (.ref ll) H'
noncomputable def uM (K:PySem.W.Frag):Sp:=λvs H Q _=>∃(x:V) (l:Addr) (us:List V) (rows:List Hu.Row) (tp bt:Int) (t:Hu.Tc) (L:List (List T3)),vs=[x,.ref l,.int tp,.int bt]/\H l=some (.lst us)/\DatAll K H (rows.map lK) us/\kT rows/\0 < rows.length/\rows.length<=100/\Bg tp/\Bg bt/\t.Sm 64/\t.deep<=8/\t.jf<=700/\Dat K H (tcD t) x/\t.told Hu.sqH=some L/\
 (∀ g∈L,∃ rs,Hu.run g rows []=.rules rs/\∀ r,rs.getLast?=some r->∀ c∈g,tp*c.u<=Hu.tl r c*bt)/\∀ H',aI H H'->Q (.bl true) H'
noncomputable def spLFr (K:PySem.W.Frag):Sp:=λvs H Q _=>∃(v:V) (f:Int×Int),vs=[v]/\FrV K H v f/\0 < f.2/\Lo.gc f.1 f.2=1/\∀ H',aI H H'->Q (.bl true) H'
noncomputable def spLPt (K:PySem.W.Frag):Sp:=λvs H Q _=>∃(v:V) (p:T3),vs=[v]/\Dat K H (t3D p) v/\0 < p.u/\0<=p.v/\p.v<=p.u/\0<=p.w/\p.w<=p.u/\∀ H',aI H H'->Q (.bl true) H'
section
variable {P:Program} {w:World} {K:PySem.W.Frag} {mg:Str->Option Value} {base:Heap}
theorem pf:aA ["_law_found"] ["_law_found"] (ah mJ):=L2.fsc rfl (by decide +kernel)
theorem DC (T:aD K mg "_law_whole" mJ) (aL:mg "isinstance"=none) (fe:mg "int"=none) (nh:mg "bool"=none) (kb:PySem.W.kitOne K (.type "int") (.type "bool")=some false):Def P w K mg base 1 "_law_whole" ["_law_found"] oj:=by
 refine aN T pf (λ_ _ _ _ _ _=>L2.ar1 λ_=>rfl) (λvs H Q E h=>?_) (λf cdv A outer s H vs Q E hr h=>?_)
 ·obtain ⟨i,rfl,_⟩:=h
  rfl
 obtain ⟨i,rfl,q⟩:=h
 have nd:=pf.nd
 refine ⟨_,(ak (av (jD (aB jQ rfl aL (by decide +kernel) (aa (pv 0) (aa (fT (v:=V.ty "int") rfl fe (by decide +kernel) rfl) af))) (mS (Dt (aB jQ rfl aL (by decide +kernel) (aa (pv 0) (aa (fT (v:=V.ty "bool") rfl nh (by decide +kernel) rfl) af)))))))),?_⟩
 exact ⟨_,rfl,_,_,_,_,true,rfl,(λ_ h=>h),jg.int _,fX,_,rfl,dI ⟨_,rfl,_,_,_,_,false,rfl,(λ_ h=>h),jg.int _,kb,_,rfl,q⟩⟩
theorem yA {H1:Hp} {t D:Addr} {a b c:Int} {te:TE} {js:List Nat} {σ:St} {R:Hp->Prop} (st:SqT K H1 t [.int a,.int b,.int c]) (hD:H1 D=none)
  (step:∀(n:Int) (H':Hp) (k:VK),k (.bl true) H'->te (some (.int n)::bI js σ) H' k)
  (fin:∀ H',aI H1 H'->H' D=some (.lst ((List.replicate 3 true).map V.bl))->R H') :
  ∃ W:Nat->Nat->Hp->Prop,(∃ m,W 0 m (upd H1 D (.lst [])))/\∀ i m H2,W i m H2->((Itt K t).stop i H2/\R H2)\/
   ((
    Itt K t).go i H2/\∀ v H3,(Itt K t).yld i H2 v H3->ky (some v::bI js σ) H3 λb H4=>if b=true then te (some v::bI js σ) H4 λy H5 =>
    ∃ ys,H5 D=some (.lst ys)/\ys.length < sizeLine/\∃ m',m' < m/\W (i+1) m' (upd H5 D (.lst (ys++[y]))) else ∃ m',m' < m/\W (i+1) m' H4):=by
 refine ⟨λi m H2=>m=3 - i/\i<=3/\aI H1 H2/\H2 D=some (.lst ((List.replicate i true).map V.bl)),⟨_,rfl,Nat.zero_le _,ao hD _,ae⟩,?_⟩
 rintro i m H2 ⟨rfl,hi,sm,hlD⟩
 have sa2:=st.ts sm.ts
 by_cases hlt:i < 3
 ·refine .inr ⟨⟨_,_,sa2,List.getElem?_eq_getElem (show i < 3 from hlt)⟩,λv H3 y=>?_⟩
  obtain ⟨rfl,y⟩:=y
  have hv:∃ n:Int,v=.int n:=by
   have z:=y _ sa2
   rcases (show i=0\/i=1\/i=2 by omega) with rfl | rfl | rfl
   ·exact ⟨a,(Option.some.inj z).symm⟩
   ·exact ⟨b,(Option.some.inj z).symm⟩
   ·exact ⟨c,(Option.some.inj z).symm⟩
  obtain ⟨n,rfl⟩:=hv
  refine iC ?_
  refine step n _ _ ⟨_,hlD,aQ (by simp;omega),3 - (i+1),by omega,rfl,hlt,aU sm hD _,?_⟩
  rw [ae,List.replicate_succ',List.map_append]
  rfl
 ·have e:i=3:=by omega
  subst e
  exact .inl ⟨⟨_,sa2,Nat.le_refl _⟩,fin _ sm hlD⟩
theorem vC (T:aD K mg "_law_rules" mL) (wN:Def P w K mg base 2 "_law_rule" ["_law_row","_law_rules_here","_law_hull"] (yJ K)):Def P w K mg base 3 "_law_rules" ["_law_rows","_law_hull"] (uK K):=by
 refine aN T pq (λ_ _ _ _ _ _=>L2.ar2 λ_ _=>rfl) (λvs H Q E h=>?_) (λf cdv A outer s H vs Q E hr h=>?_)
 ·obtain ⟨l,lh,us,hs,rows,h,rfl,_⟩:=h
  rfl
 obtain ⟨l,lh,us,hs,rows,h,rfl,hl,da,ok,few,hlh,dh,bp,pos,hfew,q1,q2⟩:=h
 have nd:=pq.nd
 have lu:=zb da
 have d2:(2:Nat)<=sizeLine:=by decide
 refine ⟨_,(ag (aJ (i:=2) nd rfl (Or.inl rfl) (bF af))
  (ag (fD PassesOwn.never rfl (cQ (pv 0)) (aV (i:=3) nd rfl (Or.inl rfl)) (ag (sY (aH wN (hr.mono (by decide)) rfl (aa (pv 3) (aa (pv 2) (aa (pv 1) af)))) (jB rfl (bg (aV (i:=4) nd rfl (Or.inl rfl)) (bg (aV (i:=5) nd rfl (Or.inl rfl)) dO))))
  (ag (aO (aC jE (pv 4) bX (aF _)) (ak (av (bh (aa bX (aa (pv 5) af))))) aG)
  (ak (bb (cD PySem.F.plainAttrs_list PySem.F.slot_list_append PySem.F.type_list_append aY (pv 2) (aa (pv 4) af)))))))
  (ak (av (bh (aa (pv 2) (aa bX af))))))),?_⟩
 refine ⟨(by show 0<=sizeLine;decide),λlr hlr=>?_⟩
 have u0:=ao hlr (.lst [])
 refine ⟨_,rfl,l,rfl,⟨us,SqL.of (u0 _ _ hl)⟩,?_⟩
 refine gS (xs:=us) (λi σ H'=>i<=us.length/\aI H H'/\∃(ws:List V) (rs:List T3) (o3 o4 o5:Option V),σ=[some (.ref l),some (.ref lh),some (.ref lr),o3,o4,o5]/\H' lr=some (.lst ws)/\DatAll K H' (rs.map t3D) ws/\rs.length=i/\Hu.Rb rs/\Hu.run h rows []=Hu.run h (rows.drop i) rs)
  ⟨Nat.zero_le _,u0,[],[],_,_,_,rfl,ae,rfl,rfl,(λi x e=>by simp at e),rfl⟩ (λi σ H' _ z=>SqL.of (z.2.1 _ _ hl)) (λi v σ H' hv z=>?_) (fun σ H' z=>?_)
 ·obtain ⟨_,sm,ws,rs,o3,o4,o5,rfl,hr',dr,lrs,rb,er⟩:=z
  have hi:i < us.length:=(List.getElem?_eq_some_iff.mp hv).1
  obtain ⟨r,er',dv⟩:=zc (da.ts sm.ts) hv
  have okr:r.Ok rs.length:=by rw [lrs];exact ok i r er'
  have dp:rows.drop i=r::rows.drop (i+1):=by
   obtain ⟨g1,g2⟩:=List.getElem?_eq_some_iff.mp er'
   rw [<- g2]
   exact List.drop_eq_getElem_cons g1
  rw [dp] at er
  obtain ⟨cb,_,_⟩:=Hu.jP rb okr
  refine ⟨_,rfl,_,rfl,_,rfl,v,lr,lh,ws,hs,r,rs,h,rfl,dv,hr',dr,okr,rb,by omega,sm _ _ hlh,dh.ts sm.ts,bp,pos,hfew,λx u t H3 s3 ex du et=>?_,λex u t H3 s3 du et=>?_⟩
  ·refine ⟨t,_,rfl,SqT.of et,rfl,_,_,rfl,_,_,rfl,rfl,?_⟩
   obtain ⟨ua,rfl,su⟩:=dH du
   refine ⟨_,rfl,rfl,_,rfl,bB ?_⟩
   have m4:=sm.trans s3
   have hr4:=s3 _ _ hr'
   have lw:=il dr
   refine ⟨_,rfl,.inl ⟨rfl,_,SqL.of hr4⟩,_,rfl,lr,ws,_,rfl,rfl,hr4,aQ (by omega),?_⟩
   have t5:Tst H3 (upd H3 lr (.lst (ws++[.ref ua]))):=dF hr4
   refine ⟨hi,aU m4 hlr _,ws++[.ref ua],rs++[x],_,_,_,rfl,ae,?_,?_,Hu.sT rb (Hu.qq rb okr ex),?_⟩
   ·rw [List.map_append]
    exact ((dr.ts s3.ts).ts t5).snoc (du.ts t5)
   ·rw [List.length_append,lrs];rfl
   ·rw [er]
    show (match Hu.aX h (Hu.choice rs r) with | some x=>_ | none=>_)=_
    rw [ex]
  ·refine ⟨t,_,rfl,SqT.of et,rfl,_,_,rfl,_,_,rfl,rfl,?_⟩
   refine ⟨_,rfl,rfl,_,rfl,dI ?_⟩
   refine ⟨_,rfl,d2,λp hp=>?_⟩
   have u3:=ao hp (.tup [.non,u])
   refine q2 i (Hu.choice rs r).1 p u _ ((sm.trans s3).trans u3) ?_ (by omega) (by rw [<- lrs];exact cb) ae (du.ts u3.ts)
   rw [er]
   show (match Hu.aX h (Hu.choice rs r) with | some x=>_ | none=>_)=_
   rw [ex,lrs]
 ·obtain ⟨_,sm,ws,rs,o3,o4,o5,rfl,hr',dr,lrs,rb,er⟩:=z
  refine ⟨_,rfl,d2,λp hp=>?_⟩
  have u:=ao hp (.tup [.ref lr,.non])
  refine q1 rs p lr ws _ (sm.trans u) ?_ rb (by omega) ae (u _ _ hr') (dr.ts u.ts)
  rw [er,List.drop_eq_nil_of_le (by omega)]
  rfl
theorem AH (T:aD K mg "_law_hulls" iM) (aL:mg "isinstance"=none) (aP:mg "tuple"=none) (bf:mg "len"=none) (ma:mg "all"=none) (dZ:Def P w K mg base 1 "_law_whole" ["_law_found"] oj) (BN:Def P w K mg base 3 "_law_cut" ["_law_hull","_law_rule_here"] (Cr K)):∀ n:Nat,Def P w K mg base (n+4) "_law_hulls" ["_law_tree","_law_hull"] (uL K n):=by
 intro n
 induction n with
 | zero =>
  refine aN T kG (λ_ _ _ _ _ _=>L2.ar2 λ_ _=>rfl) (λvs H Q E h=>?_) (λf cdv A outer s H vs Q E hr h=>?_)
  ·obtain ⟨x,l,us,t,h,L,rfl,_⟩:=h
   rfl
  ·obtain ⟨x,l,us,t,h,L,rfl,_,_,_,_,_,z,_⟩:=h
   omega
 | succ n gD =>
  refine aN T kG (λ_ _ _ _ _ _=>L2.ar2 λ_ _=>rfl) (λvs H Q E h=>?_) (λf cdv A outer s H vs Q E hr h=>?_)
  ·obtain ⟨x,l,us,t,h,L,rfl,_⟩:=h
   rfl
  obtain ⟨x,l,us,t,h,L,rfl,el,da,hk,sm,hl,dn,cu,dx,eL,q⟩:=h
  have nd:=kG.nd
  have hu:=hr.units
  have n3:=hk.n3
  refine ⟨_,(ag (aO (aC (Dz hu) (pv 0) (bh (aa aM af)) (aF _)) (ak (av (bF (aa (pv 1) af)))) aG)
  (ag (aO (PW.pt (fW (dU (dj (aB gF rfl aL (by decide +kernel) (aa (pv 0) (aa (fT (v:=V.ty "tuple") rfl aP (by decide +kernel) rfl) af))))) (fW (aC lS (aB bz rfl bf (by decide +kernel) (aa (pv 0) af)) aq (aF _)) (fW (aC lS (aE az (pv 0) aq (λ_ _=>rfl)) aM (aF _)) (gN (dU (dj (aB gF rfl aL (by decide +kernel) (aa (aE az (pv 0) aq (λ_ _=>rfl)) (aa (fT (v:=V.ty "tuple") rfl aP (by decide +kernel) rfl) af)))))))))) (ak (av bX)) aG)
  (ag (aO (PW.pt (fW (aC lS (aB bz rfl bf (by decide +kernel) (aa (aE az (pv 0) aq (λ_ _=>rfl)) af)) aq (aF _)) (gN (dU (dj (aB (qt rfl) rfl ma (by decide +kernel) (aa (eT rfl (kN (aE az (pv 0) aq (λ_ _=>rfl))) rfl (by decide +kernel) (by decide +kernel) rfl (show ∀ p∈Scope.names _,p.2=NameKind.free->List.lookup p.1 (ah iM).names=some .cell\/List.lookup p.1 (ah iM).names=some .free by decide +kernel) cR (show (["_law_number"]:List Str).Nodup by decide +kernel) (λ_ _ _ _=>dq) (λ_ _ _ _=>(aH dZ (hr.mono (by omega)) rfl (aa (pv 0) af)))) af))))))) (ak (av bX)) aG)
  (ag (aJ (i:=2) nd rfl (Or.inl rfl) (aH BN (hr.mono (by omega)) rfl (aa (pv 1) (aa (aE az (pv 0) aq (λ_ _=>rfl)) af))))
  (ag (aO (aC jE (pv 2) bX (aF _)) (ak (av bX)) aG)
  (ag (aJ (i:=3) nd rfl (Or.inl rfl) (aH gD (hr.mono (by omega)) rfl (aa (aE az (pv 0) aq (λ_ _=>rfl)) (aa (aE az (pv 2) aq (λ_ _=>rfl)) af))))
  (ag (aJ (i:=4) nd rfl (Or.inl rfl) (aH gD (hr.mono (by omega)) rfl (aa (aE az (pv 0) aq (λ_ _=>rfl)) (aa (aE az (pv 2) aq (λ_ _=>rfl)) af))))
  (ag (aO (PW.pt (fW (aC jE (pv 3) bX (aF _)) (gN (aC jE (pv 4) bX (aF _))))) (ak (av bX)) aG)
  (ak (av (aK op_cat (pv 3) (pv 4)))))))))))),?_⟩
  cases t with
  | leaf =>
   refine ⟨_,rfl,(by show 1<=sizeLine;decide),λp2 hp2=>?_⟩
   have u2:=ao hp2 (.tup [V.str "leaf"])
   have dl:Dat K (upd H p2 (.tup [V.str "leaf"])) (tcD .leaf) (.ref p2):=mr (SqT.of ae)
   refine ⟨_,_,.inl (dx.ts u2.ts),.inl dl,(by decide +kernel),(by decide +kernel),?_⟩
   rw [show PyData.eqv (tcD .leaf) (tcD .leaf)=true from by decide +kernel]
   refine ⟨_,rfl,dI ?_⟩
   refine ⟨_,rfl,(by show 1<=sizeLine;decide),λll hll=>?_⟩
   have u:=ao hll (.lst [.ref l])
   cases eL
   exact q ll [.ref l] _ (u2.trans u) ae (.cons ⟨l,us,rfl,(u2.trans u) _ _ el,da.ts (u2.trans u).ts⟩ .nil)
  | cut r t1 t2 =>
   obtain ⟨a,x1,y1,z1,rfl,sq,d1,d2,d3⟩:=BX dx
   obtain ⟨ta,rfl,sqt⟩:=dH d1
   obtain ⟨nc,L1,L2,e1,e2,rfl⟩:=wW eL
   refine ⟨_,rfl,(by show 1<=sizeLine;decide),λp2 hp2=>?_⟩
   have u2:=ao hp2 (.tup [V.str "leaf"])
   have dl:Dat K (upd H p2 (.tup [V.str "leaf"])) (tcD .leaf) (.ref p2):=mr (SqT.of ae)
   refine ⟨_,_,.inl (dx.ts u2.ts),.inl dl,Ah (by omega),(by decide +kernel),?_⟩
   rw [tc_ne]
   refine ⟨_,rfl,bB ?_⟩
   generalize upd H p2 (.tup [V.str "leaf"])=H0 at u2 ⊢
   have sq0:=sq.ts u2.ts
   refine ⟨_,rfl,a,_,_,_,true,rfl,(λ_ h=>h),sq0,fX,_,rfl,bB ?_⟩
   refine ⟨_,rfl,_,_,rfl,.inr ⟨_,sq0,rfl⟩,rfl,_,rfl,bB ?_⟩
   refine ⟨_,rfl,_,_,_,_,rfl,rfl,sq0,rfl,rfl,_,rfl,bB ?_⟩
   refine ⟨_,rfl,_,_,_,_,rfl,rfl,sq0,rfl,ta,_,_,_,true,rfl,(λ_ h=>h),sqt.ts u2.ts,fX,_,rfl,bB ?_⟩
   refine ⟨_,rfl,_,_,_,_,rfl,rfl,sq0,rfl,_,_,rfl,.inr ⟨_,sqt.ts u2.ts,rfl⟩,rfl,_,rfl,bB ?_⟩
   refine ⟨_,rfl,_,_,_,_,rfl,rfl,sq0,rfl,ta,rfl,⟨_,sqt.ts u2.ts⟩,λD hD=>?_⟩
   refine yA (K:=K) (sqt.ts u2.ts) hD (λn H' k z=>⟨_,rfl,n,rfl,z⟩) (λH1 s1' hlD=>?_)
   have s1:=u2.trans s1'
   refine ⟨D,List.replicate 3 true,rfl,SqL.of hlD,_,rfl,bB ?_⟩
   have dp:max t1.deep t2.deep+1+h.length<=20:=by simp only [Hu.Tc.deep] at hl;omega
   have dn':max t1.deep t2.deep+1+1<=n+1:=dn
   have cu':1+t1.jf+t2.jf<=700:=cu
   refine ⟨_,rfl,_,rfl,_,_,_,_,rfl,rfl,sq.ts s1.ts,rfl,l,.ref ta,us,h,r,rfl,s1 _ _ el,da.ts s1.ts,d1.ts s1.ts,hk.hull.mono (by decide) (by omega),sm.1.mono (by decide),λz=>absurd z nc,λ_ v2 H2 s2' cr=>?_⟩
   obtain ⟨t2',la,lb,us1,us2,rfl,nab,fa,fb,sqp,ea,eb,da1,da2⟩:=cr
   have s2:=s1.trans s2'
   have C:=Hu.jf hk sm.1 nc
   have c1:=C.ll
   have c2:=C.lh
   refine ⟨_,rfl,rfl,_,rfl,bB ?_⟩
   refine ⟨_,rfl,_,_,_,_,rfl,rfl,sq.ts s2.ts,rfl,_,rfl,_,_,_,_,rfl,rfl,sqp,rfl,y1,la,us1,t1,_,L1,rfl,ea,da1,C.lo,sm.2.1,by omega,by omega,by omega,d2.ts s2.ts,e1,λl1 w1 H3 s3' el1 al1=>?_⟩
   have s3:=s2.trans s3'
   refine ⟨_,rfl,_,_,_,_,rfl,rfl,sq.ts s3.ts,rfl,_,rfl,_,_,_,_,rfl,rfl,sqp.ts s3'.ts,rfl,z1,lb,us2,t2,_,L2,rfl,s3' _ _ eb,da2.ts s3'.ts,C.hi,sm.2.2,by omega,by omega,by omega,d3.ts s3.ts,e2,λl2 w2 H4 s4 el2 al2=>?_⟩
   refine ⟨_,rfl,rfl,_,rfl,bB ⟨_,rfl,rfl,_,rfl,bB ?_⟩⟩
   have k1:=iB e1
   have k2:=iB e2
   have lw1:=al1.len
   have lw2:=al2.len
   refine ⟨_,rfl,_,rfl,l1,l2,w1,w2,rfl,rfl,s4 _ _ el1,el2,Nat.le_of_lt (aQ (by omega)),λl3 h3=>?_⟩
   have u3:=ao h3 (.lst (w1++w2))
   exact q l3 _ _ ((s3.trans s4).trans u3) ae ((al1.imp (HuV.to (s4.trans u3))).app (al2.imp (HuV.to u3)))
end
section
variable {P:Program} {w:World} {K:PySem.W.Frag} {mg:Str->Option Value} {base:Heap} {c:CCs}
theorem yT:aA ["_law_cells"] ["_law_cells"] (ah sNext):=L2.fsc rfl (by decide +kernel)
theorem ok_next (T:aD K mg "_law_next" sNext) (bf:mg "len"=none):Def P w K mg base 1 "_law_next" ["_law_cells"] sA:=by
 refine aN T yT (λ_ _ _ _ _ _=>L2.ar1 λ_=>rfl) (λvs H Q E h=>?_) (λf cdv A outer s H vs Q E hr h=>?_)
 ·obtain ⟨l,ms,rfl,_⟩:=h
  rfl
 obtain ⟨l,ms,rfl,e,hc,q⟩:=h
 have nd:=yT.nd
 refine ⟨_,(ag (aO (aC bQ (aB bz rfl bf (by decide +kernel) (aa (pv 0) af)) aq (aF _)) (ak (av aq)) aG)
  (ak (av (cD PySem.F.plainAttrs_list PySem.F.slot_list_pop PySem.F.type_list_pop DU (pv 0) (ia af))))),?_⟩
 refine ⟨_,rfl,_,_,rfl,.inl ⟨_,SqL.of e,rfl⟩,rfl,_,rfl,?_⟩
 refine dB (λz=>?_) (λz=>?_)
 ·exact q 0 ms H cel0 hc (SB.refl _ _) e
 ·cases ms with
  | nil=>exact absurd (decide_eq_true rfl) z
  | cons m r =>
   refine ⟨_,rfl,.inl ⟨rfl,_,SqL.of e⟩,l,_,0,0,V.int m,rfl,rfl,e,by decide,by decide,seqIndex_of (Int.le_refl 0) (by rw [List.length_map,List.length_cons];omega),rfl,?_⟩
   exact q m r _ (hc m (by simp)) (λn hn=>hc n (List.mem_cons_of_mem _ hn)) (jv _ _) ae
end
section
variable {P:Program} {w:World} {K:PySem.W.Frag} {mg:Str->Option Value} {base:Heap} {c:CCs}
theorem vi:aA ["_law_word","_law_n","_law_one","_law_other"] ["_law_word","_law_n","_law_one","_law_other"] (ah CI):=L2.fsc rfl (by decide +kernel)
theorem DO (T:aD K mg "_law_fold" CI) (bN:mg "min"=none) (bZ:mg "max"=none):Def P w K mg base 1 "_law_fold" ["_law_word","_law_n","_law_one","_law_other"] yL:=by
 refine aN T vi (λ_ _ _ _ _ _=>L2.ar4 λ_ _ _ _=>rfl) (λvs H Q E h=>?_) (λf cdv A outer s H vs Q E hr h=>?_)
 ·obtain ⟨u,n,x,y,rfl,_⟩:=h
  rfl
 obtain ⟨u,n,x,y,rfl,q⟩:=h
 have nd:=vi.nd
 refine ⟨_,(ag (aO (aC bQ (pv 0) aM (aF _)) (ak (av (aB (fK rfl) rfl bN (by decide +kernel) (aa (pv 1) (aa (aK bR (pv 2) (pv 3)) af))))) aG)
  (ag (aO (aC bQ (pv 0) aM (aF _)) (ak (av (aB (iU rfl) rfl bZ (by decide +kernel) (ia (aa (aK eU (aK bR (pv 2) (pv 3)) (pv 1)) af))))) aG)
  (ag (aO (aC bQ (pv 0) aM (aF _)) (ak (av (aB (iU rfl) rfl bZ (by decide +kernel) (aa (pv 2) (aa (pv 3) af))))) aG)
  (ag (aO (aC bQ (pv 0) aM (aF _)) (ak (av (aB (fK rfl) rfl bN (by decide +kernel) (aa (pv 2) (aa (pv 3) af))))) aG)
  (ak (av (aB (fK rfl) rfl bN (by decide +kernel) (aa (pv 1) (aa (aK bR (aK eU (pv 1) (pv 2)) (pv 3)) af))))))))),?_⟩
 cases u with
 | more =>
  refine ⟨_,rfl,rfl,_,rfl,ite_yes rfl ⟨_,rfl,_,rfl,_,rfl,_,_,rfl,rfl,_,_,rfl,?_⟩⟩
  rw [je,Int.min_comm]
  exact q
 | less =>
  refine ⟨_,rfl,rfl,_,rfl,ite_no (by decide +kernel) ⟨_,rfl,rfl,_,rfl,ite_yes rfl ⟨_,rfl,_,rfl,_,_,rfl,rfl,_,rfl,_,_,rfl,rfl,_,_,rfl,?_⟩⟩⟩
  rw [kP,Int.max_comm]
  exact q
 | greater =>
  refine ⟨_,rfl,rfl,_,rfl,ite_no (by decide +kernel) ⟨_,rfl,rfl,_,rfl,ite_no (by decide +kernel) ⟨_,rfl,rfl,_,rfl,ite_yes rfl ⟨_,rfl,_,rfl,_,_,rfl,?_⟩⟩⟩⟩
  rw [kP]
  exact q
 | lesser =>
  refine ⟨_,rfl,rfl,_,rfl,ite_no (by decide +kernel) ⟨_,rfl,rfl,_,rfl,ite_no (by decide +kernel) ⟨_,rfl,rfl,_,rfl,ite_no (by decide +kernel) ⟨_,rfl,rfl,_,rfl,ite_yes rfl ⟨_,rfl,_,rfl,_,_,rfl,?_⟩⟩⟩⟩⟩
  rw [je]
  exact q
 | leads =>
  refine ⟨_,rfl,rfl,_,rfl,ite_no (by decide +kernel) ⟨_,rfl,rfl,_,rfl,ite_no (by decide +kernel) ⟨_,rfl,rfl,_,rfl,ite_no (by decide +kernel) ⟨_,rfl,rfl,_,rfl,ite_no (by decide +kernel) ⟨_,rfl,_,rfl,_,rfl,_,_,rfl,rfl,_,rfl,_,_,rfl,rfl,_,_,rfl,?_⟩⟩⟩⟩⟩
  rw [je,Int.min_comm]
  exact q
end
section
variable {P:Program} {w:World} {K:PySem.W.Frag} {mg:Str->Option Value} {base:Heap} {c:CCs}
theorem uZ:aA vQ ["_law_script","_law_least"] (ah sL):=L2.fsc rfl (by decide +kernel)
theorem DJ (T:aD K mg "_law_mixed" sL) (bf:mg "len"=none) (bZ:mg "max"=none) (bN:mg "min"=none) (kj:mg "range"=none) (ff:mg "abs"=none) (fe:mg "int"=none):Def P w K mg base 1 "_law_mixed" ["_law_script","_law_least"] (yH K):=by
 refine aN T uZ (λ_ _ _ _ _ _=>L2.ar2 λ_ _=>rfl) (λvs H Q E h=>?_) (λf cdv A outer s H vs Q E hr h=>?_)
 ·obtain ⟨a,ns,k,rfl,_⟩:=h
  rfl
 obtain ⟨a,ns,k,rfl,S,k0,k1,q⟩:=h
 have nd:=uZ.nd
 have hlen:=S.few
 have tail:∃ t,PSs (cS CX0 P w K mg base vQ "_law_mixed" (ah sL) f cdv A outer s H E).nox ((bu sL).drop 1) t/\∀ b:Bool,t {nx:=λ_ H'=>Q .non H',rt:=Q} [some (.ref a),some (.int k),some (.bl b),none,none,none] H:=by
  refine ⟨_,(ag (aJ (i:=3) nd rfl (Or.inl rfl) (bF af))
  (ag (fD PassesOwn.never rfl (rA rfl kj (aa (aB (iU rfl) rfl bZ (by decide +kernel) (aa (aK bR (pv 1) aq) (aa (aB (fK rfl) rfl bN (by decide +kernel) (ia (aa (aB bz rfl bf (by decide +kernel) (aa (pv 0) af)) af))) af))) af)) (aV (i:=4) nd rfl (Or.inl rfl)) (ag (aJ (i:=5) nd rfl (Or.inl rfl) aq)
  (ag (aO (aC lT (pv 4) (aB bz rfl bf (by decide +kernel) (aa (pv 0) af)) (aF _)) (ak (aJ (i:=5) nd rfl (Or.inl rfl) (aE bL (pv 0) (pv 4) (λ_ _=>rfl)))) aG)
  (ak (aO (PW.pt (xq (pJ (pv 2) (λ_=>rfl)) (sW (Dk lT lT aq (pv 4) (aB bz rfl bf (by decide +kernel) (aa (pv 0) af)))))) (ak (bb (cD PySem.F.plainAttrs_list PySem.F.slot_list_append PySem.F.type_list_append aY (pv 3) (aa (aB fc rfl ff (by decide +kernel) (aa (pv 5) af)) af)))) (ak (bb (cD PySem.F.plainAttrs_list PySem.F.slot_list_append PySem.F.type_list_append aY (pv 3) (aa (aK gp (aK bE (aK gp (aK bR (aK bE (aK gp (pv 5) (aK op_pow aq aq)) aq) (aK bE aq (aK bR (pv 4) aq))) aq) aq) aq) af)))))))))
  (ak (av (jC sl_list (pv 3) (lN (bV iV rfl fe (by decide +kernel) (aa (pv 2) af))) lO))))),?_⟩
  intro b
  refine ⟨(by show 0<=sizeLine;decide),λD hD=>?_⟩
  refine ⟨_,rfl,_,_,rfl,rfl,_,rfl,_,_,rfl,.inl ⟨_,(ao hD _).seq S.l,rfl⟩,_,_,rfl,_,_,rfl,_,rfl,?_,?_,?_⟩
  ·rw [je,kP,List.length_map];omega
  ·rw [je,kP,List.length_map];omega
  rw [je,kP,List.length_map]
  have hN:(max (k+1) (min 63 (ns.length:Int))).toNat<=1000:=by omega
  refine rR (λi σ H2=>∃(ms:List Int) (o4 o5:Option V),σ=[some (.ref a),some (.int k),some (.bl b),some (.ref D),o4,o5]/\aI H H2/\H2 D=some (.lst (ms.map V.int))/\ms.length=i/\∀ m∈ms,Cel m)
   ⟨[],_,_,rfl,ao hD _,ae,rfl,λ_ h=>nomatch h⟩ (λi σ H2 hi h=>?_) (fun σ H2 h=>?_)
  ·obtain ⟨ms,o4,o5,rfl,sm,e,hm,hc⟩:=h
   have S2:=S.to sm
   have next:∀ v:Int,Cel v->∀ z:Int,∃(ms':List Int) (o4 o5:Option V),[some (V.ref a),some (.int k),some (.bl b),some (.ref D),some (.int (0+(i:Int))),some (.int z)]=[some (V.ref a),some (.int k),some (.bl b),some (.ref D),o4,o5]/\aI H (upd H2 D (.lst (ms.map V.int++[V.int v])))/\
     upd H2 D (.lst (ms.map V.int++[V.int v])) D=some (.lst (ms'.map V.int))/\ms'.length=i+1/\∀ m∈ms',Cel m:=λv cv z=>by
    refine ⟨ms++[v],_,_,rfl,λd o zz=>?_,by rw [ae,List.map_append];rfl,by rw [List.length_append,hm];rfl,λm hm'=>?_⟩
    ·rw [au (aw zz hD)];exact sm d o zz
    ·rcases List.mem_append.mp hm' with zz | zz
     ·exact hc m zz
     ·have:m=v:=by simpa using zz
      rw [this];exact cv
   have ml:(ms.map V.int).length < sizeLine:=by rw [List.length_map,hm];exact Nat.lt_of_lt_of_le hi (Nat.le_trans hN (by decide))
   have lenV:∃ xs,SqL K H2 a xs/\(ns.length:Nat)=xs.length:=⟨_,S2.l,(List.length_map _).symm⟩
   refine ⟨_,rfl,_,rfl,_,ns.length,rfl,.inl lenV,_,_,rfl,rfl,_,rfl,?_⟩
   have cellOk:∃ z:Int,Builtin.Int.intBits z<=1048576/\(decide ((0+(i:Int)) < (ns.length:Int))=true->atI (ns.map V.int) (0+(i:Int))=some (V.int z))/\(¬decide ((0+(i:Int)) < (ns.length:Int))=true->z=0):=by
    by_cases hlt:i < ns.length
    ·refine ⟨ns[i],S.bit _ (List.getElem_mem hlt),λ_=>?_,λz=>absurd (decide_eq_true (by omega)) z⟩
     rw [Int.zero_add]
     exact dD (by rw [List.getElem?_map,List.getElem?_eq_getElem hlt];rfl)
    ·exact ⟨0,by decide,λz=>absurd (of_decide_eq_true z) (by omega),λ_=>rfl⟩
   obtain ⟨z,hz,hz1,hz2⟩:=cellOk
   refine dB (λg=>?a) (λg=>?b)
   case' a=>refine ⟨_,rfl,_,rfl,_,_,_,_,rfl,rfl,S2.l,hz1 g,?_⟩
   case' b=>have ez:=hz2 g;subst ez
   all_goals
    cases b with
    | false =>
     refine ⟨_,rfl,false,rfl,bB (bB ?_)⟩
     refine ⟨_,rfl,.inl ⟨rfl,_,SqL.of e⟩,_,rfl,_,_,rfl,rfl,⟨by decide,by decide,by decide⟩,_,_,rfl,rfl,(show (0:Int) < 10 ^ (Int.toNat 18) by decide +kernel),_,_,rfl,rfl,eV (by decide +kernel),_,rfl,_,_,rfl,rfl,_,_,rfl,rfl,pQ (by decide +kernel),_,_,rfl,rfl,_,_,rfl,rfl,(show (0:Int) < 2147483647 by decide),_,_,rfl,rfl,eV (by decide +kernel),_,_,rfl,rfl,(show (0:Int) < 2147483629 by decide),D,_,_,rfl,rfl,e,ml,?_⟩
     exact next _ (ng (Int.emod_nonneg _ (by decide)) (Int.lt_trans (Int.emod_lt_of_pos _ (by decide)) (by decide))) _
    | true =>
     refine ⟨_,rfl,true,rfl,dI ?_⟩
     refine ⟨_,rfl,_,_,rfl,rfl,_,rfl,?_⟩
     refine dB (λg1=>?_) (λg1=>?_)
     ·refine ⟨_,rfl,_,ns.length,rfl,.inl lenV,_,_,rfl,rfl,_,rfl,?_⟩
      refine dB (λg2=>?_) (λg2=>?_)
      ·refine ⟨_,rfl,.inl ⟨rfl,_,SqL.of e⟩,_,rfl,_,rfl,D,_,_,rfl,rfl,e,ml,?_⟩
       exact next _ (cel_abs hz) _
      ·refine ⟨_,rfl,.inl ⟨rfl,_,SqL.of e⟩,_,rfl,_,_,rfl,rfl,⟨by decide,by decide,by decide⟩,_,_,rfl,rfl,(show (0:Int) < 10 ^ (Int.toNat 18) by decide +kernel),_,_,rfl,rfl,eV (by decide +kernel),_,rfl,_,_,rfl,rfl,_,_,rfl,rfl,pQ (by decide +kernel),_,_,rfl,rfl,_,_,rfl,rfl,(show (0:Int) < 2147483647 by decide),_,_,rfl,rfl,eV (by decide +kernel),_,_,rfl,rfl,(show (0:Int) < 2147483629 by decide),D,_,_,rfl,rfl,e,ml,?_⟩
       exact next _ (ng (Int.emod_nonneg _ (by decide)) (Int.lt_trans (Int.emod_lt_of_pos _ (by decide)) (by decide))) _
     ·refine ⟨_,rfl,bB ?_⟩
      refine ⟨_,rfl,.inl ⟨rfl,_,SqL.of e⟩,_,rfl,_,_,rfl,rfl,⟨by decide,by decide,by decide⟩,_,_,rfl,rfl,(show (0:Int) < 10 ^ (Int.toNat 18) by decide +kernel),_,_,rfl,rfl,eV (by decide +kernel),_,rfl,_,_,rfl,rfl,_,_,rfl,rfl,pQ (by decide +kernel),_,_,rfl,rfl,_,_,rfl,rfl,(show (0:Int) < 2147483647 by decide),_,_,rfl,rfl,eV (by decide +kernel),_,_,rfl,rfl,(show (0:Int) < 2147483629 by decide),D,_,_,rfl,rfl,e,ml,?_⟩
      exact next _ (ng (Int.emod_nonneg _ (by decide)) (Int.lt_trans (Int.emod_lt_of_pos _ (by decide)) (by decide))) _
  ·obtain ⟨ms,o4,o5,rfl,sm,e,hm,hc⟩:=h
   refine ⟨_,rfl,_,rfl,.inr ⟨b,rfl,_,rfl,D,_,rfl,SqL.of e,λp hp=>?_⟩⟩
   obtain ⟨ms',em,hm'⟩:=cut_int ms (some (if b then 1 else 0)) none
   rw [em]
   have np:H p=none:=sm.free hp
   exact q p ms' _ (λd o zz=>by rw [au (aw zz np)];exact sm d o zz) np ae λm h=>hc m (hm' m h)
 obtain ⟨t1,ht1,hq1⟩:=tail
 refine ⟨_,ag (aJ (i:=2) nd rfl (Or.inl rfl) (jD (dP jF (aB bz rfl bf (by decide +kernel) (aa (pv 0) af)) aq (aF _)) (mS (dP bQ (aK gp (aE bL (pv 0) aq (λ_ _=>rfl)) aq) aq (aF _))))) ht1,?_⟩
 refine ⟨_,rfl,_,ns.length,rfl,.inl ⟨_,S.l,(List.length_map _).symm⟩,_,_,rfl,rfl,_,rfl,?_⟩
 refine dB (λg=>?_) (λg=>?_)
 ·cases ns with
  | nil=>exact absurd (of_decide_eq_true g) (by decide)
  | cons n r=>exact ⟨_,rfl,_,_,_,_,rfl,rfl,S.l,dD (j:=0) rfl,_,_,rfl,rfl,(show (0:Int) < 2 by decide),rfl,hq1 _⟩
 ·exact hq1 false
end
theorem zV {K:PySem.W.Frag} {H:Hp}:∀{h:List T3} {us:List V},DatAll K H (h.map t3D) us->cC (λv p=>Dat K H (t3D p) v) us h
 | [],_,g=>by cases (show _=([]:List V) from g);exact .nil
 | p::h,us,g=>by
  obtain ⟨v,r,rfl,d,g2⟩:=g
  exact .cons d (zV g2)
noncomputable def yM:Sp:=λvs H Q _=>∃(l:Addr) (ms:List Int) (r m:Int),vs=[.ref l,.int r,.int m]/\H l=some (.lst (ms.map V.int))/\(∀ m∈ms,Cel m)/\1<=r/\r<=60/\0<=m/\
 ∀(a:Addr) (t:Tr) (ms':List Int) (H':Hp),(t.size:Int)<=r->(t.nf:Int)<=m->(∀ m∈ms',Cel m)->SB (.ref l) H H'->H' l=some (.lst (ms'.map V.int))->Tu H' a t->Q (.ref a) H'
section
variable {P:Program} {w:World} {K:PySem.W.Frag} {mg:Str->Option Value} {base:Heap}
theorem AI (T : aD K mg "_law_holds" s_l_holds) (bN : mg "min" = none) (gD : Def P w K mg base 13 "_law_hulls" ["_law_tree", "_law_hull"] (uL K 9)) (wJ : Def P w K mg base 3 "_law_rules" ["_law_rows", "_law_hull"] (uK K)) (fq : Def P w K mg base 1 "_law_tells" ["_law_rule_here", "_law_corner"] (Al K)) : Def P w K mg base 14 "_law_holds" ["_law_tree", "_law_rows", "_law_top", "_law_bottom"] (uM K) := by
 refine aN T sc_l_holds (fun _ _ _ _ _ _ => L2.ar4 fun _ _ _ _ => rfl) (fun vs H Q E h => ?_) (fun f cdv A outer s H vs Q E hr h => ?_)
 ·obtain ⟨x,l,us,rows,tp,bt,t,L,rfl,_⟩:=h
  rfl
 obtain ⟨x,l,us,rows,tp,bt,t,L,rfl,el,da,ok,pos,few,b1,b2,sm,dp,cu,dx,eL,hg,q⟩:=h
 have nd := sc_l_holds.nd
 have d3:(3:Nat)<=sizeLine:=by decide
 have hk:=Hu.Tc.kZ Hu.ny sm eL
 refine ⟨_,un (cT (iy (i:=4) nd rfl (Or.inl rfl) (jM gD (hr.mono (by decide)) rfl (bc (hv 0) (bc (he_lst (kC (cg (bw (bw (bw bA)))) (kC (cg (bw (bw (bw bA)))) (kC (cg (bw (bw (bw bA)))) (kC (cg (bw (bw (bw bA)))) bA))))) bA)))) ⟨(ag (aO (aC jE (pv 4) bX (aF _)) (ak (av hZ)) aG)
  (ag (fD PassesOwn.never rfl (cQ (pv 4)) (aV (i:=5) nd rfl (Or.inl rfl)) (ag (aJ (i:=6) nd rfl (Or.inr rfl) (aE az (aH wJ (hr.mono (by omega)) rfl (aa (pv 1) (aa (pv 5) af))) aq (λ_ _=>rfl)))
  (ag (aO (aC jE (pv 6) bX (aF _)) (ak (av hZ)) aG)
  (ag (lM (i := 7) nd rfl (Or.inl rfl) (Or.inl rfl) rfl rfl (cQ (pv 5)) rfl (by decide +kernel) (by decide +kernel) rfl (show ∀ p ∈ Scope.names _, p.2 = NameKind.free → List.lookup p.1 (ah s_l_holds).names = some .cell ∨ List.lookup p.1 (ah s_l_holds).names = some .free by decide +kernel) (cI (j := 6) rfl (Or.inl rfl) (by decide +kernel) (Or.inl rfl) (cI (j := 3) rfl (Or.inl rfl) (by decide +kernel) (Or.inl rfl) (cI (j := 2) rfl (Or.inl rfl) (by decide +kernel) (Or.inl rfl) cR))) (show (["_law_one", "_law_rules_here", "_law_bottom", "_law_top"] : List Str).Nodup by decide +kernel) (fun _ _ _ _ => dq) (fun _ _ _ _ => (aK eU (aK bE (aH fq (hr.mono (by decide)) rfl (aa (aE (Ed (K := K) rfl) (pv 1) (zf kE aq) (fun _ _ => rfl)) (aa (pv 0) af))) (pv 2)) (aK bE (pv 3) (aE (ix_tupK (K := K) rfl) (pv 0) aq (fun _ _ => rfl))))))
  (ak (aO (aC lT (aB (iT rfl) rfl bN (by decide +kernel) (aa (pv 7) af)) aq (aF _)) (ak (av hZ)) aG))))))
  (ak (av hZ))))⟩),?_⟩
 refine ⟨_,rfl,d3,λp1 h1=>⟨d3,λp2 h2=>⟨d3,λp3 h3=>⟨d3,λp4 h4=>⟨(by show 4<=sizeLine;decide),λl5 h5=>?_⟩⟩⟩⟩⟩
 have u1:=ao h1 (.tup [.int 1,.int 0,.int 0])
 have u2:=ao h2 (.tup [.int 1,.int 1,.int 0])
 have u3:=ao h3 (.tup [.int 1,.int 1,.int 1])
 have u4:=ao h4 (.tup [.int 1,.int 0,.int 1])
 have u5:=ao h5 (.lst [V.ref p1,.ref p2,.ref p3,.ref p4])
 have e1:=(u2.trans (u3.trans (u4.trans u5))) _ _ ae
 have e2:=(u3.trans (u4.trans u5)) _ _ ae
 have e3:=(u4.trans u5) _ _ ae
 have e4:=u5 _ _ ae
 have e5:upd (upd (upd (upd (upd H p1 (.tup [.int 1,.int 0,.int 0])) p2 (.tup [.int 1,.int 1,.int 0])) p3 (.tup [.int 1,.int 1,.int 1])) p4 (.tup [.int 1,.int 0,.int 1])) l5 (.lst [V.ref p1,.ref p2,.ref p3,.ref p4]) l5=some (.lst [V.ref p1,.ref p2,.ref p3,.ref p4]):=ae
 have s5:=u1.trans (u2.trans (u3.trans (u4.trans u5)))
 generalize upd (upd (upd (upd (upd H p1 (.tup [.int 1,.int 0,.int 0])) p2 (.tup [.int 1,.int 1,.int 0])) p3 (.tup [.int 1,.int 1,.int 1])) p4 (.tup [.int 1,.int 0,.int 1])) l5 (.lst [V.ref p1,.ref p2,.ref p3,.ref p4])=H5 at *
 have dsq:DatAll K H5 (Hu.sqH.map t3D) [V.ref p1,.ref p2,.ref p3,.ref p4]:=⟨_,_,rfl,bW (p:=⟨1,0,0⟩) (SqT.of e1),_,_,rfl,bW (p:=⟨1,1,0⟩) (SqT.of e2),_,_,rfl,bW (p:=⟨1,1,1⟩) (SqT.of e3),_,_,rfl,bW (p:=⟨1,0,1⟩) (SqT.of e4),rfl⟩
 refine ⟨x,l5,_,t,Hu.sqH,L,rfl,e5,dsq,Hu.ny,sm,by show 4+t.deep<=20;omega,by omega,cu,dx.ts s5.ts,eL,λll ws H6 s6 el6 al6=>?_⟩
 have s06:=s5.trans s6
 refine ⟨_,rfl,rfl,_,rfl,bB ?_⟩
 refine ⟨_,rfl,ll,rfl,⟨ws,SqL.of el6⟩,?_⟩
 refine gS (xs:=ws) (λi σ H'=>aI H6 H'/\∃ o5 o6 o7,σ=[some x,some (.ref l),some (.int tp),some (.int bt),some (.ref ll),o5,o6,o7]) ⟨aI.refl _,_,_,_,rfl⟩ (λi σ H' _ z=>SqL.of (z.1 _ _ el6)) (λi v σ H' hv z=>?_) (fun σ H' z=>?_)
 ·obtain ⟨s7,o5,o6,o7,rfl⟩:=z
  obtain ⟨g,hgi,ga,gus,rfl,eg,dg⟩:=(al6.imp (HuV.to s7)).get i v hv
  have gm:=List.mem_of_getElem? hgi
  obtain ⟨rs0,ru,kr⟩:=hg g gm
  obtain ⟨hkg,hlg⟩:=hk g gm
  have s07:=s06.trans s7
  have gr3:∀ p∈g,Hu.R3 3000 p:=λp hp=>(hkg.ok p hp).r.mono (by decide)
  have n3:=hkg.n3
  have sqn:Hu.sqH.length=4:=rfl
  refine ⟨_,rfl,_,rfl,l,ga,us,gus,rows,g,rfl,s07 _ _ el,da.ts s07.ts,ok,few,eg,dg,gr3,by omega,by omega,λrs t2 lr wr H8 s8 er rb ln et elr dlr=>?_,λk tt t2 v2 H8 s8 er _ _ _ _=>?_⟩
  ·rw [ru] at er
   cases er
   have lw:=il dlr
   have wpos:0 < wr.length:=by omega
   obtain ⟨r,hr0⟩:∃ r,rs0[wr.length - 1]?=some r:=⟨rs0[wr.length - 1]'(by omega),List.getElem?_eq_getElem (by omega)⟩
   obtain ⟨rv0,hrv,drv⟩:=lx dlr hr0
   have hlast:rs0.getLast?=some r:=by rw [List.getLast?_eq_getElem?,<- lw];exact hr0
   have rb1:Hu.R3 101 r:=(rb _ r hr0).mono (by omega)
   have rb3:Hu.R3 3000 r:=rb1.mono (by decide)
   have kr:=kr r hlast
   refine ⟨_,_,_,_,rfl,rfl,SqT.of et,rfl,?_⟩
   refine ⟨_,rfl,rfl,_,rfl,bB ?_⟩
   have eg8:=s8 _ _ eg
   dsimp only [Cb,Ca,qV]
   refine comp_map (K:=K) (ts:=g) (R:=λH v p=>Dat K H (t3D p) v/\H lr=some (.lst wr)/\Dat K H (t3D r) rv0) (xs:=gus) (λp=>.int (Hu.tl r p*bt - tp*p.u)) (λ_ _ _ _ e h=>⟨h.1.ts e.ts,e _ _ h.2.1,h.2.2.ts e.ts⟩) (λl' H'=>l'=ga/\H'=H8) (λR h=>⟨_,rfl,ga,rfl,⟨_,SqL.of eg8⟩,h ga _ ⟨rfl,rfl⟩⟩) (λl' H' h=>by obtain ⟨rfl,rfl⟩:=h;exact ⟨eg8,aI.refl _⟩) (by rw [il dg];omega)
    ((zV (dg.ts s8.ts)).imp λv p h=>⟨h,elr,drv⟩) (λv p H' N hp hv hN=>?_) (λD H9 s9 hD eD=>?_)
   ·obtain ⟨dv,slr,drv'⟩:=hv
    obtain ⟨pa,rfl,sp⟩:=dH dv
    have pb:=(hkg.ok p hp).r
    have tlb:Bg (Hu.tl r p):=Nat.lt_of_lt_of_le (Hu.tl_b rb1 pb) (Nat.pow_le_pow_right (by decide) (by decide))
    have pub:Bg p.u:=gU pb.a (by decide)
    exact ⟨_,rfl,_,rfl,_,_,_,_,rfl,rfl,SqL.of slr,(by rw [Bw wpos];exact hrv),_,rfl,_,_,r,p,rfl,drv',dv,rb3,gr3 p hp,_,rfl,_,_,rfl,rfl,gP tlb b2,_,rfl,_,rfl,_,_,_,_,rfl,rfl,sp,rfl,_,_,rfl,rfl,gP b1 pub,_,_,rfl,rfl,hN _ (aI.refl _)⟩
   ·have hne:0 < (g.map λp=>Hu.tl r p*bt - tp*p.u).length:=by rw [List.length_map];omega
    refine ⟨_,rfl,D,g.map λp=>Hu.tl r p*bt - tp*p.u,rfl,SqL.of (by rw [List.map_map];exact eD),hne,λM hM hmin=>?_⟩
    refine ⟨_,_,rfl,rfl,_,rfl,dB (λc=>?_) (λc=>?_)⟩
    ·have c':M < 0:=of_decide_eq_true c
     obtain ⟨p,hp,ep⟩:=List.mem_map.mp hM
     have:=kr p hp
     omega
    ·exact ⟨(s7.trans s8).trans s9,_,_,_,rfl⟩
  ·rw [ru] at er
   cases er
 ·obtain ⟨s7,o5,o6,o7,rfl⟩:=z
  exact q _ (s06.trans s7)
theorem ok_isfr (T:aD K mg "_law_is_fraction" gi) (aL:mg "isinstance"=none) (aP:mg "tuple"=none) (bf:mg "len"=none) (ff:mg "abs"=none) (dZ:Def P w K mg base 1 "_law_whole" ["_law_found"] oj) (iz:Def P w K mg base 1 "_law_lowest" ["_law_point"] spLwT):Def P w K mg base 2 "_law_is_fraction" ["_law_found"] (spLFr K):=by
 refine aN T iJ (λ_ _ _ _ _ _=>L2.ar1 λ_=>rfl) (λvs H Q E h=>?_) (λf cdv A outer s H vs Q E hr h=>?_)
 ·obtain ⟨v,f,rfl,_⟩:=h
  rfl
 obtain ⟨v,fr,rfl,⟨a,rfl,sq⟩,f0,g1,q⟩:=h
 have nd:=iJ.nd
 have hu:=hr.units
 have d2:(2:Nat)<=sizeLine:=by decide
 refine ⟨_,(ag (aO (PW.pt (fW (dU (dj (aB gF rfl aL (by decide +kernel) (aa (pv 0) (aa (fT (v:=V.ty "tuple") rfl aP (by decide +kernel) rfl) af))))) (fW (aC lS (aB bz rfl bf (by decide +kernel) (aa (pv 0) af)) aq (aF _)) (fW (dU (dj (aH dZ (hr.mono (by omega)) rfl (aa (aE az (pv 0) aq (λ_ _=>rfl)) af)))) (gN (dU (dj (aH dZ (hr.mono (by omega)) rfl (aa (aE az (pv 0) aq (λ_ _=>rfl)) af))))))))) (ak (av hZ)) aG)
  (ak (av (jD (dP jF (aE az (pv 0) aq (λ_ _=>rfl)) aq (aF _)) (mS (dP (Dz hu) (aH iz (hr.mono (by decide)) rfl (pa_tu (bh (aa (aB fc rfl ff (by decide +kernel) (aa (aE az (pv 0) aq (λ_ _=>rfl)) af)) (aa (aE az (pv 0) aq (λ_ _=>rfl)) af))) af)) (bh (aa (aB fc rfl ff (by decide +kernel) (aa (aE az (pv 0) aq (λ_ _=>rfl)) af)) (aa (aE az (pv 0) aq (λ_ _=>rfl)) af))) (aF _))))))),?_⟩
 refine ⟨_,rfl,a,_,_,_,true,rfl,(λ_ h=>h),sq,fX,_,rfl,bB ?_⟩
 refine ⟨_,rfl,_,_,rfl,.inr ⟨_,sq,rfl⟩,rfl,_,rfl,bB ?_⟩
 refine ⟨_,rfl,_,_,_,_,rfl,rfl,sq,rfl,fr.1,rfl,_,rfl,bB ?_⟩
 refine ⟨_,rfl,_,_,_,_,rfl,rfl,sq,rfl,fr.2,rfl,_,rfl,bB ?_⟩
 refine ⟨_,rfl,_,_,_,_,rfl,rfl,sq,rfl,_,_,rfl,rfl,_,rfl,?_⟩
 rw [show decide (fr.2 > 0)=true from decide_eq_true f0]
 refine dI ?_
 refine ⟨_,rfl,_,_,_,_,rfl,rfl,sq,rfl,_,rfl,_,rfl,_,_,_,_,rfl,rfl,sq,rfl,d2,λp hp=>?_⟩
 rw [cM]
 have u1:=ao hp (.tup [.int (fr.1.natAbs:Int),.int fr.2])
 have ge:gcs [(fr.1.natAbs:Int),fr.2]=1:=by rw [gcs2 _ (by omega),show Lo.gc (fr.1.natAbs:Int) fr.2=Lo.gc fr.1 fr.2 from (by show ((Nat.gcd (Int.natAbs (fr.1.natAbs:Int)) fr.2.natAbs:Nat):Int)=((Nat.gcd fr.1.natAbs fr.2.natAbs:Nat):Int);rw [Int.natAbs_natCast]),g1]
 refine ⟨p,[(fr.1.natAbs:Int),fr.2],rfl,ae,λn hn=>?_,by rw [ge];decide,by rw [ge];exact gU (n:=1) (by decide) (by decide),by simp,λt H2 s2 et=>?_⟩
 ·simp only [List.mem_cons,List.not_mem_nil,or_false] at hn
  rcases hn with rfl | rfl <;> omega
 rw [ge] at et
 have et:H2 t=some (.tup [.int (fr.1.natAbs:Int),.int fr.2]):=by
  rw [et]
  show some (HO.tup [V.int (Int.fdiv _ 1),V.int (Int.fdiv _ 1)])=_
  rw [Int.fdiv_one,Int.fdiv_one]
 have sq2:=sq.ts (u1.trans s2).ts
 refine ⟨_,rfl,_,_,_,_,rfl,rfl,sq2,rfl,_,rfl,_,rfl,_,_,_,_,rfl,rfl,sq2,rfl,d2,λp2 hp2=>?_⟩
 rw [cM]
 have u3:=ao hp2 (.tup [.int (fr.1.natAbs:Int),.int fr.2])
 have da:∀{H:Hp} {v:Addr},SqT K H v [.int (fr.1.natAbs:Int),.int fr.2]->Dat K H (frD (fr.1.natAbs:Int) fr.2) (.ref v):=λ{H v} s=>⟨v,_,rfl,s,_,_,rfl,rfl,_,_,rfl,rfl,rfl⟩
 refine ⟨_,_,.inl (da (SqT.of (u3 _ _ et))),.inl (da (SqT.of ae)),mZ _ _,mZ _ _,?_⟩
 rw [xY (mZ _ _)]
 exact q _ ((u1.trans s2).trans u3)
theorem ok_ispt (T:aD K mg "_law_is_point" eI) (aL:mg "isinstance"=none) (aP:mg "tuple"=none) (bf:mg "len"=none) (ma:mg "all"=none) (bN:mg "min"=none) (bZ:mg "max"=none) (dZ:Def P w K mg base 1 "_law_whole" ["_law_found"] oj):Def P w K mg base 2 "_law_is_point" ["_law_found"] (spLPt K):=by
 refine aN T kz (λ_ _ _ _ _ _=>L2.ar1 λ_=>rfl) (λvs H Q E h=>?_) (λf cdv A outer s H vs Q E hr h=>?_)
 ·obtain ⟨v,p,rfl,_⟩:=h
  rfl
 obtain ⟨v,p,rfl,dv,u0,v0,v1,w0,w1,q⟩:=h
 obtain ⟨a,rfl,sq⟩:=dH dv
 have nd:=kz.nd
 refine ⟨_,(ag (aO (PW.pt (fW (dU (dj (aB gF rfl aL (by decide +kernel) (aa (pv 0) (aa (fT (v:=V.ty "tuple") rfl aP (by decide +kernel) rfl) af))))) (fW (aC lS (aB bz rfl bf (by decide +kernel) (aa (pv 0) af)) aq (aF _)) (gN (dU (dj (aB (qt rfl) rfl ma (by decide +kernel) (aa (eT rfl (kN (pv 0)) rfl (by decide +kernel) (by decide +kernel) rfl (show ∀ p∈Scope.names _,p.2=NameKind.free->List.lookup p.1 (ah eI).names=some .cell\/List.lookup p.1 (ah eI).names=some .free by decide +kernel) cR (show (["_law_number"]:List Str).Nodup by decide +kernel) (λ_ _ _ _=>dq) (λ_ _ _ _=>(aH dZ (hr.mono (by omega)) rfl (aa (pv 0) af)))) af)))))))) (ak (av hZ)) aG)
  (ak (av (jD (dP jF (aE az (pv 0) aq (λ_ _=>rfl)) aq (aF _)) (jD (dP ji aq (aB (Bt (K:=K) rfl rfl) rfl bN (by decide +kernel) (aa (jC om (pv 0) (lN aq) lO) af)) (aF _)) (mS (dP ji (aB (Bu (K:=K) rfl rfl) rfl bZ (by decide +kernel) (aa (jC om (pv 0) (lN aq) lO) af)) (aE az (pv 0) aq (λ_ _=>rfl)) (aF _)))))))),?_⟩
 refine ⟨_,rfl,a,_,_,_,true,rfl,(λ_ h=>h),sq,fX,_,rfl,bB ?_⟩
 refine ⟨_,rfl,_,_,rfl,.inr ⟨_,sq,rfl⟩,rfl,_,rfl,bB ?_⟩
 refine ⟨_,rfl,a,rfl,⟨_,sq⟩,λD hD=>?_⟩
 refine yA (K:=K) sq hD (λn H' k z=>⟨_,rfl,n,rfl,z⟩) (λH1 s1 hlD=>?_)
 refine ⟨D,List.replicate 3 true,rfl,SqL.of hlD,_,rfl,bB ?_⟩
 have sq1:=sq.ts s1.ts
 refine ⟨_,rfl,_,_,_,_,rfl,rfl,sq1,rfl,_,_,rfl,rfl,_,rfl,?_⟩
 rw [show decide (p.u > 0)=true from decide_eq_true u0]
 refine dI ?_
 refine ⟨_,rfl,_,rfl,?_⟩
 dsimp only [lj]
 refine sl1T (K:=K) sq1 λp2 hp2=>?_
 have u2:=ao hp2 (.tup [.int p.v,.int p.w])
 refine ⟨p2,[p.v,p.w],rfl,SqT.of ae,by simp,λM hM hmin=>?_⟩
 have M0:0<=M:=by
  simp only [List.mem_cons,List.not_mem_nil,or_false] at hM
  rcases hM with rfl | rfl <;> assumption
 refine ⟨_,_,rfl,rfl,_,rfl,?_⟩
 rw [show decide ((0:Int)<=M)=true from decide_eq_true M0]
 refine dI ?_
 have sq2:=sq1.ts u2.ts
 refine ⟨_,rfl,_,rfl,?_⟩
 dsimp only [lj]
 refine sl1T (K:=K) sq2 λp3 hp3=>?_
 have u3:=ao hp3 (.tup [.int p.v,.int p.w])
 refine ⟨p3,[p.v,p.w],rfl,SqT.of ae,by simp,λM2 hM2 hmax=>?_⟩
 have M1:M2<=p.u:=by
  simp only [List.mem_cons,List.not_mem_nil,or_false] at hM2
  rcases hM2 with rfl | rfl <;> assumption
 refine ⟨_,rfl,_,_,_,_,rfl,rfl,sq2.ts u3.ts,rfl,_,_,rfl,rfl,?_⟩
 show Q (.bl (decide (M2<=p.u))) _
 rw [show decide (M2<=p.u)=true from decide_eq_true M1]
 exact q _ ((s1.trans u2).trans u3)
theorem ok_lfew (T:aD K mg "_law_few" sJ) (bf:mg "len"=none) (fM:Def P w K mg base 1 "_law_next" ["_law_cells"] sA) (fm:Def P w K mg base 62 "_law_saying" ["_law_cells","_law_room","_law_two"] (uH 60)) (jh:Def P w K mg base 61 "_law_folds" ["_law_tree"] (Cp 60)):Def P w K mg base 63 "_law_few" ["_law_cells","_law_room","_law_most"] yM:=by
 refine aN T ve (λ_ _ _ _ _ _=>L2.ar3 λ_ _ _=>rfl) (λvs H Q E h=>?_) (λf cdv A outer s H vs Q E hr h=>?_)
 ·obtain ⟨l,ms,r,m,rfl,_⟩:=h
  rfl
 obtain ⟨l,ms,r,m,rfl,el,cel,r1,r60,m0,q⟩:=h
 have nd:=ve.nd
 refine ⟨_,(ag (aJ (i:=3) nd rfl (Or.inl rfl) (aH fm (hr.mono (by omega)) rfl (aa (pv 0) (aa (aK bR aq (aK ib (aH fM (hr.mono (by omega)) rfl (aa (pv 0) af)) (pv 1))) (aa hZ af)))))
  (ag (iQ PassesOwn.never (aC jF (aH jh (hr.mono (by omega)) rfl (aa (pv 3) af)) (pv 2) (aF _)) (ak (aJ (i:=3) nd rfl (Or.inl rfl) (aE az (pv 3) (aK bR aq (aK ib (aH fM (hr.mono (by omega)) rfl (aa (pv 0) af)) (aK eU (aB bz rfl bf (by decide +kernel) (aa (pv 3) af)) aq))) (λ_ _=>rfl)))))
  (ak (av (pv 3))))),?_⟩
 refine ⟨_,rfl,_,rfl,l,ms,rfl,el,cel,λi ms1 H1 ci c1 sb1 el1=>?_⟩
 refine ⟨_,rfl,_,_,rfl,rfl,(by omega),_,_,rfl,rfl,?_⟩
 have f0:=Int.fmod_nonneg_of_pos i (show 0 < r by omega)
 have f1:=Int.fmod_lt_of_pos i (show 0 < r by omega)
 refine ⟨l,ms1,1+i.fmod r,true,rfl,el1,c1,by omega,by omega,λa t ms2 H2 sz c2 sb2 el2 tu=>?_⟩
 refine ⟨λk σ H'=>∃(a:Addr) (t:Tr) (ms:List Int),σ=[some (.ref l),some (.int r),some (.int m),some (.ref a)]/\k=t.size/\(t.size:Int)<=r/\(∀ m∈ms,Cel m)/\SB (.ref l) H H'/\H' l=some (.lst (ms.map V.int))/\Tu H' a t,⟨_,a,t,ms2,rfl,rfl,by omega,c2,sb1.trans sb2,el2,tu⟩,?_⟩
 rintro k σ H' ⟨a,t,ms,rfl,rfl,sz,cm,sb,elc,tu⟩
 refine ⟨_,rfl,a,t,rfl,tu,by omega,λH3 s3=>?_⟩
 refine ⟨_,rfl,_,_,rfl,rfl,_,rfl,dB (λcc=>?_) (λcc=>?_)⟩
 ·have cc:m < (t.nf:Int):=of_decide_eq_true cc
  obtain ⟨us,e,ou⟩:=(tu.to (Kp.of s3)).parts
  have ul:=ou.len
  have kp:0 < t.kids.length:=by
   cases t with
   | no t=>exact Nat.zero_lt_one
   | fold u a b=>exact Nat.zero_lt_two
   | never=>have z:(Tr.never.nf:Int)=0:=rfl;omega
   | always=>have z:(Tr.always.nf:Int)=0:=rfl;omega
   | lp=>have z:(Tr.lp.nf:Int)=0:=rfl;omega
   | lq=>have z:(Tr.lq.nf:Int)=0:=rfl;omega
  refine ⟨fun σ' H''=>∃(a':Addr) (t':Tr) (ms:List Int),t'∈t.kids/\σ'=[some (.ref l),some (.int r),some (.int m),some (.ref a')]/\(∀ m∈ms,Cel m)/\SB (.ref l) H H''/\H'' l=some (.lst (ms.map V.int))/\Tu H'' a' t',?_,?_⟩
  ·rintro σ' H'' ⟨a',t',ms',tk,rfl,cm',sb',el',tu'⟩
   have ks:=pX tk
   exact ⟨t'.size,by omega,a',t',ms',rfl,rfl,by omega,cm',sb',el',tu'⟩
  ·have sbH3:SB (.ref l) H H3:=λd o z n=>s3 _ _ (sb _ _ z n)
   refine ⟨_,rfl,_,rfl,l,ms,rfl,s3 _ _ elc,cm,λj ms4 H4 cj c4 sb4 el4=>?_⟩
   have e4:=sb4 _ _ e λz=>by cases z;rw [s3 _ _ elc] at e;cases e
   have kp4:Kp H3 H4:=sb4.kp λa' o' z1 z2=>by cases z1;rw [s3 _ _ elc] at z2;cases z2;rfl
   have lk:(((V.str t.word::us).length:Nat):Int) - 1=(t.kids.length:Int):=by rw [List.length_cons,ul];omega
   have g0:=Int.fmod_nonneg_of_pos j (show 0 < (t.kids.length:Int) by omega)
   have g1:=Int.fmod_lt_of_pos j (show 0 < (t.kids.length:Int) by omega)
   have hj:∃ v,us[(j.fmod (t.kids.length:Int)).toNat]?=some v:=⟨us[(j.fmod (t.kids.length:Int)).toNat]'(by omega),List.getElem?_eq_getElem (by omega)⟩
   obtain ⟨v,hv⟩:=hj
   obtain ⟨t',ht',b,rfl,tb⟩:=ou.get _ v hv
   refine ⟨_,rfl,_,_,rfl,.inr ⟨_,SqT.of e4,rfl⟩,_,_,rfl,rfl,_,_,rfl,rfl,(by rw [lk];omega),_,_,rfl,rfl,_,_,_,_,rfl,rfl,SqT.of e4,?_,b,t',ms4,List.mem_of_getElem? ht',rfl,c4,sbH3.trans sb4,el4,tb.to kp4⟩
   show atI (V.str t.word::us) (1+j.fmod ((((V.str t.word::us).length:Nat):Int) - 1))=_
   rw [lk,show (1:Int)+j.fmod (t.kids.length:Int)=(((j.fmod (t.kids.length:Int)).toNat+1:Nat):Int) by omega]
   exact dD (by simpa using hv)
 ·have cc:¬m < (t.nf:Int):=λz=>cc (decide_eq_true z)
  exact ⟨_,rfl,q a t ms H3 sz (by omega) cm (λd o z n=>s3 _ _ (sb _ _ z n)) (s3 _ _ elc) (tu.to (Kp.of s3))⟩
end
section
variable {P:Program} {w:World} {K:PySem.W.Frag} {mg:Str->Option Value} {base:Heap} {c:CCs}
theorem mE:aA pE ["_law_cells","_law_room","_law_two"] (ah jV):=L2.fsc rfl (by decide +kernel)
theorem AE (T:aD K mg "_law_saying" jV) (fe:mg "int"=none) (fM:Def P w K mg base 1 "_law_next" ["_law_cells"] sA):∀ n:Nat,Def P w K mg base (n+2) "_law_saying" ["_law_cells","_law_room","_law_two"] (uH n):=by
 intro n
 induction n with
 | zero =>
  refine aN T mE (λ_ _ _ _ _ _=>L2.ar3 λ_ _ _=>rfl) (λvs H Q E h=>?_) (λf cdv A outer s H vs Q E hr h=>?_)
  ·obtain ⟨l,ms,r,b,rfl,_⟩:=h
   rfl
  ·obtain ⟨l,ms,r,b,rfl,_,_,z1,z2,_⟩:=h
   have:(r:Int)<=((0:Nat):Int):=z2
   omega
 | succ n fm =>
  refine aN T mE (λ_ _ _ _ _ _=>L2.ar3 λ_ _ _=>rfl) (λvs H Q E h=>?_) (λf cdv A outer s H vs Q E hr h=>?_)
  ·obtain ⟨l,ms,r,b,rfl,_⟩:=h
   rfl
  obtain ⟨l,ms,r,b,rfl,e,hc,r1,r2,q⟩:=h
  have nd:=mE.nd
  have r2':r<=(n:Int)+1:=by exact_mod_cast r2
  have tail4:∃ t,PSs (cS CX0 P w K mg base pE "_law_saying" (ah jV) f cdv A outer s H E).nox ((bu jV).drop 4) t/\∀(i:Int) (ms1:List Int) (H1:Hp),(∀ m∈ms1,Cel m)->SB (.ref l) H H1->H1 l=some (.lst (ms1.map V.int))->
    t {nx:=λ_ H'=>Q .non H',rt:=Q} [some (.ref l),some (.int r),some (.bl b),some (.int i),some (.int (i / 16)),none,none,none] H1:=by
   refine ⟨_,(ag (aO (aC jF (aK gp (pv 4) aq) aq (aF _)) (ak (av (bh (aa (aE az (bh (aa aM (aa aM af))) (aK eU (aK gp (pv 4) aq) aq) (λ_ _=>rfl)) af)))) aG)
  (ak (av (bh (aa (aE az (bh (aa aM (aa aM af))) (aK bE (aK gp (pv 4) aq) (bV iV rfl fe (by decide +kernel) (aa (pv 2) af))) (λ_ _=>rfl)) af))))),?_⟩
   intro i ms1 H1 hc1 sb1 e1
   have fin:∀(p p2:Addr) (xs:List V) (x:Str) (t:Tr),t.size=1->H1 p=none->upd H1 p (.tup xs) p2=none->Tu (upd (upd H1 p (.tup xs)) p2 (.tup [V.str x])) p2 t->Q (.ref p2) (upd (upd H1 p (.tup xs)) p2 (.tup [V.str x])):=λp p2 xs x t ht hp hp2 tu=>by
    have s1:=ao hp (.tup xs)
    have s2:=ao hp2 (.tup [V.str x])
    exact q p2 t ms1 _ (by rw [ht];exact r1) hc1 (sb1.trans (SB.of (s1.trans s2))) (s2 _ _ (s1 _ _ e1)) tu
   refine ⟨_,rfl,_,_,rfl,rfl,(show (0:Int) < 9 by decide),_,_,rfl,rfl,_,rfl,?_⟩
   refine dB (λg=>?_) (λg=>?_)
   ·have g1:6 < i / 16 % 9:=of_decide_eq_true g
    have g2:i / 16 % 9 < 9:=Int.emod_lt_of_pos _ (by decide)
    refine ⟨(by show 2<=sizeLine;decide),λp hp=>?_⟩
    obtain ⟨z,hz,hzz⟩:=two_at (x:=V.str "never") (y:=V.str "always") (i / 16 % 9 - 7) (by omega)
    refine ⟨_,rfl,_,_,rfl,rfl,(show (0:Int) < 9 by decide),_,_,rfl,rfl,_,_,_,_,rfl,rfl,SqT.of ae,hz,(by show 1<=sizeLine;decide),λp2 hp2=>?_⟩
    rcases hzz with rfl | rfl
    ·exact fin p p2 _ _ .never rfl hp hp2 (.never ae)
    ·exact fin p p2 _ _ .always rfl hp hp2 (.always ae)
   ·have g2:i / 16 % 2 < 2:=Int.emod_lt_of_pos _ (by decide)
    have g3:0<=i / 16 % 2:=Int.emod_nonneg _ (by decide)
    refine ⟨(by show 2<=sizeLine;decide),λp hp=>?_⟩
    have hi:i / 16 % 2*(if b then 1 else 0)=0\/i / 16 % 2*(if b then 1 else 0)=1:=by cases b <;> simp <;> omega
    obtain ⟨z,hz,hzz⟩:=two_at (x:=V.str "p") (y:=V.str "q") (i / 16 % 2*(if b then 1 else 0)) hi
    refine ⟨_,rfl,_,_,rfl,rfl,(show (0:Int) < 2 by decide),_,rfl,.inr ⟨b,rfl,_,_,rfl,rfl,eV (by cases b <;> decide +kernel),_,_,_,_,rfl,rfl,SqT.of ae,hz,(by show 1<=sizeLine;decide),λp2 hp2=>?_⟩⟩
    rcases hzz with rfl | rfl
    ·exact fin p p2 _ _ .lp rfl hp hp2 (.lp ae)
    ·exact fin p p2 _ _ .lq rfl hp hp2 (.lq ae)
  obtain ⟨t4,ht4,hq4⟩:=tail4
  have tail3:∃ t,PSs (cS CX0 P w K mg base pE "_law_saying" (ah jV) f cdv A outer s H E).nox ((bu jV).drop 3) t/\∀(i:Int) (ms1:List Int) (H1:Hp),(∀ m∈ms1,Cel m)->SB (.ref l) H H1->H1 l=some (.lst (ms1.map V.int))->
    t {nx:=λ_ H'=>Q .non H',rt:=Q} [some (.ref l),some (.int r),some (.bl b),some (.int i),some (.int (i / 16)),none,none,none] H1:=by
   refine ⟨_,ag (aO (PW.pt (xq (aC jF (pv 1) aq (aF _)) (sW (aC lT (aK gp (pv 3) aq) aq (aF _))))) (ak (av (bh (aa aM (aa (aH fm (hr.mono (by omega)) rfl (aa (pv 0) (aa (aK eU (pv 1) aq) (aa (pv 2) af)))) af))))) aG) ht4,?_⟩
   intro i ms1 H1 hc1 sb1 e1
   refine ⟨_,rfl,_,_,rfl,rfl,_,rfl,?_⟩
   refine dB (λg=>?_) (λg=>?_)
   ·have g1:1 < r:=of_decide_eq_true g
    refine ⟨_,rfl,_,_,rfl,rfl,(show (0:Int) < 16 by decide),_,_,rfl,rfl,_,rfl,?_⟩
    refine dB (λg'=>?_) (λg'=>hq4 i ms1 H1 hc1 sb1 e1)
    refine ⟨_,rfl,_,rfl,_,_,rfl,rfl,_,rfl,l,ms1,r - 1,b,rfl,e1,hc1,by omega,by omega,λa1 t1 ms2 H2 z1 hc2 sb2 e2 tu=>?_⟩
    refine ⟨(by show 2<=sizeLine;decide),λp hp=>?_⟩
    have s3:=ao hp (.tup [V.str "not",.ref a1])
    exact q p (.no t1) ms2 _ (by show ((t1.size+1:Nat):Int)<=r;omega) hc2 ((sb1.trans sb2).trans (SB.of s3)) (s3 _ _ e2) (.no ae (tu.to (Kp.of s3)))
   ·exact bB (hq4 i ms1 H1 hc1 sb1 e1)
  obtain ⟨t3,ht3,hq3⟩:=tail3
  refine ⟨_,ag (aJ (i:=3) nd rfl (Or.inl rfl) (aH fM (hr.mono (by omega)) rfl (aa (pv 0) af))) (ag (aJ (i:=4) nd rfl (Or.inl rfl) (aK zj (pv 3) aq)) (ag (aO (PW.pt (xq (aC jF (pv 1) aq (aF _)) (sW (aC jF (aK gp (pv 3) aq) aq (aF _))))) (ag (aJ (i:=5) nd rfl (Or.inl rfl) (aK bR aq (aK gp (aK zj (pv 4) aq) (aK eU (pv 1) aq))))
  (ag (aJ (i:=6) nd rfl (Or.inl rfl) (aH fm (hr.mono (by omega)) rfl (aa (pv 0) (aa (pv 5) (aa (pv 2) af)))))
  (ag (aJ (i:=7) nd rfl (Or.inl rfl) (aE az (bh (aa aM (aa aM (aa aM (aa aM (aa aM af)))))) (aK gp (pv 4) aq) (λ_ _=>rfl)))
  (ak (av (bh (aa (pv 7) (aa (pv 6) (aa (aH fm (hr.mono (by omega)) rfl (aa (pv 0) (aa (aK eU (aK eU (pv 1) aq) (pv 5)) (aa (pv 2) af)))) af))))))))) aG) ht3)),?_⟩
  refine ⟨_,rfl,l,ms,rfl,e,hc,λi ms1 H1 ci hc1 sb1 e1=>?_⟩
  refine ⟨_,rfl,_,_,rfl,rfl,⟨by decide,by decide⟩,?_⟩
  refine ⟨_,rfl,_,_,rfl,rfl,_,rfl,?_⟩
  refine dB (λg=>?_) (λg=>bB (hq3 i ms1 H1 hc1 sb1 e1))
  have g1:2 < r:=of_decide_eq_true g
  refine ⟨_,rfl,_,_,rfl,rfl,(show (0:Int) < 16 by decide),_,_,rfl,rfl,_,rfl,?_⟩
  refine dB (λg'=>?_) (λg'=>hq3 i ms1 H1 hc1 sb1 e1)
  have b1:0<=i / 16 / 5 % (r - 2):=Int.emod_nonneg _ (by omega)
  have b2:i / 16 / 5 % (r - 2) < r - 2:=Int.emod_lt_of_pos _ (by omega)
  refine ⟨_,rfl,_,_,rfl,rfl,⟨by decide,by decide⟩,_,rfl,_,_,rfl,rfl,_,_,rfl,rfl,(show (0:Int) < r - 2 by omega),_,_,rfl,rfl,?_⟩
  refine ⟨_,rfl,_,rfl,_,rfl,l,ms1,_,b,rfl,e1,hc1,by omega,by omega,λa1 x1 ms2 H2 z1 hc2 sb2 e2 tu1=>?_⟩
  refine ⟨(by show 5<=sizeLine;decide),λp hp=>?_⟩
  obtain ⟨u,hu⟩:=word_at (i / 16 % 5) (Int.emod_nonneg _ (by decide)) (Int.emod_lt_of_pos _ (by decide))
  refine ⟨_,rfl,_,_,rfl,rfl,(show (0:Int) < 5 by decide),_,_,_,_,rfl,rfl,SqT.of ae,hu,?_⟩
  have s2:=ao hp (.tup [V.str "more",.str "less",.str "greater",.str "lesser",.str "leads"])
  refine ⟨_,rfl,_,rfl,_,rfl,_,rfl,_,_,rfl,rfl,_,rfl,_,_,rfl,rfl,_,rfl,l,ms2,_,b,rfl,s2 _ _ e2,hc2,by omega,by omega,λa2 x2 ms3 H3 z2 hc3 sb3 e3 tu2=>?_⟩
  refine ⟨(by show 3<=sizeLine;decide),λp2 hp2=>?_⟩
  have s4:=ao hp2 (.tup [V.str u.str,.ref a1,.ref a2])
  have k3:Kp (upd H2 p (.tup [V.str "more",.str "less",.str "greater",.str "lesser",.str "leads"])) H3:=sb3.kp (lst_fx (s2 _ _ e2))
  exact q p2 (.fold u x1 x2) ms3 _ (by show ((x1.size+x2.size+1:Nat):Int)<=r;omega) hc3 ((((sb1.trans sb2).trans (SB.of s2)).trans sb3).trans (SB.of s4)) (s4 _ _ e3) (.fold ae (tu1.to (((Kp.of s2).trans k3).trans (Kp.of s4))) (tu2.to (Kp.of s4)))
end
noncomputable def Cn (c:CCs) (n:Nat):Sp:=λvs H Q _=>∃(a:Addr) (t:Tr),vs=[.ref a]/\Tu H a t/\t.size<=n/\∀ x H',aI H H'->Ob c H' x t->Q (.ref x) H'
section
variable {P:Program} {w:World} {K:PySem.W.Frag} {mg:Str->Option Value} {base:Heap} {c:CCs}
theorem pe:aA ["_law_tree","_law_one","_law_other"] ["_law_tree"] (ah yZ):=L2.fsc rfl (by decide +kernel)
theorem DI (T:aD K mg "_law_object" yZ) (N_never:Mk0 K c.ne) (M_never:mg "Never"=some (.ref c.ne)) (ES:Mk0 K c.al) (ET:mg "Always"=some (.ref c.al)) (EU:qw P w K mg base "Letter" c.le 1 ["self","name"] (jS c.le lX)) (K_not:qw P w K mg base "Not" c.no 1 ["self","part"] (jS c.no qi)) (qy:∀ u:W5,qw P w K mg base u.cls (c.fold u) 1 ["self","one","other"] (sG (c.fold u))):∀ n:Nat,Def P w K mg base (n+3) "_law_object" ["_law_tree"] (Cn c n):=by
 intro n
 induction n with
 | zero =>
  refine aN T pe (λ_ _ _ _ _ _=>L2.ar1 λ_=>rfl) (λvs H Q E h=>?_) (λf cdv A outer s H vs Q E hr h=>?_)
  ·obtain ⟨a,t,rfl,_⟩:=h
   rfl
  ·obtain ⟨a,t,rfl,_,z,_⟩:=h
   have:=t.size_pos
   omega
 | succ n fo =>
  refine aN T pe (λ_ _ _ _ _ _=>L2.ar1 λ_=>rfl) (λvs H Q E h=>?_) (λf cdv A outer s H vs Q E hr h=>?_)
  ·obtain ⟨a,t,rfl,_⟩:=h
   rfl
  obtain ⟨a,t,rfl,tu,hz,q⟩:=h
  have nd:=pe.nd
  refine ⟨_,(ag (aO (aC bQ (aE az (pv 0) aq (λ_ _=>rfl)) aM (aF _)) (ak (av (vw N_never rfl M_never))) aG)
  (ag (aO (aC bQ (aE az (pv 0) aq (λ_ _=>rfl)) aM (aF _)) (ak (av (vw ES rfl ET))) aG)
  (ag (aO (aC ka (aE az (pv 0) aq (λ_ _=>rfl)) (bh (aa aM (aa aM af))) rfl) (ak (av (pL EU (hr.mono (by omega)) rfl (aa (aE az (pv 0) aq (λ_ _=>rfl)) af)))) aG)
  (ag (aO (aC bQ (aE az (pv 0) aq (λ_ _=>rfl)) aM (aF _)) (ak (av (pL K_not (hr.mono (by omega)) rfl (aa (aH fo (hr.mono (by omega)) rfl (aa (aE az (pv 0) aq (λ_ _=>rfl)) af)) af)))) aG)
  (ag (aJ (i:=1) nd rfl (Or.inl rfl) (aH fo (hr.mono (by omega)) rfl (aa (aE az (pv 0) aq (λ_ _=>rfl)) af)))
  (ag (aJ (i:=2) nd rfl (Or.inl rfl) (aH fo (hr.mono (by omega)) rfl (aa (aE az (pv 0) aq (λ_ _=>rfl)) af)))
  (ag (aO (aC bQ (aE az (pv 0) aq (λ_ _=>rfl)) aM (aF _)) (ak (av (pL (qy .more) (hr.mono (by omega)) rfl (aa (pv 1) (aa (pv 2) af))))) aG)
  (ag (aO (aC bQ (aE az (pv 0) aq (λ_ _=>rfl)) aM (aF _)) (ak (av (pL (qy .less) (hr.mono (by omega)) rfl (aa (pv 1) (aa (pv 2) af))))) aG)
  (ag (aO (aC bQ (aE az (pv 0) aq (λ_ _=>rfl)) aM (aF _)) (ak (av (pL (qy .greater) (hr.mono (by omega)) rfl (aa (pv 1) (aa (pv 2) af))))) aG)
  (ag (aO (aC bQ (aE az (pv 0) aq (λ_ _=>rfl)) aM (aF _)) (ak (av (pL (qy .lesser) (hr.mono (by omega)) rfl (aa (pv 1) (aa (pv 2) af))))) aG)
  (ak (av (pL (qy .leads) (hr.mono (by omega)) rfl (aa (pv 1) (aa (pv 2) af))))))))))))))),?_⟩
  cases tu with
  | never e =>
   refine ⟨_,rfl,_,_,_,_,rfl,rfl,SqT.of e,rfl,rfl,_,rfl,ite_yes rfl (λz dz h1 h2 ne=>?_)⟩
   exact q z _ (pF (C:=c.ne) h1 h2) (.never ae)
  | always e =>
   refine ⟨_,rfl,_,_,_,_,rfl,rfl,SqT.of e,rfl,rfl,_,rfl,ite_no (by decide +kernel) ?_⟩
   refine ⟨_,rfl,_,_,_,_,rfl,rfl,SqT.of e,rfl,rfl,_,rfl,ite_yes rfl (λz dz h1 h2 ne=>?_)⟩
   exact q z _ (pF (C:=c.al) h1 h2) (.always ae)
  | lp e =>
   refine ⟨_,rfl,_,_,_,_,rfl,rfl,SqT.of e,rfl,rfl,_,rfl,ite_no (by decide +kernel) ?_⟩
   refine ⟨_,rfl,_,_,_,_,rfl,rfl,SqT.of e,rfl,rfl,_,rfl,ite_no (by decide +kernel) ?_⟩
   refine ⟨_,rfl,_,_,_,_,rfl,rfl,SqT.of e,rfl,(by show 2<=sizeLine;decide),λp hp=>⟨p,_,rfl,.inr (SqT.of ae),rfl,rfl,_,rfl,jK pq_p ?_⟩⟩
   have s0:=ao hp (.tup [V.str "p",.str "q"])
   refine ⟨_,rfl,_,_,_,_,rfl,rfl,SqT.of (s0 _ _ e),rfl,λz dz h1 h2 ne=>⟨z,dz,_,rfl,ae,rfl,?_⟩⟩
   exact q z _ (s0.trans (jU (C:=c.le) (fs:=lX (.str "p")) h1 h2 ne)) (.lp ae)
  | lq e =>
   refine ⟨_,rfl,_,_,_,_,rfl,rfl,SqT.of e,rfl,rfl,_,rfl,ite_no (by decide +kernel) ?_⟩
   refine ⟨_,rfl,_,_,_,_,rfl,rfl,SqT.of e,rfl,rfl,_,rfl,ite_no (by decide +kernel) ?_⟩
   refine ⟨_,rfl,_,_,_,_,rfl,rfl,SqT.of e,rfl,(by show 2<=sizeLine;decide),λp hp=>⟨p,_,rfl,.inr (SqT.of ae),rfl,rfl,_,rfl,jK pq_q ?_⟩⟩
   have s0:=ao hp (.tup [V.str "p",.str "q"])
   refine ⟨_,rfl,_,_,_,_,rfl,rfl,SqT.of (s0 _ _ e),rfl,λz dz h1 h2 ne=>⟨z,dz,_,rfl,ae,rfl,?_⟩⟩
   exact q z _ (s0.trans (jU (C:=c.le) (fs:=lX (.str "q")) h1 h2 ne)) (.lq ae)
  | @no _ b x e tb =>
   have hz':x.size+1<=n+1:=hz
   refine ⟨_,rfl,_,_,_,_,rfl,rfl,SqT.of e,rfl,rfl,_,rfl,ite_no (by decide +kernel) ?_⟩
   refine ⟨_,rfl,_,_,_,_,rfl,rfl,SqT.of e,rfl,rfl,_,rfl,ite_no (by decide +kernel) ?_⟩
   refine ⟨_,rfl,_,_,_,_,rfl,rfl,SqT.of e,rfl,(by show 2<=sizeLine;decide),λp hp=>⟨p,_,rfl,.inr (SqT.of ae),rfl,rfl,_,rfl,jL Dn ?_⟩⟩
   have s0:=ao hp (.tup [V.str "p",.str "q"])
   refine ⟨_,rfl,_,_,_,_,rfl,rfl,SqT.of (s0 _ _ e),rfl,rfl,_,rfl,ite_yes rfl ?_⟩
   refine ⟨_,rfl,_,_,_,_,rfl,rfl,SqT.of (s0 _ _ e),rfl,b,x,rfl,tb.to (Kp.of s0),by omega,λy H2 s2 oy=>?_⟩
   have s02:=s0.trans s2
   refine λz dz h1 h2 ne=>⟨z,dz,_,rfl,ae,rfl,?_⟩
   have sm:=jU (C:=c.no) (fs:=qi (.ref y)) h1 h2 ne
   exact q z _ (s02.trans sm) (.no ae (oy.to (Kp.of sm)))
  | @fold _ b d u x y e tb td =>
   have hz':x.size+y.size+1<=n+1:=hz
   refine ⟨_,rfl,_,_,_,_,rfl,rfl,SqT.of e,rfl,rfl,_,rfl,ite_no (w_ne u) ?_⟩
   refine ⟨_,rfl,_,_,_,_,rfl,rfl,SqT.of e,rfl,rfl,_,rfl,ite_no (w_al u) ?_⟩
   refine ⟨_,rfl,_,_,_,_,rfl,rfl,SqT.of e,rfl,(by show 2<=sizeLine;decide),λp hp=>⟨p,_,rfl,.inr (SqT.of ae),rfl,rfl,_,rfl,jL (pq_w u) ?_⟩⟩
   have s0:=ao hp (.tup [V.str "p",.str "q"])
   refine ⟨_,rfl,_,_,_,_,rfl,rfl,SqT.of (s0 _ _ e),rfl,rfl,_,rfl,ite_no (w_not u) ?_⟩
   refine ⟨_,rfl,_,_,_,_,rfl,rfl,SqT.of (s0 _ _ e),rfl,b,x,rfl,tb.to (Kp.of s0),by omega,λv1 H2 s2 o1=>?_⟩
   have s02:=s0.trans s2
   refine ⟨_,rfl,_,_,_,_,rfl,rfl,SqT.of (s02 _ _ e),rfl,d,y,rfl,td.to (Kp.of s02),by omega,λv2 H3 s3 o2=>?_⟩
   have s03:=s02.trans s3
   have o1':=o1.to (Kp.of s3)
   have e3:=s03 _ _ e
   have fin:∀(z dz:Addr),H3 z=none->H3 dz=none->dz≠z->Q (.ref z) (upd (upd (upd H3 dz (.own z)) z (.ins (c.fold u) dz [])) z (.ins (c.fold u) dz (qJ (.ref v1) (.ref v2)))):=λz dz h1 h2 ne=>Bd (Q:=Q) h1 h2 ne o1' o2 λe' H' s' o'=>q e' H' (s03.trans s') o'
   cases u
   ·refine ⟨_,rfl,_,_,_,_,rfl,rfl,SqT.of e3,rfl,rfl,_,rfl,ite_yes rfl ?_⟩
    exact ⟨_,rfl,_,rfl,λz dz h1 h2 ne=>⟨z,dz,_,_,rfl,ae,rfl,fin z dz h1 h2 ne⟩⟩
   ·refine ⟨_,rfl,_,_,_,_,rfl,rfl,SqT.of e3,rfl,rfl,_,rfl,ite_no (by decide +kernel) ?_⟩
    refine ⟨_,rfl,_,_,_,_,rfl,rfl,SqT.of e3,rfl,rfl,_,rfl,ite_yes rfl ?_⟩
    exact ⟨_,rfl,_,rfl,λz dz h1 h2 ne=>⟨z,dz,_,_,rfl,ae,rfl,fin z dz h1 h2 ne⟩⟩
   ·refine ⟨_,rfl,_,_,_,_,rfl,rfl,SqT.of e3,rfl,rfl,_,rfl,ite_no (by decide +kernel) ?_⟩
    refine ⟨_,rfl,_,_,_,_,rfl,rfl,SqT.of e3,rfl,rfl,_,rfl,ite_no (by decide +kernel) ?_⟩
    refine ⟨_,rfl,_,_,_,_,rfl,rfl,SqT.of e3,rfl,rfl,_,rfl,ite_yes rfl ?_⟩
    exact ⟨_,rfl,_,rfl,λz dz h1 h2 ne=>⟨z,dz,_,_,rfl,ae,rfl,fin z dz h1 h2 ne⟩⟩
   ·refine ⟨_,rfl,_,_,_,_,rfl,rfl,SqT.of e3,rfl,rfl,_,rfl,ite_no (by decide +kernel) ?_⟩
    refine ⟨_,rfl,_,_,_,_,rfl,rfl,SqT.of e3,rfl,rfl,_,rfl,ite_no (by decide +kernel) ?_⟩
    refine ⟨_,rfl,_,_,_,_,rfl,rfl,SqT.of e3,rfl,rfl,_,rfl,ite_no (by decide +kernel) ?_⟩
    refine ⟨_,rfl,_,_,_,_,rfl,rfl,SqT.of e3,rfl,rfl,_,rfl,ite_yes rfl ?_⟩
    exact ⟨_,rfl,_,rfl,λz dz h1 h2 ne=>⟨z,dz,_,_,rfl,ae,rfl,fin z dz h1 h2 ne⟩⟩
   ·refine ⟨_,rfl,_,_,_,_,rfl,rfl,SqT.of e3,rfl,rfl,_,rfl,ite_no (by decide +kernel) ?_⟩
    refine ⟨_,rfl,_,_,_,_,rfl,rfl,SqT.of e3,rfl,rfl,_,rfl,ite_no (by decide +kernel) ?_⟩
    refine ⟨_,rfl,_,_,_,_,rfl,rfl,SqT.of e3,rfl,rfl,_,rfl,ite_no (by decide +kernel) ?_⟩
    refine ⟨_,rfl,_,_,_,_,rfl,rfl,SqT.of e3,rfl,rfl,_,rfl,ite_no (by decide +kernel) ?_⟩
    exact ⟨_,rfl,_,rfl,λz dz h1 h2 ne=>⟨z,dz,_,_,rfl,ae,rfl,fin z dz h1 h2 ne⟩⟩
end
section
variable {P:Program} {w:World} {K:PySem.W.Frag} {mg:Str->Option Value} {base:Heap} {c:CCs}
theorem oU:aA ["_law_tree","_law_n","_law_x","_law_y"] ["_law_tree","_law_n","_law_x","_law_y"] (ah CG):=L2.fsc rfl (by decide +kernel)
theorem DB (T:aD K mg "_law_worth" CG) (fe:mg "int"=none) (yr:Def P w K mg base 1 "_law_fold" ["_law_word","_law_n","_law_one","_law_other"] yL):∀ k:Nat,Def P w K mg base (k+2) "_law_worth" ["_law_tree","_law_n","_law_x","_law_y"] (yF k):=by
 intro k
 induction k with
 | zero =>
  refine aN T oU (λ_ _ _ _ _ _=>L2.ar4 λ_ _ _ _=>rfl) (λvs H Q E h=>?_) (λf cdv A outer s H vs Q E hr h=>?_)
  ·obtain ⟨a,t,n,x,y,rfl,_⟩:=h
   rfl
  ·obtain ⟨a,t,n,x,y,rfl,_,z,_⟩:=h
   have:=t.size_pos
   omega
 | succ k fZ =>
  refine aN T oU (λ_ _ _ _ _ _=>L2.ar4 λ_ _ _ _=>rfl) (λvs H Q E h=>?_) (λf cdv A outer s H vs Q E hr h=>?_)
  ·obtain ⟨a,t,n,x,y,rfl,_⟩:=h
   rfl
  obtain ⟨a,t,n,x,y,rfl,tu,hz,q⟩:=h
  have nd:=oU.nd
  refine ⟨_,(ag (aO (aC ka (aE az (pv 0) aq (λ_ _=>rfl)) (bh (aa aM (aa aM af))) rfl) (ak (av (aK bE (pv 1) (bV iV rfl fe (by decide +kernel) (aa (dP bQ (aE az (pv 0) aq (λ_ _=>rfl)) aM (aF _)) af))))) aG)
  (ag (aO (aC ka (aE az (pv 0) aq (λ_ _=>rfl)) (bh (aa aM (aa aM af))) rfl) (ak (av (aE bL (bF (aa (pv 2) (aa (pv 3) af))) (bV iV rfl fe (by decide +kernel) (aa (dP bQ (aE az (pv 0) aq (λ_ _=>rfl)) aM (aF _)) af)) (λ_ _=>rfl)))) aG)
  (ag (aO (aC bQ (aE az (pv 0) aq (λ_ _=>rfl)) aM (aF _)) (ak (av (aK eU (pv 1) (aH fZ (hr.mono (by omega)) rfl (aa (aE az (pv 0) aq (λ_ _=>rfl)) (aa (pv 1) (aa (pv 2) (aa (pv 3) af)))))))) aG)
  (ak (av (aH yr (hr.mono (by omega)) rfl (aa (aE az (pv 0) aq (λ_ _=>rfl)) (aa (pv 1) (aa (aH fZ (hr.mono (by omega)) rfl (aa (aE az (pv 0) aq (λ_ _=>rfl)) (aa (pv 1) (aa (pv 2) (aa (pv 3) af))))) (aa (aH fZ (hr.mono (by omega)) rfl (aa (aE az (pv 0) aq (λ_ _=>rfl)) (aa (pv 1) (aa (pv 2) (aa (pv 3) af))))) af)))))))))),?_⟩
  cases tu with
  | never e =>
   refine ⟨_,rfl,_,_,_,_,rfl,rfl,SqT.of e,rfl,(by show 2<=sizeLine;decide),λp hp=>⟨p,_,rfl,.inr (SqT.of ae),rfl,rfl,_,rfl,jK na_ne ?_⟩⟩
   have s0:=ao hp (.tup [V.str "never",.str "always"])
   have dz:decide (V.str "never"=V.str "always")=false:=decide_eq_false (λz:V.str "never"=V.str "always"=>absurd (V.str.inj z) (by decide +kernel))
   refine ⟨_,rfl,_,rfl,_,_,_,_,rfl,rfl,SqT.of (s0 _ _ e),rfl,rfl,.inr ⟨_,rfl,_,_,rfl,rfl,(by rw [dz];exact eV (by decide +kernel)),?_⟩⟩
   rw [dz]
   have z:n*(if false=true then 1 else 0)=Tr.worth n x y .never:=by show n*0=0;omega
   exact (show Q (V.int (n*(if false=true then 1 else 0))) _ from by rw [z];exact q _ s0)
  | always e =>
   refine ⟨_,rfl,_,_,_,_,rfl,rfl,SqT.of e,rfl,(by show 2<=sizeLine;decide),λp hp=>⟨p,_,rfl,.inr (SqT.of ae),rfl,rfl,_,rfl,jK na_al ?_⟩⟩
   have s0:=ao hp (.tup [V.str "never",.str "always"])
   have dz:decide (V.str "always"=V.str "always")=true:=decide_eq_true (rfl:V.str "always"=V.str "always")
   refine ⟨_,rfl,_,rfl,_,_,_,_,rfl,rfl,SqT.of (s0 _ _ e),rfl,rfl,.inr ⟨_,rfl,_,_,rfl,rfl,(by rw [dz];exact eV (by decide +kernel)),?_⟩⟩
   rw [dz]
   have z:n*(if true=true then 1 else 0)=Tr.worth n x y .always:=by show n*1=n;omega
   exact (show Q (V.int (n*(if true=true then 1 else 0))) _ from by rw [z];exact q _ s0)
  | lp e =>
   refine ⟨_,rfl,_,_,_,_,rfl,rfl,SqT.of e,rfl,(by show 2<=sizeLine;decide),λp hp=>⟨p,_,rfl,.inr (SqT.of ae),rfl,rfl,_,rfl,jL na_p ?_⟩⟩
   have s0:=ao hp (.tup [V.str "never",.str "always"])
   refine ⟨_,rfl,_,_,_,_,rfl,rfl,SqT.of (s0 _ _ e),rfl,(by show 2<=sizeLine;decide),λp1 hp1=>⟨p1,_,rfl,.inr (SqT.of ae),rfl,rfl,_,rfl,jK pq_p ?_⟩⟩
   have s1:=s0.trans (ao hp1 (.tup [V.str "p",.str "q"]))
   refine ⟨_,rfl,_,rfl,(by show 2<=sizeLine;decide),λl hl=>?_⟩
   have s2:=s1.trans (ao hl (.lst [V.int x,.int y]))
   refine ⟨_,rfl,_,_,_,_,rfl,rfl,SqT.of (s2 _ _ e),rfl,rfl,.inr ⟨_,rfl,l,_,_,_,rfl,rfl,SqL.of ae,?_,q _ s2⟩⟩
   rw [decide_eq_false (λz:V.str "p"=V.str "q"=>absurd (V.str.inj z) (by decide +kernel))]
   rfl
  | lq e =>
   refine ⟨_,rfl,_,_,_,_,rfl,rfl,SqT.of e,rfl,(by show 2<=sizeLine;decide),λp hp=>⟨p,_,rfl,.inr (SqT.of ae),rfl,rfl,_,rfl,jL na_q ?_⟩⟩
   have s0:=ao hp (.tup [V.str "never",.str "always"])
   refine ⟨_,rfl,_,_,_,_,rfl,rfl,SqT.of (s0 _ _ e),rfl,(by show 2<=sizeLine;decide),λp1 hp1=>⟨p1,_,rfl,.inr (SqT.of ae),rfl,rfl,_,rfl,jK pq_q ?_⟩⟩
   have s1:=s0.trans (ao hp1 (.tup [V.str "p",.str "q"]))
   refine ⟨_,rfl,_,rfl,(by show 2<=sizeLine;decide),λl hl=>?_⟩
   have s2:=s1.trans (ao hl (.lst [V.int x,.int y]))
   refine ⟨_,rfl,_,_,_,_,rfl,rfl,SqT.of (s2 _ _ e),rfl,rfl,.inr ⟨_,rfl,l,_,_,_,rfl,rfl,SqL.of ae,?_,q _ s2⟩⟩
   rw [decide_eq_true (rfl:V.str "q"=V.str "q")]
   rfl
  | @no _ b t e tb =>
   have hz':t.size+1<=k+1:=hz
   refine ⟨_,rfl,_,_,_,_,rfl,rfl,SqT.of e,rfl,(by show 2<=sizeLine;decide),λp hp=>⟨p,_,rfl,.inr (SqT.of ae),rfl,rfl,_,rfl,jL na_not ?_⟩⟩
   have s0:=ao hp (.tup [V.str "never",.str "always"])
   refine ⟨_,rfl,_,_,_,_,rfl,rfl,SqT.of (s0 _ _ e),rfl,(by show 2<=sizeLine;decide),λp1 hp1=>⟨p1,_,rfl,.inr (SqT.of ae),rfl,rfl,_,rfl,jL Dn ?_⟩⟩
   have s1:=s0.trans (ao hp1 (.tup [V.str "p",.str "q"]))
   refine ⟨_,rfl,_,_,_,_,rfl,rfl,SqT.of (s1 _ _ e),rfl,rfl,_,rfl,ite_yes rfl ?_⟩
   refine ⟨_,rfl,_,rfl,_,_,_,_,rfl,rfl,SqT.of (s1 _ _ e),rfl,_,rfl,_,rfl,_,rfl,b,t,n,x,y,rfl,tb.to (Kp.of s1),by omega,λH2 s2=>⟨_,_,rfl,rfl,q _ (s1.trans s2)⟩⟩
  | @fold _ b d u t t' e tb td =>
   have hz':t.size+t'.size+1<=k+1:=hz
   refine ⟨_,rfl,_,_,_,_,rfl,rfl,SqT.of e,rfl,(by show 2<=sizeLine;decide),λp hp=>⟨p,_,rfl,.inr (SqT.of ae),rfl,rfl,_,rfl,jL (na_w u) ?_⟩⟩
   have s0:=ao hp (.tup [V.str "never",.str "always"])
   refine ⟨_,rfl,_,_,_,_,rfl,rfl,SqT.of (s0 _ _ e),rfl,(by show 2<=sizeLine;decide),λp1 hp1=>⟨p1,_,rfl,.inr (SqT.of ae),rfl,rfl,_,rfl,jL (pq_w u) ?_⟩⟩
   have s1:=s0.trans (ao hp1 (.tup [V.str "p",.str "q"]))
   refine ⟨_,rfl,_,_,_,_,rfl,rfl,SqT.of (s1 _ _ e),rfl,rfl,_,rfl,ite_no (w_not u) ?_⟩
   refine ⟨_,rfl,_,_,_,_,rfl,rfl,SqT.of (s1 _ _ e),rfl,_,rfl,_,rfl,_,_,_,_,rfl,rfl,SqT.of (s1 _ _ e),rfl,_,rfl,_,rfl,_,rfl,b,t,n,x,y,rfl,tb.to (Kp.of s1),by omega,λH2 s2=>?_⟩
   have s12:=s1.trans s2
   refine ⟨_,rfl,_,_,_,_,rfl,rfl,SqT.of (s12 _ _ e),rfl,_,rfl,_,rfl,_,rfl,d,t',n,x,y,rfl,td.to (Kp.of s12),by omega,λH3 s3=>?_⟩
   exact ⟨u,n,_,_,rfl,q _ (s12.trans s3)⟩
end
theorem wf_at {a:Tr} {T:Hu.Tc} {L:List (List T3)} {g:List T3} {p:T3} (sm:T.Sm 64) (eL:T.told Hu.sqH=some L) (hg:g∈L) (hp:p∈g) :
  0 < p.u/\(0<=p.v/\p.v<=p.u/\0<=p.w/\p.w<=p.u)/\Bg p.u/\Bg (a.worth p.u p.v p.w)/\Bg (WF a p).1/\Bg (WF a p).2/\0 < (WF a p).2/\Lo.gc (WF a p).1 (WF a p).2=1/\(WF a p).1*p.u=a.worth p.u p.v p.w*(WF a p).2:=by
 have hk:=Hu.Tc.kZ Hu.ny sm eL
 have cn:=Hu.Tc.told_cone Hu.ny sm eL
 have u0:=((hk g hg).1.ok p hp).n0
 have bx:=Hu.zR (cn g hg p hp)
 have ub:Bg p.u:=gU ((hk g hg).1.ok p hp).r.a (by decide)
 obtain ⟨v0,v1,w0,w1⟩:=bx
 have b:=jm (n:=p.u) (x:=p.v) (y:=p.w) (by omega) ⟨v0,v1⟩ ⟨w0,w1⟩ a
 have e:=zv (w:=a.worth p.u p.v p.w) u0
 exact ⟨u0,⟨v0,v1,w0,w1⟩,ub,Nat.lt_of_le_of_lt (by omega) ub,Nat.lt_of_le_of_lt (Lo.zt (by omega)) (Nat.lt_of_le_of_lt (by omega) ub),Nat.lt_of_le_of_lt (Lo.zw (by omega)) ub,e.2,Lo.low_gc (by omega),e.1⟩
theorem CL {t:Tr} {g:List T3} {rs:List T3} (ru:Hu.run g (pH t) []=.rules rs):∀ r,rs.getLast?=some r->∀ c∈g,t.worth c.u c.v c.w=Hu.tl r c:=λr hr c hc=>by
 rcases (CW t).run g with ⟨out,r',e,e1,e2⟩ | ⟨⟨k,x,e⟩,_⟩
 ·rw [ru] at e
  cases e
  rw [hr] at e1
  cases e1
  exact lL (Hu.jO hc) e2
 ·rw [ru] at e
  cases e
noncomputable abbrev Eb:List Str:=["_law_script","_law_cells","_law_tree","_law_rows","_law_turn","_law_found","_law_n","_law_x","_law_y"]
section
variable {P:Program} {w:World} {K:PySem.W.Frag} {mg:Str->Option Value} {base:Heap} {c:CCs}
theorem vc:aA Eb ["_law_script"] (ah vm):=L2.fsc rfl (by decide +kernel)
theorem ok_law {f:Addr} {fd:FuncData} (F:Fun K "law" "law" vm f fd) (kj:mg "range"=none) (aL:mg "isinstance"=none) (aP:mg "tuple"=none) (bf:mg "len"=none) (wK:Def P w K mg base 1 "_law_mixed" ["_law_script","_law_least"] (yH K)) (fM:Def P w K mg base 1 "_law_next" ["_law_cells"] sA) (qB:Def P w K mg base 63 "_law_few" ["_law_cells","_law_room","_law_most"] yM)
  (gY:Def P w K mg base 61 "_law_rows_to" ["_law_tree","_law_rows"] (Ck K 60)) (fo:Def P w K mg base 63 "_law_object" ["_law_tree"] (Cn c 60)) (qP:Def P w K mg base 16 "least_worth" ["saying"] (spLW c K)) (kX:Def P w K mg base 2 "_law_is_fraction" ["_law_found"] (spLFr K)) (nZ:Def P w K mg base 2 "_law_is_point" ["_law_found"] (spLPt K))
  (D__law_holds : Def P w K mg base 14 "_law_holds" ["_law_tree", "_law_rows", "_law_top", "_law_bottom"] (uM K)) (fZ : Def P w K mg base 62 "_law_worth" ["_law_tree", "_law_n", "_law_x", "_law_y"] (yF 60)) : mj P w K mg base CX0 80 f fd ["_law_script"] (spLaw K) := by
 refine F.ok vc (λvs H Q E h=>?_) (λcdv A outer s H vs Q E hr h=>?_)
 ·obtain ⟨a,ns,rfl,_⟩:=h
  rfl
 obtain ⟨a,ns,rfl,S,q⟩:=h
 have nd:=vc.nd
 have t3:∃ t,ui (cS CX0 P w K mg base Eb "law" (ah vm) f cdv A outer s H E).nox ((bu vm).drop 3) t/\∀(o1 o3 o4 o5 o6 o7 o8:Option V) (ta:Addr) (x:Tr) (H1:Hp),Tu H1 ta x->x.size<=60->x.nf<=8->
   t {nx:=λ_ H'=>Q .non H',rt:=Q} [some (.ref a),o1,some (.ref ta),o3,o4,o5,o6,o7,o8] H1:=by
  refine ⟨_,⟨(ag (aJ (i:=3) nd rfl (Or.inl rfl) (bF af))
  (ag (bb (aH gY (hr.mono (by decide)) rfl (aa (pv 2) (aa (pv 3) af))))
  (ag (fD PassesOwn.never rfl (rA rfl kj (ia af)) (aV (i:=4) nd rfl (Or.inl rfl)) (ag (aJ (i:=5) nd rfl (Or.inl rfl) (aH qP (hr.mono (by decide)) rfl (aa (aH fo (hr.mono (by omega)) rfl (aa (pv 2) af)) af)))
  (ag (aO (PW.pt (fW (dU (dj (aB gF rfl aL (by decide +kernel) (aa (pv 5) (aa (fT (v:=V.ty "tuple") rfl aP (by decide +kernel) rfl) af))))) (fW (aC lS (aB bz rfl bf (by decide +kernel) (aa (pv 5) af)) aq (aF _)) (gN (dU (dj (aH kX (hr.mono (by decide)) rfl (aa (aE az (pv 5) aq (λ_ _=>rfl)) af)))))))) (ak (av hZ)) aG)
  (ag (aO (PW.pt (fW (dU (dj (aH nZ (hr.mono (by decide)) rfl (aa (aE az (pv 5) aq (fun _ _ => rfl)) af)))) (gN (dU (dj (aH D__law_holds (hr.mono (by decide)) rfl (aa (aE az (pv 5) aq (fun _ _ => rfl)) (aa (pv 3) (aa (aE az (aE az (pv 5) aq (fun _ _ => rfl)) aq (fun _ _ => rfl)) (aa (aE az (aE az (pv 5) aq (fun _ _ => rfl)) aq (fun _ _ => rfl)) af)))))))))) (ak (av hZ)) aG)
  (ag (sY (aE az (pv 5) aq (λ_ _=>rfl)) (jB rfl (bg (aV (i:=6) nd rfl (Or.inl rfl)) (bg (aV (i:=7) nd rfl (Or.inl rfl)) (bg (aV (i:=8) nd rfl (Or.inl rfl)) dO)))))
  (ak (aO (aC lS (aK bE (aH fZ (hr.mono (by omega)) rfl (aa (pv 2) (aa (pv 6) (aa (pv 7) (aa (pv 8) af))))) (aE az (aE az (pv 5) aq (λ_ _=>rfl)) aq (λ_ _=>rfl))) (aK bE (aE az (aE az (pv 5) aq (λ_ _=>rfl)) aq (λ_ _=>rfl)) (pv 6)) (aF _)) (ak (av hZ)) aG)))))))
  (ak (av hZ)))))⟩,?_⟩
  intro o1 o3 o4 o5 o6 o7 o8 ta x H1 tu sz n8
  refine ⟨(by show 0<=sizeLine;decide),λlr hlr=>?_⟩
  have u1:=ao hlr (.lst [])
  refine ⟨_,rfl,_,rfl,ta,lr,x,[],[],rfl,tu.to (Kp.of u1),sz,ae,.nil,by simp;omega,(λ_ z=>nomatch z),λH2 us sb el rv=>?_⟩
  have e1:upd H1 lr (.lst []) lr=some (.lst []):=ae
  have kp2:Kp (upd H1 lr (.lst [])) H2:=sb.kp λa' o' z1 z2=>by cases z1;rw [e1] at z2;cases z2;rfl
  have tu2:=(tu.to (Kp.of u1)).to kp2
  have R:=CW x
  have rl0:=R.len
  refine ⟨2,rfl,by decide,by decide,rR (n:=2) (λi σ H'=>aI H2 H'/\∃ o4 o5 o6 o7 o8,σ=[some (.ref a),o1,some (.ref ta),some (.ref lr),o4,o5,o6,o7,o8]) ⟨aI.refl _,_,_,_,_,_,rfl⟩ (λi σ H3 hi z=>?_) (fun σ H3 z=>?_)⟩
  ·obtain ⟨s3,o4,o5,o6,o7,o8,rfl⟩:=z
   refine ⟨_,rfl,ta,x,rfl,tu2.to (Kp.of s3),sz,λo H4 s4 ob=>?_⟩
   refine ⟨o,x,rfl,ob,sz,n8,λp vl vp vt pt T L H5 s5 ep fvl dpt dT sm dp cu eL kL hpt kpt=>?_⟩
   obtain ⟨g,hg,hpg⟩:=hpt
   have sm64:T.Sm 64:=sm.mono (by decide)
   obtain ⟨u0,bx,ub,wb,b1,b2,f0,g1,eq1⟩:=wf_at (a:=x) sm64 eL hg hpg
   have s25:=(s3.trans s4).trans s5
   refine ⟨_,rfl,p,_,_,_,true,rfl,(λ_ h=>h),SqT.of ep,fX,_,rfl,bB ?_⟩
   refine ⟨_,rfl,_,_,rfl,.inr ⟨_,SqT.of ep,rfl⟩,rfl,_,rfl,bB ?_⟩
   refine ⟨_,rfl,_,_,_,_,rfl,rfl,SqT.of ep,rfl,vl,WF x pt,rfl,fvl,f0,g1,λH6 s6=>⟨_,rfl,bB ?_⟩⟩
   have ep6:=s6 _ _ ep
   refine ⟨_,rfl,_,_,_,_,rfl,rfl,SqT.of ep6,rfl,vp,pt,rfl,dpt.ts s6.ts,u0,bx.1,bx.2.1,bx.2.2.1,bx.2.2.2,λH7 s7=>⟨_,rfl,bB ?_⟩⟩
   have ep7:=s7 _ _ ep6
   have s57:=s6.trans s7
   have s27:=s25.trans s57
   obtain ⟨fa,rfl,sf⟩:=fvl
   have sf7:=sf.ts s57.ts
   refine ⟨_,rfl,_,_,_,_,rfl,rfl,SqT.of ep7,rfl,_,rfl,_,rfl,_,_,_,_,rfl,rfl,SqT.of ep7,rfl,_,_,_,_,rfl,rfl,sf7,rfl,_,rfl,_,_,_,_,rfl,rfl,SqT.of ep7,rfl,_,_,_,_,rfl,rfl,sf7,rfl,?_⟩
   refine ⟨vt,lr,us,pH x,(WF x pt).1,(WF x pt).2,T,L,rfl,s27 _ _ el,R.dat (rv.imp (RwV.to (Kp.of s27))),R.ok,R.pos,by omega,b1,b2,sm64,dp,by omega,dT.ts s57.ts,eL,λg' hg'=>?_,λH8 s8=>⟨_,rfl,bB ?_⟩⟩
   ·obtain ⟨rs,ru⟩:=kL g' hg'
    refine ⟨rs,ru,λr hr c hc=>?_⟩
    rw [<- CL ru r hr c hc]
    exact kpt g' hg' c hc
   have ep8:=s8 _ _ ep7
   have s58:=s57.trans s8
   have sf8:=sf.ts s58.ts
   obtain ⟨pa,rfl,sp⟩:=dH dpt
   refine ⟨_,rfl,_,_,_,_,rfl,rfl,SqT.of ep8,rfl,pa,_,rfl,sp.ts s58.ts,rfl,_,_,rfl,_,_,rfl,_,_,rfl,rfl,?_⟩
   refine ⟨_,rfl,_,rfl,_,rfl,_,rfl,ta,x,pt.u,pt.v,pt.w,rfl,tu2.to (Kp.of (s25.trans s58)),sz,λH9 s9=>?_⟩
   have ep9:=s9 _ _ ep8
   have sf9:=sf8.ts s9.ts
   refine ⟨_,rfl,_,_,_,_,rfl,rfl,SqT.of ep9,rfl,_,_,_,_,rfl,rfl,sf9,rfl,_,_,rfl,rfl,gP wb b2,_,rfl,_,_,_,_,rfl,rfl,SqT.of ep9,rfl,_,_,_,_,rfl,rfl,sf9,rfl,_,rfl,_,_,rfl,rfl,gP b1 ub,rfl,_,rfl,?_⟩
   exact iteNS (congrArg V.int eq1.symm) ⟨(s25.trans s58).trans s9,_,_,_,_,_,rfl⟩
  ·obtain ⟨s3,o4,o5,o6,o7,o8,rfl⟩:=z
   exact q _
 obtain ⟨t3,ht3,k3⟩:=t3
 refine ⟨_,ag (aJ (i:=1) nd rfl (Or.inl rfl) (aH wK (hr.mono (by omega)) rfl (aa (pv 0) (ia af)))) (ag (aJ (i:=2) nd rfl (Or.inl rfl) (aH qB (hr.mono (by decide)) rfl (aa (pv 1) (ia (ia af))))) (Au (aO (aC bQ (aK gp (aH fM (hr.mono (by omega)) rfl (aa (pv 1) af)) aq) aq (aF _)) (ak (aJ (i:=2) nd rfl (Or.inl rfl) (aH qB (hr.mono (by decide)) rfl (aa (pv 1) (ia (ia af)))))) aG) ht3)),?_⟩
 refine ⟨_,rfl,a,ns,60,rfl,S,by decide,by decide,λC ms H1 s1 fC eC cel=>?_⟩
 refine ⟨_,rfl,C,ms,20,6,rfl,eC,cel,by decide,by decide,by decide,λa1 t1 ms1 H2 sz nf c1 sb1 e1 tu1=>?_⟩
 refine ⟨_,rfl,C,ms1,rfl,e1,c1,λi ms2 H3 ci c2 sb2 e2=>⟨_,_,rfl,rfl,(by show (0:Int) < 8;decide),rfl,_,rfl,dB (λ_=>?_) (λ_=>?_)⟩⟩
 ·refine ⟨_,rfl,C,ms2,30,8,rfl,e2,c2,by decide,by decide,by decide,λa3 t3 ms3 H4 sz nf c3 sb3 e3 tu3=>?_⟩
  exact k3 _ _ _ _ _ _ _ a3 t3 H4 tu3 (by omega) (by omega)
 ·have kp3:Kp H2 H3:=sb2.kp λa' o' z1 z2=>by cases z1;rw [e1] at z2;cases z2;rfl
  exact k3 _ _ _ _ _ _ _ a1 t1 H3 (tu1.to kp3) (by omega) (by omega)
end
end Mine
namespace L2
open PySem PySem.Spec PyProof.Rows
structure cU (K:PySem.W.Frag) (x qual:Str) (st:Stmt) (f:Addr):Prop where
 ex:∃ fd:FuncData,Fun K x qual st f fd
 fn:PySem.W.isFn K (.ref f)=true
theorem aZ {K:PySem.W.Frag} {x qual:Str} {st:Stmt} {f:Addr} {oc kV doc pm cdv ct:Value} {od an:Option Addr} {osl:Array (Option Value)} (l:K.lookup f=some ⟨oc,od,.func (PySem.W.fnOf x qual (eY st) (bu st) (ah st) .none kV doc pm an cdv ct),osl⟩)
  (c:PySem.W.codeIn K cdv qual=true) (k:PySem.W.keepIn K (.ref f)=true) (fn:PySem.W.isFn K (.ref f)=true):cU K x qual st f:=⟨⟨_,Ep l c k⟩,fn⟩
theorem cU.meth {K:PySem.W.Frag} {x qual:Str} {st:Stmt} {f C:Addr} (e:cU K x qual st f) (cl:Cls K C) (g:PySem.W.findIn K (.ref C) x=some (some (.ref f))):aR K C x qual st:=by
 obtain ⟨fd,F⟩:=e.ex
 exact ⟨cl,f,fd,⟨g,e.fn,F.kp⟩,F⟩
theorem cU.made {K:PySem.W.Frag} {mg:Str->Option Value} {x qual:Str} {st:Stmt} {f C:Addr} (e:cU K "__init__" qual st f) (cl:Cls K C) (g:PySem.W.findIn K (.ref C) "__init__"=some (some (.ref f))) (m:mg x=some (.ref C)) (y:PySem.W.makesIn K C=true) (z:PySem.W.keepIn K (.ref C)=true):MkF K mg x C qual st:=by
 obtain ⟨fd,F⟩:=e.ex
 exact ⟨cl,m,f,fd,⟨y,g,e.fn,z⟩,F⟩
end L2
open PySem PySem.W PyProof.Rows
structure Mine.AllF (K:Frag) (mg:Str->Option Value) (c:Mine.CCs):Prop where
 fx:Mine.Fx K c
 madeS_ne:L2.aR K c.ne "made_of" "Saying.made_of" Mine.bU
 madeS_al:L2.aR K c.al "made_of" "Saying.made_of" Mine.bU
 madeS_le:L2.aR K c.le "made_of" "Saying.made_of" Mine.bU
 piecesS_ne:L2.aR K c.ne "pieces" "Saying.pieces" Mine.ck
 piecesS_al:L2.aR K c.al "pieces" "Saying.pieces" Mine.ck
 piecesS_le:L2.aR K c.le "pieces" "Saying.pieces" Mine.ck
 laid:∀ t,L2.aR K (c.of t) "laid_out" "Saying.laid_out" Mine.eJ
 told:∀ t,L2.aR K (c.of t) "told" "Saying.told" Mine.kA
 out:∀ t,L2.aR K (c.of t) "out_of" "Saying.out_of" Mine.gk
 parts:∀ t,L2.aR K (c.of t) "parts" "Saying.parts" Mine.jA
 foldsS:∀ t,L2.aR K (c.of t) "folds" "Saying.folds" Mine.cJ
 Kne_ne:L2.aR K c.ne "making_word" "Never.making_word" Mine.cE
 Wne_ne:L2.aR K c.ne "weigh" "Never.weigh" Mine.fO
 Kal_al:L2.aR K c.al "making_word" "Always.making_word" Mine.cy
 Wal_al:L2.aR K c.al "weigh" "Always.weigh" Mine.eP
 Kle_le:L2.aR K c.le "making_word" "Letter.making_word" Mine.bD
 Wle_le:L2.aR K c.le "weigh" "Letter.weigh" Mine.cK
 Kno_no:L2.aR K c.no "making_word" "Not.making_word" Mine.cV
 Wno_no:L2.aR K c.no "weigh" "Not.weigh" Mine.hV
 Mno_no:L2.aR K c.no "made_of" "Not.made_of" Mine.fN
 Pno_no:L2.aR K c.no "pieces" "Not.pieces" Mine.gv
 Mfo:∀ u,L2.aR K (c.fold u) "made_of" "Fold.made_of" Mine.eO
 Pfo:∀ u,L2.aR K (c.fold u) "pieces" "Fold.pieces" Mine.fS
 Wfo:∀ u,L2.aR K (c.fold u) "weigh" "Fold.weigh" Mine.gw
 F0mo_mo:L2.aR K c.mo "making_word" "More.making_word" Mine.cO
 F1mo_mo:L2.aR K c.mo "folded" "More.folded" Mine.fP
 F0ls_ls:L2.aR K c.ls "making_word" "Less.making_word" Mine.cP
 F1ls_ls:L2.aR K c.ls "folded" "Less.folded" Mine.fR
 F0gr_gr:L2.aR K c.gr "making_word" "Greater.making_word" Mine.bY
 F1gr_gr:L2.aR K c.gr "folded" "Greater.folded" Mine.dk
 F0lr_lr:L2.aR K c.lr "making_word" "Lesser.making_word" Mine.cw
 F1lr_lr:L2.aR K c.lr "folded" "Lesser.folded" Mine.dN
 F0ld_ld:L2.aR K c.ld "making_word" "Leads.making_word" Mine.cF
 F1ld_ld:L2.aR K c.ld "folded" "Leads.folded" Mine.eM
 ile:L2.MkF K mg "Letter" c.le "Letter.__init__" Mine.fQ
 ino:L2.MkF K mg "Not" c.no "Not.__init__" Mine.ja
 ifo:∀ u,L2.MkF K mg (Mine.W5.cls u) (c.fold u) "Fold.__init__" Mine.hX
 o_ne:L2.Mk0 K c.ne
 r_ne:mg "Never"=some (.ref c.ne)
 o_al:L2.Mk0 K c.al
 r_al:mg "Always"=some (.ref c.al)
theorem Mine.all_mk {K:Frag} {h:Heap} {mg:Str->Option Value} {ne al le no mo ls gr lr ld f_madeS f_piecesS f_laid f_told f_out f_parts f_foldsS f_Kne f_Wne f_Kal f_Wal f_Kle f_Wle f_Kno f_Wno f_Mno f_Pno f_Mfo f_Pfo f_Wfo f_F0mo f_F1mo f_F0ls f_F1ls f_F0gr f_F1gr f_F0lr f_F1lr f_F0ld f_F1ld f_ile f_ino f_ifo:Addr} (X:K.In h) (G:h.Ns mainGlobals mg)
  (n_ne:nsIn K mainGlobals "Never"=some (some (.ref ne)))
  (n_al:nsIn K mainGlobals "Always"=some (some (.ref al)))
  (n_le:nsIn K mainGlobals "Letter"=some (some (.ref le)))
  (n_no:nsIn K mainGlobals "Not"=some (some (.ref no)))
  (n_mo:nsIn K mainGlobals "More"=some (some (.ref mo)))
  (n_ls:nsIn K mainGlobals "Less"=some (some (.ref ls)))
  (n_gr:nsIn K mainGlobals "Greater"=some (some (.ref gr)))
  (n_lr:nsIn K mainGlobals "Lesser"=some (some (.ref lr)))
  (n_ld:nsIn K mainGlobals "Leads"=some (some (.ref ld)))
  (c_ne:L2.Cls K ne)
  (c_al:L2.Cls K al)
  (c_le:L2.Cls K le)
  (c_no:L2.Cls K no)
  (c_mo:L2.Cls K mo)
  (c_ls:L2.Cls K ls)
  (c_gr:L2.Cls K gr)
  (c_lr:L2.Cls K lr)
  (c_ld:L2.Cls K ld)
  (h_ne:findIn K (.ref ne) "__class__"=some (some (.builtin "object.__class__")))
  (h_al:findIn K (.ref al) "__class__"=some (some (.builtin "object.__class__")))
  (h_le:findIn K (.ref le) "__class__"=some (some (.builtin "object.__class__")))
  (h_no:findIn K (.ref no) "__class__"=some (some (.builtin "object.__class__")))
  (h_mo:findIn K (.ref mo) "__class__"=some (some (.builtin "object.__class__")))
  (h_ls:findIn K (.ref ls) "__class__"=some (some (.builtin "object.__class__")))
  (h_gr:findIn K (.ref gr) "__class__"=some (some (.builtin "object.__class__")))
  (h_lr:findIn K (.ref lr) "__class__"=some (some (.builtin "object.__class__")))
  (h_ld:findIn K (.ref ld) "__class__"=some (some (.builtin "object.__class__")))
  (m_ne:mroIn K ne (.type "object")=some true)
  (m_al:mroIn K al (.type "object")=some true)
  (m_le:mroIn K le (.type "object")=some true)
  (m_no:mroIn K no (.type "object")=some true)
  (m_mo:mroIn K mo (.type "object")=some true)
  (m_ls:mroIn K ls (.type "object")=some true)
  (m_gr:mroIn K gr (.type "object")=some true)
  (m_lr:mroIn K lr (.type "object")=some true)
  (m_ld:mroIn K ld (.type "object")=some true)
  (s_ne:kitOne K (.ref ne) (.type "str")=some false)
  (s_al:kitOne K (.ref al) (.type "str")=some false)
  (s_le:kitOne K (.ref le) (.type "str")=some false)
  (s_no:kitOne K (.ref no) (.type "str")=some false)
  (s_mo:kitOne K (.ref mo) (.type "str")=some false)
  (s_ls:kitOne K (.ref ls) (.type "str")=some false)
  (s_gr:kitOne K (.ref gr) (.type "str")=some false)
  (s_lr:kitOne K (.ref lr) (.type "str")=some false)
  (s_ld:kitOne K (.ref ld) (.type "str")=some false)
  (hn:specialIn K (.builtin "object.__class__") "__get__"=some (some (.builtin "getset_descriptor.__get__")))
  (tk:takesIn K (.builtin "object.__class__")=some true)
  (a_name:findIn K (.ref le) "name"=some none)
  (a_part:findIn K (.ref no) "part"=some none)
  (a_one_mo:findIn K (.ref mo) "one"=some none)
  (a_one_ls:findIn K (.ref ls) "one"=some none)
  (a_one_gr:findIn K (.ref gr) "one"=some none)
  (a_one_lr:findIn K (.ref lr) "one"=some none)
  (a_one_ld:findIn K (.ref ld) "one"=some none)
  (a_other_mo:findIn K (.ref mo) "other"=some none)
  (a_other_ls:findIn K (.ref ls) "other"=some none)
  (a_other_gr:findIn K (.ref gr) "other"=some none)
  (a_other_lr:findIn K (.ref lr) "other"=some none)
  (a_other_ld:findIn K (.ref ld) "other"=some none)
  (g_madeS_ne:findIn K (.ref ne) "made_of"=some (some (.ref f_madeS)))
  (g_madeS_al:findIn K (.ref al) "made_of"=some (some (.ref f_madeS)))
  (g_madeS_le:findIn K (.ref le) "made_of"=some (some (.ref f_madeS)))
  (e_madeS:L2.cU K "made_of" "Saying.made_of" Mine.bU f_madeS)
  (g_piecesS_ne:findIn K (.ref ne) "pieces"=some (some (.ref f_piecesS)))
  (g_piecesS_al:findIn K (.ref al) "pieces"=some (some (.ref f_piecesS)))
  (g_piecesS_le:findIn K (.ref le) "pieces"=some (some (.ref f_piecesS)))
  (e_piecesS:L2.cU K "pieces" "Saying.pieces" Mine.ck f_piecesS)
  (g_laid_ne:findIn K (.ref ne) "laid_out"=some (some (.ref f_laid)))
  (g_laid_al:findIn K (.ref al) "laid_out"=some (some (.ref f_laid)))
  (g_laid_le:findIn K (.ref le) "laid_out"=some (some (.ref f_laid)))
  (g_laid_no:findIn K (.ref no) "laid_out"=some (some (.ref f_laid)))
  (g_laid_mo:findIn K (.ref mo) "laid_out"=some (some (.ref f_laid)))
  (g_laid_ls:findIn K (.ref ls) "laid_out"=some (some (.ref f_laid)))
  (g_laid_gr:findIn K (.ref gr) "laid_out"=some (some (.ref f_laid)))
  (g_laid_lr:findIn K (.ref lr) "laid_out"=some (some (.ref f_laid)))
  (g_laid_ld:findIn K (.ref ld) "laid_out"=some (some (.ref f_laid)))
  (e_laid:L2.cU K "laid_out" "Saying.laid_out" Mine.eJ f_laid)
  (g_told_ne:findIn K (.ref ne) "told"=some (some (.ref f_told)))
  (g_told_al:findIn K (.ref al) "told"=some (some (.ref f_told)))
  (g_told_le:findIn K (.ref le) "told"=some (some (.ref f_told)))
  (g_told_no:findIn K (.ref no) "told"=some (some (.ref f_told)))
  (g_told_mo:findIn K (.ref mo) "told"=some (some (.ref f_told)))
  (g_told_ls:findIn K (.ref ls) "told"=some (some (.ref f_told)))
  (g_told_gr:findIn K (.ref gr) "told"=some (some (.ref f_told)))
  (g_told_lr:findIn K (.ref lr) "told"=some (some (.ref f_told)))
  (g_told_ld:findIn K (.ref ld) "told"=some (some (.ref f_told)))
  (e_told:L2.cU K "told" "Saying.told" Mine.kA f_told)
  (g_out_ne:findIn K (.ref ne) "out_of"=some (some (.ref f_out)))
  (g_out_al:findIn K (.ref al) "out_of"=some (some (.ref f_out)))
  (g_out_le:findIn K (.ref le) "out_of"=some (some (.ref f_out)))
  (g_out_no:findIn K (.ref no) "out_of"=some (some (.ref f_out)))
  (g_out_mo:findIn K (.ref mo) "out_of"=some (some (.ref f_out)))
  (g_out_ls:findIn K (.ref ls) "out_of"=some (some (.ref f_out)))
  (g_out_gr:findIn K (.ref gr) "out_of"=some (some (.ref f_out)))
  (g_out_lr:findIn K (.ref lr) "out_of"=some (some (.ref f_out)))
  (g_out_ld:findIn K (.ref ld) "out_of"=some (some (.ref f_out)))
  (e_out:L2.cU K "out_of" "Saying.out_of" Mine.gk f_out)
  (g_parts_ne:findIn K (.ref ne) "parts"=some (some (.ref f_parts)))
  (g_parts_al:findIn K (.ref al) "parts"=some (some (.ref f_parts)))
  (g_parts_le:findIn K (.ref le) "parts"=some (some (.ref f_parts)))
  (g_parts_no:findIn K (.ref no) "parts"=some (some (.ref f_parts)))
  (g_parts_mo:findIn K (.ref mo) "parts"=some (some (.ref f_parts)))
  (g_parts_ls:findIn K (.ref ls) "parts"=some (some (.ref f_parts)))
  (g_parts_gr:findIn K (.ref gr) "parts"=some (some (.ref f_parts)))
  (g_parts_lr:findIn K (.ref lr) "parts"=some (some (.ref f_parts)))
  (g_parts_ld:findIn K (.ref ld) "parts"=some (some (.ref f_parts)))
  (e_parts:L2.cU K "parts" "Saying.parts" Mine.jA f_parts)
  (g_foldsS_ne:findIn K (.ref ne) "folds"=some (some (.ref f_foldsS)))
  (g_foldsS_al:findIn K (.ref al) "folds"=some (some (.ref f_foldsS)))
  (g_foldsS_le:findIn K (.ref le) "folds"=some (some (.ref f_foldsS)))
  (g_foldsS_no:findIn K (.ref no) "folds"=some (some (.ref f_foldsS)))
  (g_foldsS_mo:findIn K (.ref mo) "folds"=some (some (.ref f_foldsS)))
  (g_foldsS_ls:findIn K (.ref ls) "folds"=some (some (.ref f_foldsS)))
  (g_foldsS_gr:findIn K (.ref gr) "folds"=some (some (.ref f_foldsS)))
  (g_foldsS_lr:findIn K (.ref lr) "folds"=some (some (.ref f_foldsS)))
  (g_foldsS_ld:findIn K (.ref ld) "folds"=some (some (.ref f_foldsS)))
  (e_foldsS:L2.cU K "folds" "Saying.folds" Mine.cJ f_foldsS)
  (g_Kne_ne:findIn K (.ref ne) "making_word"=some (some (.ref f_Kne)))
  (e_Kne:L2.cU K "making_word" "Never.making_word" Mine.cE f_Kne)
  (g_Wne_ne:findIn K (.ref ne) "weigh"=some (some (.ref f_Wne)))
  (e_Wne:L2.cU K "weigh" "Never.weigh" Mine.fO f_Wne)
  (g_Kal_al:findIn K (.ref al) "making_word"=some (some (.ref f_Kal)))
  (e_Kal:L2.cU K "making_word" "Always.making_word" Mine.cy f_Kal)
  (g_Wal_al:findIn K (.ref al) "weigh"=some (some (.ref f_Wal)))
  (e_Wal:L2.cU K "weigh" "Always.weigh" Mine.eP f_Wal)
  (g_Kle_le:findIn K (.ref le) "making_word"=some (some (.ref f_Kle)))
  (e_Kle:L2.cU K "making_word" "Letter.making_word" Mine.bD f_Kle)
  (g_Wle_le:findIn K (.ref le) "weigh"=some (some (.ref f_Wle)))
  (e_Wle:L2.cU K "weigh" "Letter.weigh" Mine.cK f_Wle)
  (g_Kno_no:findIn K (.ref no) "making_word"=some (some (.ref f_Kno)))
  (e_Kno:L2.cU K "making_word" "Not.making_word" Mine.cV f_Kno)
  (g_Wno_no:findIn K (.ref no) "weigh"=some (some (.ref f_Wno)))
  (e_Wno:L2.cU K "weigh" "Not.weigh" Mine.hV f_Wno)
  (g_Mno_no:findIn K (.ref no) "made_of"=some (some (.ref f_Mno)))
  (e_Mno:L2.cU K "made_of" "Not.made_of" Mine.fN f_Mno)
  (g_Pno_no:findIn K (.ref no) "pieces"=some (some (.ref f_Pno)))
  (e_Pno:L2.cU K "pieces" "Not.pieces" Mine.gv f_Pno)
  (g_Mfo_mo:findIn K (.ref mo) "made_of"=some (some (.ref f_Mfo)))
  (g_Mfo_ls:findIn K (.ref ls) "made_of"=some (some (.ref f_Mfo)))
  (g_Mfo_gr:findIn K (.ref gr) "made_of"=some (some (.ref f_Mfo)))
  (g_Mfo_lr:findIn K (.ref lr) "made_of"=some (some (.ref f_Mfo)))
  (g_Mfo_ld:findIn K (.ref ld) "made_of"=some (some (.ref f_Mfo)))
  (e_Mfo:L2.cU K "made_of" "Fold.made_of" Mine.eO f_Mfo)
  (g_Pfo_mo:findIn K (.ref mo) "pieces"=some (some (.ref f_Pfo)))
  (g_Pfo_ls:findIn K (.ref ls) "pieces"=some (some (.ref f_Pfo)))
  (g_Pfo_gr:findIn K (.ref gr) "pieces"=some (some (.ref f_Pfo)))
  (g_Pfo_lr:findIn K (.ref lr) "pieces"=some (some (.ref f_Pfo)))
  (g_Pfo_ld:findIn K (.ref ld) "pieces"=some (some (.ref f_Pfo)))
  (e_Pfo:L2.cU K "pieces" "Fold.pieces" Mine.fS f_Pfo)
  (g_Wfo_mo:findIn K (.ref mo) "weigh"=some (some (.ref f_Wfo)))
  (g_Wfo_ls:findIn K (.ref ls) "weigh"=some (some (.ref f_Wfo)))
  (g_Wfo_gr:findIn K (.ref gr) "weigh"=some (some (.ref f_Wfo)))
  (g_Wfo_lr:findIn K (.ref lr) "weigh"=some (some (.ref f_Wfo)))
  (g_Wfo_ld:findIn K (.ref ld) "weigh"=some (some (.ref f_Wfo)))
  (e_Wfo:L2.cU K "weigh" "Fold.weigh" Mine.gw f_Wfo)
  (g_F0mo_mo:findIn K (.ref mo) "making_word"=some (some (.ref f_F0mo)))
  (e_F0mo:L2.cU K "making_word" "More.making_word" Mine.cO f_F0mo)
  (g_F1mo_mo:findIn K (.ref mo) "folded"=some (some (.ref f_F1mo)))
  (e_F1mo:L2.cU K "folded" "More.folded" Mine.fP f_F1mo)
  (g_F0ls_ls:findIn K (.ref ls) "making_word"=some (some (.ref f_F0ls)))
  (e_F0ls:L2.cU K "making_word" "Less.making_word" Mine.cP f_F0ls)
  (g_F1ls_ls:findIn K (.ref ls) "folded"=some (some (.ref f_F1ls)))
  (e_F1ls:L2.cU K "folded" "Less.folded" Mine.fR f_F1ls)
  (g_F0gr_gr:findIn K (.ref gr) "making_word"=some (some (.ref f_F0gr)))
  (e_F0gr:L2.cU K "making_word" "Greater.making_word" Mine.bY f_F0gr)
  (g_F1gr_gr:findIn K (.ref gr) "folded"=some (some (.ref f_F1gr)))
  (e_F1gr:L2.cU K "folded" "Greater.folded" Mine.dk f_F1gr)
  (g_F0lr_lr:findIn K (.ref lr) "making_word"=some (some (.ref f_F0lr)))
  (e_F0lr:L2.cU K "making_word" "Lesser.making_word" Mine.cw f_F0lr)
  (g_F1lr_lr:findIn K (.ref lr) "folded"=some (some (.ref f_F1lr)))
  (e_F1lr:L2.cU K "folded" "Lesser.folded" Mine.dN f_F1lr)
  (g_F0ld_ld:findIn K (.ref ld) "making_word"=some (some (.ref f_F0ld)))
  (e_F0ld:L2.cU K "making_word" "Leads.making_word" Mine.cF f_F0ld)
  (g_F1ld_ld:findIn K (.ref ld) "folded"=some (some (.ref f_F1ld)))
  (e_F1ld:L2.cU K "folded" "Leads.folded" Mine.eM f_F1ld)
  (g_ile_le:findIn K (.ref le) "__init__"=some (some (.ref f_ile)))
  (e_ile:L2.cU K "__init__" "Letter.__init__" Mine.fQ f_ile)
  (g_ino_no:findIn K (.ref no) "__init__"=some (some (.ref f_ino)))
  (e_ino:L2.cU K "__init__" "Not.__init__" Mine.ja f_ino)
  (g_ifo_mo:findIn K (.ref mo) "__init__"=some (some (.ref f_ifo)))
  (g_ifo_ls:findIn K (.ref ls) "__init__"=some (some (.ref f_ifo)))
  (g_ifo_gr:findIn K (.ref gr) "__init__"=some (some (.ref f_ifo)))
  (g_ifo_lr:findIn K (.ref lr) "__init__"=some (some (.ref f_ifo)))
  (g_ifo_ld:findIn K (.ref ld) "__init__"=some (some (.ref f_ifo)))
  (e_ifo:L2.cU K "__init__" "Fold.__init__" Mine.hX f_ifo)
  (i_ne:findIn K (.ref ne) "__init__"=some (some (.builtin "object.__init__")))
  (i_al:findIn K (.ref al) "__init__"=some (some (.builtin "object.__init__")))
  (y_ne:makesIn K ne=true)
  (y_al:makesIn K al=true)
  (y_le:makesIn K le=true)
  (y_no:makesIn K no=true)
  (y_mo:makesIn K mo=true)
  (y_ls:makesIn K ls=true)
  (y_gr:makesIn K gr=true)
  (y_lr:makesIn K lr=true)
  (y_ld:makesIn K ld=true)
  (z_ne:keepIn K (.ref ne)=true)
  (z_al:keepIn K (.ref al)=true)
  (z_le:keepIn K (.ref le)=true)
  (z_no:keepIn K (.ref no)=true)
  (z_mo:keepIn K (.ref mo)=true)
  (z_ls:keepIn K (.ref ls)=true)
  (z_gr:keepIn K (.ref gr)=true)
  (z_lr:keepIn K (.ref lr)=true)
  (z_ld:keepIn K (.ref ld)=true) :
  ∃ c,Mine.AllF K mg c:=by
 refine ⟨⟨ne,al,le,no,mo,ls,gr,lr,ld⟩,?_⟩
 refine ⟨?_,
  ?_,
  ?_,
  ?_,
  ?_,
  ?_,
  ?_,
  ?_,
  ?_,
  ?_,
  ?_,
  ?_,
  ?_,
  ?_,
  ?_,
  ?_,
  ?_,
  ?_,
  ?_,
  ?_,
  ?_,
  ?_,
  ?_,
  ?_,
  ?_,
  ?_,
  ?_,
  ?_,
  ?_,
  ?_,
  ?_,
  ?_,
  ?_,
  ?_,
  ?_,
  ?_,
  ?_,
  ?_,
  ?_,
  ?_,
  ?_,
  ?_⟩
 ·exact ⟨by intro t;cases t <;> first | exact c_ne | exact c_al | exact c_le | exact c_no | (rename_i u _ _;cases u <;> assumption),by intro t;cases t <;> first | exact h_ne | exact h_al | exact h_le | exact h_no | (rename_i u _ _;cases u <;> assumption),by intro t;cases t <;> first | exact m_ne | exact m_al | exact m_le | exact m_no | (rename_i u _ _;cases u <;> assumption),by intro t;cases t <;> first | exact s_ne | exact s_al | exact s_le | exact s_no | (rename_i u _ _;cases u <;> assumption),hn,tk,a_name,a_part,by intro u;cases u <;> assumption,by intro u;cases u <;> assumption⟩
 ·exact e_madeS.meth c_ne g_madeS_ne
 ·exact e_madeS.meth c_al g_madeS_al
 ·exact e_madeS.meth c_le g_madeS_le
 ·exact e_piecesS.meth c_ne g_piecesS_ne
 ·exact e_piecesS.meth c_al g_piecesS_al
 ·exact e_piecesS.meth c_le g_piecesS_le
 ·intro t;cases t <;> first | exact e_laid.meth c_ne g_laid_ne | exact e_laid.meth c_al g_laid_al | exact e_laid.meth c_le g_laid_le | exact e_laid.meth c_no g_laid_no | (rename_i u _ _;cases u <;> first | exact e_laid.meth c_mo g_laid_mo | exact e_laid.meth c_ls g_laid_ls | exact e_laid.meth c_gr g_laid_gr | exact e_laid.meth c_lr g_laid_lr | exact e_laid.meth c_ld g_laid_ld)
 ·intro t;cases t <;> first | exact e_told.meth c_ne g_told_ne | exact e_told.meth c_al g_told_al | exact e_told.meth c_le g_told_le | exact e_told.meth c_no g_told_no | (rename_i u _ _;cases u <;> first | exact e_told.meth c_mo g_told_mo | exact e_told.meth c_ls g_told_ls | exact e_told.meth c_gr g_told_gr | exact e_told.meth c_lr g_told_lr | exact e_told.meth c_ld g_told_ld)
 ·intro t;cases t <;> first | exact e_out.meth c_ne g_out_ne | exact e_out.meth c_al g_out_al | exact e_out.meth c_le g_out_le | exact e_out.meth c_no g_out_no | (rename_i u _ _;cases u <;> first | exact e_out.meth c_mo g_out_mo | exact e_out.meth c_ls g_out_ls | exact e_out.meth c_gr g_out_gr | exact e_out.meth c_lr g_out_lr | exact e_out.meth c_ld g_out_ld)
 ·intro t;cases t <;> first | exact e_parts.meth c_ne g_parts_ne | exact e_parts.meth c_al g_parts_al | exact e_parts.meth c_le g_parts_le | exact e_parts.meth c_no g_parts_no | (rename_i u _ _;cases u <;> first | exact e_parts.meth c_mo g_parts_mo | exact e_parts.meth c_ls g_parts_ls | exact e_parts.meth c_gr g_parts_gr | exact e_parts.meth c_lr g_parts_lr | exact e_parts.meth c_ld g_parts_ld)
 ·intro t;cases t <;> first | exact e_foldsS.meth c_ne g_foldsS_ne | exact e_foldsS.meth c_al g_foldsS_al | exact e_foldsS.meth c_le g_foldsS_le | exact e_foldsS.meth c_no g_foldsS_no | (rename_i u _ _;cases u <;> first | exact e_foldsS.meth c_mo g_foldsS_mo | exact e_foldsS.meth c_ls g_foldsS_ls | exact e_foldsS.meth c_gr g_foldsS_gr | exact e_foldsS.meth c_lr g_foldsS_lr | exact e_foldsS.meth c_ld g_foldsS_ld)
 ·exact e_Kne.meth c_ne g_Kne_ne
 ·exact e_Wne.meth c_ne g_Wne_ne
 ·exact e_Kal.meth c_al g_Kal_al
 ·exact e_Wal.meth c_al g_Wal_al
 ·exact e_Kle.meth c_le g_Kle_le
 ·exact e_Wle.meth c_le g_Wle_le
 ·exact e_Kno.meth c_no g_Kno_no
 ·exact e_Wno.meth c_no g_Wno_no
 ·exact e_Mno.meth c_no g_Mno_no
 ·exact e_Pno.meth c_no g_Pno_no
 ·intro u;cases u <;> first | exact e_Mfo.meth c_mo g_Mfo_mo | exact e_Mfo.meth c_ls g_Mfo_ls | exact e_Mfo.meth c_gr g_Mfo_gr | exact e_Mfo.meth c_lr g_Mfo_lr | exact e_Mfo.meth c_ld g_Mfo_ld
 ·intro u;cases u <;> first | exact e_Pfo.meth c_mo g_Pfo_mo | exact e_Pfo.meth c_ls g_Pfo_ls | exact e_Pfo.meth c_gr g_Pfo_gr | exact e_Pfo.meth c_lr g_Pfo_lr | exact e_Pfo.meth c_ld g_Pfo_ld
 ·intro u;cases u <;> first | exact e_Wfo.meth c_mo g_Wfo_mo | exact e_Wfo.meth c_ls g_Wfo_ls | exact e_Wfo.meth c_gr g_Wfo_gr | exact e_Wfo.meth c_lr g_Wfo_lr | exact e_Wfo.meth c_ld g_Wfo_ld
 ·exact e_F0mo.meth c_mo g_F0mo_mo
 ·exact e_F1mo.meth c_mo g_F1mo_mo
 ·exact e_F0ls.meth c_ls g_F0ls_ls
 ·exact e_F1ls.meth c_ls g_F1ls_ls
 ·exact e_F0gr.meth c_gr g_F0gr_gr
 ·exact e_F1gr.meth c_gr g_F1gr_gr
 ·exact e_F0lr.meth c_lr g_F0lr_lr
 ·exact e_F1lr.meth c_lr g_F1lr_lr
 ·exact e_F0ld.meth c_ld g_F0ld_ld
 ·exact e_F1ld.meth c_ld g_F1ld_ld
 ·exact e_ile.made c_le g_ile_le (mg_of X G n_le) y_le z_le
 ·exact e_ino.made c_no g_ino_no (mg_of X G n_no) y_no z_no
 ·intro u;cases u <;> first | exact e_ifo.made c_mo g_ifo_mo (mg_of X G n_mo) y_mo z_mo | exact e_ifo.made c_ls g_ifo_ls (mg_of X G n_ls) y_ls z_ls | exact e_ifo.made c_gr g_ifo_gr (mg_of X G n_gr) y_gr z_gr | exact e_ifo.made c_lr g_ifo_lr (mg_of X G n_lr) y_lr z_lr | exact e_ifo.made c_ld g_ifo_ld (mg_of X G n_ld) y_ld z_ld
 ·exact ⟨y_ne,i_ne,z_ne⟩
 ·exact mg_of X G n_ne
 ·exact ⟨y_al,i_al,z_al⟩
 ·exact mg_of X G n_al
section
variable {P:Program} {w:World} {K:Frag} {mg:Str->Option Value} {base:Heap} {c:Mine.CCs}
open Mine L2
theorem Mine.mks (A:AllF K mg c):qw P w K mg base "Letter" c.le 1 ["self","name"] (jS c.le lX)/\qw P w K mg base "Not" c.no 1 ["self","part"] (jS c.no qi)/\∀ u:W5,qw P w K mg base u.cls (c.fold u) 1 ["self","one","other"] (sG (c.fold u)) :=
 ⟨xE A.ile A.fx.nName,ok_iNot A.ino A.fx.nPart,λu=>DM (A.ifo u) (A.fx.nOne u) (A.fx.nOther u)⟩
theorem Mine.ms (A:AllF K mg c) (bN:mg "min"=none) (bZ:mg "max"=none):Ms P w K mg base c:=by
 obtain ⟨kl,kn,kf⟩:=mks (P:=P) (w:=w) (base:=base) A
 have word:∀ t,aT P w K mg base (c.of t) "making_word" 1 ["self"] (eB c t):=by
  intro t
  cases t with
  | never=>exact Az A.Kne_ne
  | always=>exact xB A.Kal_al
  | lp=>exact ok_wLp A.Kle_le A.fx
  | lq=>exact ok_wLq A.Kle_le A.fx
  | no t=>exact ok_wNot A.Kno_no
  | fold u a b =>
   cases u
   ·exact DE A.F0mo_mo
   ·exact DF A.F0ls_ls
   ·exact vA A.F0gr_gr
   ·exact xA A.F0lr_lr
   ·exact AB A.F0ld_ld
 have folded:∀ u,aT P w K mg base (c.fold u) "folded" 1 ["self","n","first","second"] (gJ u):=by
  intro u
  cases u
  ·exact DP A.F1mo_mo bN
  ·exact DQ A.F1ls_ls bZ
  ·exact vD A.F1gr_gr bZ
  ·exact xF A.F1lr_lr bN
  ·exact AN A.F1ld_ld bN
 refine ⟨λt=>?_,λt=>?_,λt=>?_,λt=>?_⟩
 ·cases t with
  | never=>exact zm A.madeS_ne rfl
  | always=>exact zm A.madeS_al rfl
  | lp=>exact zm A.madeS_le rfl
  | lq=>exact zm A.madeS_le rfl
  | no t=>exact ok_mNot A.Mno_no A.fx
  | fold u a b=>exact DK (A.Mfo u) A.fx
 ·exact word t
 ·cases t with
  | never=>exact oA A.piecesS_ne rfl (word .never)
  | always=>exact oA A.piecesS_al rfl (word .always)
  | lp=>exact oA (t:=.lp) A.piecesS_le rfl (word .lp)
  | lq=>exact oA (t:=.lq) A.piecesS_le rfl (word .lq)
  | no t=>exact ok_pNot A.Pno_no A.fx
  | fold u a b=>exact DH (A.Pfo u) A.fx (word (.fold u a b))
 ·cases t with
  | never=>exact xy A.Wne_ne
  | always=>exact vz A.Wal_al
  | lp=>exact ok_wgLp A.Wle_le A.fx
  | lq=>exact ok_wgLq A.Wle_le A.fx
  | no t=>exact DD A.Wno_no
  | fold u a b=>exact Ay (A.Wfo u) (folded u)
end
open PySem PySem.W PyProof.Rows
structure Mine.X47 (K:Frag) (mg:Str->Option Value) (CT CN CF:Addr):Prop where
 mT:mg "TooMany"=some (.ref CT)
 mN:mg "NoCut"=some (.ref CN)
 mF:mg "Fold"=some (.ref CF)
 xT:excIn K CT L2.bmV "ValueError.__new__"=true
 xN:excIn K CN L2.bmV "ValueError.__new__"=true
 ct:L2.wO K CT
 cn:L2.wO K CN
 st:mroIn K CT (.ref CT)=some true
 sn:mroIn K CN (.ref CN)=some true
 ne:∃ a,mg "Never"=some (.ref a)/\kitOne K (.ref a) (.ref CF)=some false
 al:∃ a,mg "Always"=some (.ref a)/\kitOne K (.ref a) (.ref CF)=some false
 le:∃ a,mg "Letter"=some (.ref a)/\kitOne K (.ref a) (.ref CF)=some false
 no:∃ a,mg "Not"=some (.ref a)/\kitOne K (.ref a) (.ref CF)=some false
 mo:∃ a,mg "More"=some (.ref a)/\kitOne K (.ref a) (.ref CF)=some true
 ls:∃ a,mg "Less"=some (.ref a)/\kitOne K (.ref a) (.ref CF)=some true
 gr:∃ a,mg "Greater"=some (.ref a)/\kitOne K (.ref a) (.ref CF)=some true
 lr:∃ a,mg "Lesser"=some (.ref a)/\kitOne K (.ref a) (.ref CF)=some true
 ld:∃ a,mg "Leads"=some (.ref a)/\kitOne K (.ref a) (.ref CF)=some true
theorem Mine.X47.kf {K:Frag} {mg:Str->Option Value} {CT CN CF:Addr} {c:Mine.CCs} (X:Mine.X47 K mg CT CN CF) (A:Mine.AllF K mg c):∀ t,kitOne K (.ref (c.of t)) (.ref CF)=some (Mine.isF t):=by
 have g:∀{x:Str} {a:Addr} {b:Bool},mg x=some (.ref a)->(∃ a,mg x=some (.ref a)/\kitOne K (.ref a) (.ref CF)=some b)->kitOne K (.ref a) (.ref CF)=some b:=λe z=>by
  obtain ⟨a',e',k⟩:=z
  cases e.symm.trans e'
  exact k
 intro t
 cases t with
 | never=>exact g A.r_ne X.ne
 | always=>exact g A.r_al X.al
 | lp=>exact g A.ile.mg_ X.le
 | lq=>exact g A.ile.mg_ X.le
 | no=>exact g A.ino.mg_ X.no
 | fold u=>cases u with
  | more=>exact g (A.ifo .more).mg_ X.mo
  | less=>exact g (A.ifo .less).mg_ X.ls
  | greater=>exact g (A.ifo .greater).mg_ X.gr
  | lesser=>exact g (A.ifo .lesser).mg_ X.lr
  | leads=>exact g (A.ifo .leads).mg_ X.ld
theorem Mine.cls47 {K:Frag} {h:Heap} {mg:Str->Option Value} {CT CN CF ne al le no mo ls gr lr ld:Addr} {c1 c2:ClassData} (X:K.In h) (G:h.Ns mainGlobals mg)
  (mCT:nsIn K mainGlobals "TooMany"=some (some (.ref CT)))
  (mCN:nsIn K mainGlobals "NoCut"=some (some (.ref CN)))
  (mCF:nsIn K mainGlobals "Fold"=some (some (.ref CF)))
  (xt:excIn K CT L2.bmV "ValueError.__new__"=true)
  (xn:excIn K CN L2.bmV "ValueError.__new__"=true)
  (t6:clsIn K CT=some c1)
  (t7:typeIn K (.ref CT)=some (.type "type"))
  (t8:mroIn K CT (.type "BaseException")=some true)
  (st:mroIn K CT (.ref CT)=some true)
  (n6:clsIn K CN=some c2)
  (n7:typeIn K (.ref CN)=some (.type "type"))
  (n8:mroIn K CN (.type "BaseException")=some true)
  (sn:mroIn K CN (.ref CN)=some true)
  (mne:nsIn K mainGlobals "Never"=some (some (.ref ne)))
  (kne:kitOne K (.ref ne) (.ref CF)=some false)
  (mal:nsIn K mainGlobals "Always"=some (some (.ref al)))
  (kal:kitOne K (.ref al) (.ref CF)=some false)
  (mle:nsIn K mainGlobals "Letter"=some (some (.ref le)))
  (kle:kitOne K (.ref le) (.ref CF)=some false)
  (mno:nsIn K mainGlobals "Not"=some (some (.ref no)))
  (kno:kitOne K (.ref no) (.ref CF)=some false)
  (mmo:nsIn K mainGlobals "More"=some (some (.ref mo)))
  (kmo:kitOne K (.ref mo) (.ref CF)=some true)
  (mls:nsIn K mainGlobals "Less"=some (some (.ref ls)))
  (kls:kitOne K (.ref ls) (.ref CF)=some true)
  (mgr:nsIn K mainGlobals "Greater"=some (some (.ref gr)))
  (kgr:kitOne K (.ref gr) (.ref CF)=some true)
  (mlr:nsIn K mainGlobals "Lesser"=some (some (.ref lr)))
  (klr:kitOne K (.ref lr) (.ref CF)=some true)
  (mld:nsIn K mainGlobals "Leads"=some (some (.ref ld)))
  (kld:kitOne K (.ref ld) (.ref CF)=some true) :
  ∃ CT CN CF,Mine.X47 K mg CT CN CF :=
 ⟨CT,CN,CF,mg_of X G mCT,mg_of X G mCN,mg_of X G mCF,xt,xn,⟨⟨_,t6⟩,t7,t8⟩,⟨⟨_,n6⟩,n7,n8⟩,st,sn,⟨_,mg_of X G mne,kne⟩,⟨_,mg_of X G mal,kal⟩,⟨_,mg_of X G mle,kle⟩,⟨_,mg_of X G mno,kno⟩,⟨_,mg_of X G mmo,kmo⟩,⟨_,mg_of X G mls,kls⟩,⟨_,mg_of X G mgr,kgr⟩,⟨_,mg_of X G mlr,klr⟩,⟨_,mg_of X G mld,kld⟩⟩
namespace PySem.W.Fast
def tw10009113449706227988:=0
def tw10010908631817541657:=0
def tw10022483133350299112:=0
def tw10026057192403291104:=0
def tw10068674989095387597:=0
def tw10075085596146495256:=0
def tw10075876792164789289:=0
def tw10089611666513086519:=0
def tw10110904017182597648:=0
def tw10116504167632227550:=0
def tw10128263164967184769:=0
def tw10155829636162771279:=0
def tw10251552361664645938:=0
def tw102682575021297646:=0
def tw10275351313066214958:=0
def tw10301543086481941904:=0
def tw10303119972743800443:=0
def tw10313355870707708958:=0
def tw10359769216564493434:=0
def tw10399701793144284556:=0
def tw10412021301424598666:=0
def tw10448146067668060403:=0
def tw10457298983443429229:=0
def tw10470886647936001182:=0
def tw10479187143659497933:=0
def tw10483049490254535244:=0
def tw10491612837609390394:=0
def tw10562684731055431901:=0
def tw10587590903475703125:=0
def tw10600320601894172109:=0
def tw10612759640242824433:=0
def tw10623446103081763916:=0
def tw10624956612242918124:=0
def tw10630349703499040618:=0
def tw10637146637364894934:=0
def tw10702950764057098817:=0
def tw10706389346562795770:=0
def tw10717151107329289402:=0
def tw10737717733085795928:=0
def tw10738862875130021866:=0
def tw10757755018481856655:=0
def tw10770237962569740389:=0
def tw10770421807695275998:=0
def tw10785230242911101965:=0
def tw10785313898361970803:=0
def tw10836660634275002272:=0
def tw10867552645772695336:=0
def tw10872988781411060739:=0
def tw10884758053951670128:=0
def tw10915342574947923042:=0
def tw10917089806556972612:=0
def tw109406358577430890:=0
def tw10952621581565879659:=0
def tw10963309040518579998:=0
def tw11017983749974627295:=0
def tw11022120760870250343:=0
def tw11035997311895152209:=0
def tw11038483096782465912:=0
def tw11040300679686141779:=0
def tw11046917474365960267:=0
def tw11104199410087501685:=0
def tw11117214227381376615:=0
def tw11128151136129027201:=0
def tw11142366439217494785:=0
def tw1115331945157681768:=0
def tw11178070521360872011:=0
def tw11181267191540853723:=0
def tw11192656841280299721:=0
def tw11200806819047114018:=0
def tw11201785312551395180:=0
def tw1121985652425182775:=0
def tw11235463495410076806:=0
def tw11250358983288773464:=0
def tw11264303109266293393:=0
def tw11305426401303124045:=0
def tw11373156004540209940:=0
def tw11389710571025477387:=0
def tw11407868752514245131:=0
def tw1144932483284741504:=0
def tw11451560136331704750:=0
def tw11481278125380770578:=0
def tw11489578166762085601:=0
def tw11530117179832702941:=0
def tw11558868892614822744:=0
def tw11590895841394555930:=0
def tw11603939013111000518:=0
def tw11646669973103289221:=0
def tw11670007776417277060:=0
def tw11688459757903739750:=0
def tw11712411014892580919:=0
def tw11741970658344416030:=0
def tw11755361326503803845:=0
def tw11794503845986136393:=0
def tw11846694259505342020:=0
def tw11885791080213994510:=0
def tw11898265052585840700:=0
def tw1191979055831032698:=0
def tw11936192881107555665:=0
def tw11954657647812999028:=0
def tw11985529724915243443:=0
def tw11993583245239005691:=0
def tw12079399078904351991:=0
def tw1209736839731870431:=0
def tw12107781482220179792:=0
def tw12152268553143443055:=0
def tw12158202440571178758:=0
def tw12191465734752178733:=0
def tw12201523864541432044:=0
def tw1220269567503151330:=0
def tw12214802971377367731:=0
def tw1224487539663634905:=0
def tw12247766866421748488:=0
def tw12281900008011699095:=0
def tw12287993553233669362:=0
def tw12291023687722917711:=0
def tw12319843009248101374:=0
def tw1232224941319111145:=0
def tw12361872821734074892:=0
def tw12393439956823157303:=0
def tw12409847040851633240:=0
def tw12447670426135743122:=0
def tw12467621400993469369:=0
def tw12484189104755513345:=0
def tw12495521642708814716:=0
def tw12514171948560770346:=0
def tw12540966511909879242:=0
def tw12545835764937979729:=0
def tw12576790919443920411:=0
def tw12579620005710997269:=0
def tw12586563148506660857:=0
def tw12659895023907501608:=0
def tw12663798395357317130:=0
def tw12687789160719863771:=0
def tw12702386236751047006:=0
def tw12726779196231419928:=0
def tw12739120121286249921:=0
def tw12797188914455287360:=0
def tw12813485234230542728:=0
def tw12830546891370450265:=0
def tw1285298148969935927:=0
def tw12858646675091682306:=0
def tw12882154962828076973:=0
def tw12890165534114423823:=0
def tw12912788675357793257:=0
def tw12935467576665455353:=0
def tw12948734079611606734:=0
def tw12960497900067804671:=0
def tw12975296928309399371:=0
def tw12992736060674282428:=0
def tw13035952084254797626:=0
def tw13042001737798632978:=0
def tw13054288367140163262:=0
def tw13120436935465125535:=0
def tw13143924847564416070:=0
def tw13151135464779318030:=0
def tw13173180335970110878:=0
def tw13184790114309921482:=0
def tw13218684014831049367:=0
def tw13230330377233520716:=0
def tw13235381104809632798:=0
def tw13271782556702241056:=0
def tw13274502698518318503:=0
def tw13278632753870431382:=0
def tw13282744842037797731:=0
def tw13285975101805594027:=0
def tw1329310633958375592:=0
def tw1330383868480628161:=0
def tw13375083169423171756:=0
def tw1339331468794133639:=0
def tw13397702655290808600:=0
def tw13406208367769914531:=0
def tw13439142078706587594:=0
def tw1346119260741342448:=0
def tw13468841521356591059:=0
def tw13475327112951445553:=0
def tw13561909821205635865:=0
def tw13562325421737503654:=0
def tw13572269257849495969:=0
def tw13582662743914843719:=0
def tw13620136200574227263:=0
def tw13620524890704704245:=0
def tw13631933427330998439:=0
def tw13664891471728671381:=0
def tw13673292640370710106:=0
def tw13679151302800525197:=0
def tw13701558929898808149:=0
def tw13708824708710672196:=0
def tw13767426469671949442:=0
def tw13790358547355514557:=0
def tw13802861972508873681:=0
def tw13828999804865757382:=0
def tw13833973557472868489:=0
def tw13858455152090110934:=0
def tw13897535600771798577:=0
def tw13904622687515452104:=0
def tw1391004646773778411:=0
def tw13918962320561709745:=0
def tw13920080763237727906:=0
def tw13946375805013247410:=0
def tw13949314330060021696:=0
def tw13969218642270337855:=0
def tw13974275625250840311:=0
def tw13986562964080363815:=0
def tw13992158951867983156:=0
def tw14037406374885564790:=0
def tw14040377978893297788:=0
def tw14051389723292912092:=0
def tw14149139640590497750:=0
def tw14168039183030707665:=0
def tw14183484836633130858:=0
def tw14216604249607691468:=0
def tw14234863837843371207:=0
def tw14240864255064763159:=0
def tw14248591222501578188:=0
def tw14261372733391559210:=0
def tw14275063177083974363:=0
def tw14370508318368938574:=0
def tw14379305173493623037:=0
def tw14382502142168100217:=0
def tw14385095667951972543:=0
def tw1440425431898430997:=0
def tw14462060273932151991:=0
def tw14475427095249018142:=0
def tw14479068662309862784:=0
def tw14549981730146677572:=0
def tw14587681822856914617:=0
def tw14624096443276227644:=0
def tw14738154854620006774:=0
def tw14752675276079284912:=0
def tw14756759835987961649:=0
def tw14757163676370404243:=0
def tw14827974237699038382:=0
def tw14856518261980075548:=0
def tw14877445810598511869:=0
def tw14885514020621208405:=0
def tw14891899599319993917:=0
def tw14954902494097512725:=0
def tw1499877413889319936:=0
def tw1503221418865296615:=0
def tw15046046752128480856:=0
def tw15052975053507151290:=0
def tw15064609962316053298:=0
def tw15081843984392662456:=0
def tw15089079620383796804:=0
def tw15106745910554491036:=0
def tw1514416450327815183:=0
def tw15168842684062678966:=0
def tw15191489046053509752:=0
def tw15226320694900309422:=0
def tw15259454716774574069:=0
def tw15262152507721609709:=0
def tw15275425198499232859:=0
def tw15353325319343945574:=0
def tw15396574080494137467:=0
def tw15425650967214499321:=0
def tw154630312306572631:=0
def tw15501922973633106988:=0
def tw15507084603726698101:=0
def tw15508134752883103172:=0
def tw15533953608308766781:=0
def tw15541543446710597920:=0
def tw15581661709132113417:=0
def tw15619433749861356221:=0
def tw15620981903171242857:=0
def tw15624193221560361441:=0
def tw1564340322271281516:=0
def tw15643845858750888812:=0
def tw15686861218493441304:=0
def tw15705916732088741986:=0
def tw15713349427743299745:=0
def tw15724208004921785343:=0
def tw15731468576092308390:=0
def tw15756354560327195164:=0
def tw15762249141207010843:=0
def tw1580606813531649945:=0
def tw15807483583457126778:=0
def tw15809988003717479628:=0
def tw1581957448981923560:=0
def tw15826799850124015165:=0
def tw15839213961021951848:=0
def tw15870929669413495841:=0
def tw15898956864719167279:=0
def tw1594047600503940308:=0
def tw15947645389030597758:=0
def tw15951415835264294420:=0
def tw1596873150617326532:=0
def tw15980569669154802958:=0
def tw15984951936884768797:=0
def tw16025671648185443515:=0
def tw1602975466439495732:=0
def tw16033353258078634492:=0
def tw16092632531197006191:=0
def tw16101392177717554914:=0
def tw16172488677912442655:=0
def tw1620219013069266303:=0
def tw16256638932453266750:=0
def tw16257779133362573237:=0
def tw16273105803988569581:=0
def tw16280549034446049482:=0
def tw16362091812275286036:=0
def tw16403920150230424328:=0
def tw16413085117909180491:=0
def tw16431037062604081800:=0
def tw16462842804321034803:=0
def tw16498295141796179363:=0
def tw16522083825088143754:=0
def tw16598405226406942831:=0
def tw1667487382709197585:=0
def tw1669830782496387085:=0
def tw16735272151480042475:=0
def tw16736330636715228157:=0
def tw16765806814666441147:=0
def tw16768968721198412480:=0
def tw16785650503793176548:=0
def tw16786055984157702149:=0
def tw16791073667977521831:=0
def tw16800433274693657200:=0
def tw16804686791375343723:=0
def tw1683822688826484673:=0
def tw16854925762780078731:=0
def tw16875304139969606360:=0
def tw16919877415284014785:=0
def tw16940785102392661894:=0
def tw16941482477716790837:=0
def tw1695541346586883531:=0
def tw1697060032361227662:=0
def tw16972258905841572654:=0
def tw16995206410086309517:=0
def tw1705993234239937759:=0
def tw17064065567661439804:=0
def tw17089134676597146217:=0
def tw17116356859291948787:=0
def tw17150924985092580173:=0
def tw17168629617304926764:=0
def tw17172729186468495340:=0
def tw17200101529152818991:=0
def tw17213740197953282659:=0
def tw17232475321943313847:=0
def tw17238929417941777836:=0
def tw17252844428237763212:=0
def tw17254362259122872798:=0
def tw17262022140688333407:=0
def tw17268032200170353247:=0
def tw17317142052931501070:=0
def tw17329380686174337440:=0
def tw17336628647474800839:=0
def tw1733671285048784537:=0
def tw1734534487060309591:=0
def tw17364579512631895907:=0
def tw17378100527953987922:=0
def tw17384321282484416991:=0
def tw17405955810127902328:=0
def tw17443426918716145612:=0
def tw1745368924135793808:=0
def tw17480179373710730401:=0
def tw17480460901674722863:=0
def tw17509781210006818426:=0
def tw17548726385070663937:=0
def tw17549790989305275050:=0
def tw17562706918414913638:=0
def tw17579975078434171050:=0
def tw17585381511054091745:=0
def tw1759939555997698674:=0
def tw1761560478745115494:=0
def tw17661107948864071265:=0
def tw17672234364358180183:=0
def tw17824920940698018967:=0
def tw17860812379318265671:=0
def tw17871247591782952736:=0
def tw17890352845883110352:=0
def tw17905290857122717510:=0
def tw17960841042295390159:=0
def tw17982721751143166752:=0
def tw18029938052303884140:=0
def tw18057738848278759703:=0
def tw18088145447022967969:=0
def tw18101308855403696284:=0
def tw18103792818376918984:=0
def tw18109148821986719320:=0
def tw18136082332674612688:=0
def tw18147245643597516870:=0
def tw18169916676797372521:=0
def tw18193361281357950433:=0
def tw18250153639510642598:=0
def tw18265663734051856422:=0
def tw18282861386757308064:=0
def tw18341246485585416801:=0
def tw18348733520264232677:=0
def tw18352944370374457984:=0
def tw18359637758792122814:=0
def tw18380657633302658895:=0
def tw18392605449555037296:=0
def tw18422999511760594018:=0
def tw18443864475087303726:=0
def tw1886288358775232323:=0
def tw1920266517456546998:=0
def tw1983422475561236607:=0
def tw2014509542391343487:=0
def tw2016473480817094942:=0
def tw2030861985783755713:=0
def tw2034323718257035162:=0
def tw2055670731856365094:=0
def tw207868730043783847:=0
def tw2111949136850105436:=0
def tw213495360146965548:=0
def tw2140695873683647004:=0
def tw216839074138220968:=0
def tw2190168004012481219:=0
def tw2203558279242617233:=0
def tw2226232894197121963:=0
def tw225596564658335543:=0
def tw2262805444046252305:=0
def tw2301053167603769895:=0
def tw2308344112496199977:=0
def tw2380410475288447592:=0
def tw241252136663677781:=0
def tw2423913298740155179:=0
def tw2436045096082514563:=0
def tw2447541851452966225:=0
def tw2462193803864751530:=0
def tw2525353329217927826:=0
def tw2529755118207876220:=0
def tw2557008613399714032:=0
def tw25670924999478721:=0
def tw2571900599419610337:=0
def tw2619229449286931024:=0
def tw2627739460201315041:=0
def tw2630407275776112508:=0
def tw2640717437869963930:=0
def tw2659783012411327538:=0
def tw2669907329334283326:=0
def tw2673858096537082185:=0
def tw2682933637382666401:=0
def tw2686875771778318913:=0
def tw270150567723258204:=0
def tw2720519050951671103:=0
def tw2744704468657770702:=0
def tw2771043736360812448:=0
def tw2788217544737837785:=0
def tw280782422020099893:=0
def tw2844992480399827862:=0
def tw2856826722648722706:=0
def tw2869369907517828239:=0
def tw2872689125478587282:=0
def tw2889495910642347654:=0
def tw2905995589152567593:=0
def tw2935696000497618264:=0
def tw293638039534075431:=0
def tw2947556598289109138:=0
def tw2953844120942301433:=0
def tw2984042843582139307:=0
def tw3020805174054354022:=0
def tw3021525158455175579:=0
def tw3098298870416216374:=0
def tw3099000788444451923:=0
def tw3099186063050093671:=0
def tw3100231141504100797:=0
def tw3116431449819513616:=0
def tw3141897633944634922:=0
def tw3151967276670314933:=0
def tw3183573249521103929:=0
def tw3223874629432592411:=0
def tw3226567725632748013:=0
def tw3244717306404684493:=0
def tw327396009823461099:=0
def tw3273992432834221299:=0
def tw3291454330536307186:=0
def tw3315357446557312981:=0
def tw3329033587500898859:=0
def tw3348124296847783184:=0
def tw3354847733591065358:=0
def tw3387349196756452761:=0
def tw3419073959367441854:=0
def tw3430785334089929701:=0
def tw3435417729815540183:=0
def tw3470882461837006143:=0
def tw3496276218100648937:=0
def tw3513611942546317101:=0
def tw3565150602949163572:=0
def tw3571139567581786825:=0
def tw3584116896281344074:=0
def tw359290136368189258:=0
def tw3596042492939023749:=0
def tw3607662612447782530:=0
def tw3639409064795226100:=0
def tw3653556308325619918:=0
def tw3681521307047092430:=0
def tw3713516133546488704:=0
def tw3717504091409772245:=0
def tw374989125677528626:=0
def tw3749958804569865938:=0
def tw3755614526101617190:=0
def tw3762240512089935488:=0
def tw3797507625574263529:=0
def tw3798077229351477623:=0
def tw3850959655982934062:=0
def tw3851806293219651383:=0
def tw3893256841115760422:=0
def tw3898628877365542928:=0
def tw3899070310477882689:=0
def tw390586857160347912:=0
def tw3937911715816498804:=0
def tw398086974750750506:=0
def tw3999643238600663709:=0
def tw4005176469299375145:=0
def tw4031226950858420030:=0
def tw407117835751669361:=0
def tw4092499085066610896:=0
def tw4104141881171188153:=0
def tw4108910263558912298:=0
def tw4123573489464930322:=0
def tw4124258279620491852:=0
def tw4146185640086483554:=0
def tw416477620966615330:=0
def tw4213087842379921704:=0
def tw4244814981810773477:=0
def tw4253860269174134293:=0
def tw4283092647575803685:=0
def tw4325191069444433314:=0
def tw4329106036034422931:=0
def tw4360163692060123605:=0
def tw4483339670998558518:=0
def tw4524757474328808121:=0
def tw4555413711030466882:=0
def tw4621485937116837539:=0
def tw4668211777611166556:=0
def tw4676004807944672281:=0
def tw4678523122285031324:=0
def tw4687952105732831808:=0
def tw470093903175624644:=0
def tw4768678531050859215:=0
def tw4797392869025917274:=0
def tw4808878626447738006:=0
def tw4836228349128271949:=0
def tw4848679999203045317:=0
def tw4870918103652813232:=0
def tw4889808107090263836:=0
def tw4954172180910620567:=0
def tw5002695622374577956:=0
def tw5025148621525118711:=0
def tw5044069441453576557:=0
def tw5055276234423087911:=0
def tw506969295389146853:=0
def tw5125329715057865888:=0
def tw5136454047942131553:=0
def tw5153529481985383200:=0
def tw5158138823893956648:=0
def tw5219945574698245347:=0
def tw522747913668443587:=0
def tw5229204275711170889:=0
def tw5241323202392825614:=0
def tw5250321741523817533:=0
def tw5272634878182991429:=0
def tw5281800250860147751:=0
def tw5284228660391938970:=0
def tw5301579529529114104:=0
def tw5333744992799063715:=0
def tw534681509630805636:=0
def tw5357702349108608047:=0
def tw5378005915377409111:=0
def tw5422224927352752139:=0
def tw5422654902043842615:=0
def tw5466903122964392697:=0
def tw5539344617872124387:=0
def tw5588940519534049324:=0
def tw5645606250642010690:=0
def tw5657449777163156130:=0
def tw5695156197944056074:=0
def tw5696712820934562792:=0
def tw5707055399784722738:=0
def tw5757709339759092741:=0
def tw5779108773069857651:=0
def tw5794840543618679:=0
def tw5834982517351917263:=0
def tw5881489437108160970:=0
def tw5929789702762645406:=0
def tw5972066011835380596:=0
def tw5975050472678340657:=0
def tw6056401815469923939:=0
def tw6124149346914114588:=0
def tw6137805033121132756:=0
def tw6178375280513052876:=0
def tw6204967761776994530:=0
def tw6208687596867696341:=0
def tw6213655441851073492:=0
def tw6213726124728147652:=0
def tw6229153231142133403:=0
def tw6262678311108586285:=0
def tw6307897190263889785:=0
def tw6328559106293456907:=0
def tw6345935953124686035:=0
def tw6404172902084420315:=0
def tw6407577332715097915:=0
def tw6426905594207322616:=0
def tw6483326350255657587:=0
def tw6532360356675530879:=0
def tw6544685373600626736:=0
def tw6572320557221018231:=0
def tw657718485276171867:=0
def tw6588986575965416824:=0
def tw6627659136453333094:=0
def tw665793057833216677:=0
def tw6660813733765356300:=0
def tw6694056738283656688:=0
def tw6719023625301011196:=0
def tw6720133432534903446:=0
def tw6740801989667202787:=0
def tw6742073700643716164:=0
def tw6771984893865408013:=0
def tw6773406151189865840:=0
def tw6793230195456274913:=0
def tw6834326519735325540:=0
def tw6851141135728614190:=0
def tw6857619971673493931:=0
def tw68770083908301527:=0
def tw6917254332094349724:=0
def tw6942883655968495078:=0
def tw6959420998026103370:=0
def tw6960825348185151669:=0
def tw6961634160438398515:=0
def tw6968058353790473998:=0
def tw697697804573361689:=0
def tw7034465051413151332:=0
def tw7058703405526831374:=0
def tw7063074488079378157:=0
def tw711371021130923133:=0
def tw7115937765596753714:=0
def tw7118676969567257091:=0
def tw7132614543287667066:=0
def tw7201581043325766266:=0
def tw7208808066686400961:=0
def tw7239750223480466665:=0
def tw7243570947694666905:=0
def tw7282627035470844128:=0
def tw7289574264678958769:=0
def tw7335330722749885804:=0
def tw7358817140879706131:=0
def tw7380418876221388968:=0
def tw7389830788168832327:=0
def tw7396240638409050508:=0
def tw7404649463548546521:=0
def tw7432314643861697269:=0
def tw7464312110773298854:=0
def tw7474767926818971798:=0
def tw7528226834718603815:=0
def tw7546391082459723814:=0
def tw7546493551796509682:=0
def tw7559070208370585693:=0
def tw7563199355981178411:=0
def tw7564450134392072141:=0
def tw7579985184425269639:=0
def tw7592696554638819710:=0
def tw7596984488818014739:=0
def tw7686667212068819987:=0
def tw7690375267655586917:=0
def tw7694774410340416405:=0
def tw7695307424961979631:=0
def tw7759806425251833329:=0
def tw797077033800068065:=0
def tw802912731248904008:=0
def tw8039490081697648267:=0
def tw8040791138035256519:=0
def tw8043102640048159377:=0
def tw8099505782036644675:=0
def tw8119086889507829840:=0
def tw8137234485393186350:=0
def tw814198775990258264:=0
def tw8194623092350630120:=0
def tw8216002905375070372:=0
def tw8220203008421840561:=0
def tw8225731117569455838:=0
def tw8247866187929382686:=0
def tw8251113272789760254:=0
def tw8254587761423415252:=0
def tw8288975258161330184:=0
def tw8292805056118129651:=0
def tw8344308889156304311:=0
def tw8346590963440042992:=0
def tw8366229925020380458:=0
def tw8401866514592771309:=0
def tw8433802366119144577:=0
def tw8453400973499487010:=0
def tw8459763326668637609:=0
def tw8471237989325369189:=0
def tw8517692511033168741:=0
def tw8521693408675072829:=0
def tw8529515601978280744:=0
def tw8535918013180208117:=0
def tw8552965704716654962:=0
def tw858113921728648668:=0
def tw8618958038108820801:=0
def tw8638146213488248831:=0
def tw8645131955415478326:=0
def tw8647493634051859562:=0
def tw866562492446266320:=0
def tw8671213270784618573:=0
def tw8685556159911456372:=0
def tw8689625741780074348:=0
def tw87022557705634085:=0
def tw8720550805743197724:=0
def tw8753520854387769023:=0
def tw8755369340669430381:=0
def tw8768012148321994904:=0
def tw8794795176965868668:=0
def tw8810100903519008212:=0
def tw8821860297363232993:=0
def tw8827436169198397437:=0
def tw8828185534105944596:=0
def tw8868544994533103721:=0
def tw88846561941122498:=0
def tw8899626152828493287:=0
def tw8900383084617085635:=0
def tw8916654785350760017:=0
def tw8926864739318672046:=0
def tw8942122252388393519:=0
def tw8972664069518090593:=0
def tw8973717485691973575:=0
def tw8992082366951954188:=0
def tw8996275189679670526:=0
def tw900090684840281442:=0
def tw9083006128663698614:=0
def tw9090535238524597451:=0
def tw9191865645612965396:=0
def tw9214920436743025249:=0
def tw9249971720120238478:=0
def tw9265706211135741590:=0
def tw9272857245215186111:=0
def tw9283935278350898259:=0
def tw9286524974202698938:=0
def tw9288994020525327204:=0
def tw9293857134221679136:=0
def tw9311320590286573028:=0
def tw9313854775483188413:=0
def tw9324413293065374419:=0
def tw9357453320665128095:=0
def tw9375033814988196757:=0
def tw9426967577249696783:=0
def tw9435181848774522954:=0
def tw9442542338858090013:=0
def tw945478055331962744:=0
def tw9461333320253830712:=0
def tw9497751854087283678:=0
def tw9525079315414300843:=0
def tw9562283683354341991:=0
def tw9581995640762136486:=0
def tw9587936136369583153:=0
def tw962447089267688706:=0
def tw9627666689578603576:=0
def tw9628759850980622611:=0
def tw9636321341626317412:=0
def tw9636344510974083153:=0
def tw965726020929878666:=0
def tw9661205382380607382:=0
def tw969669375235836334:=0
def tw9716403341741223358:=0
def tw9724181005477372431:=0
def tw9769078335994007369:=0
def tw9900143945728307324:=0
def tw9927567113192059118:=0
def tw9941091174545305831:=0
def tw9946826183710324089:=0
def tw9957742205402137175:=0
def tw9964225764905936481:=0
def tw9987044437892383570:=0
def tw9987295482637526911:=0
def tw9990116419301529567:=0
def tw9991037377632167235:=0
end PySem.W.Fast
open PySem PySem.W PyProof.Rows
set_option maxRecDepth 100000 in
set_option maxHeartbeats 0 in
theorem PySem.Challenge.cw_leansay_k50_whole_least_worths_holds : PySem.Challenge.rw_leansay_k50_whole_least_worths.Holds := by
 w_on;o_law;k_head;(case hw=>w_witness2)
 k_fill
 refine L2.zY (l:=PySem.Challenge.rw_leansay_k50_whole_least_worths) (n:=63) (k:=80) (x:="_law_script") (CX:=L2.CX0) (sp:=Mine.spLaw) rfl (by decide) rfl ⟨rfl,by decide,by decide⟩ (λw h Y=>PySem.W.kIn_of Y) ?F ?S ?C
 case F =>
  intro w mg fa h KX G hmg
  have nW:L2.aD (L2.KOf KX) mg "common_factor" Mine.gj:=by
   dsimp only [L2.KOf]
   refine' L2.aW KX G ?a ?l ?c ?k;(case a=>k_is);(case l=>k_is);(case c=>k_is);(case k=>k_is)
  have yl:L2.aD (L2.KOf KX) mg "fraction" Mine.kK:=by
   dsimp only [L2.KOf]
   refine' L2.aW KX G ?a ?l ?c ?k;(case a=>k_is);(case l=>k_is);(case c=>k_is);(case k=>k_is)
  have T_less:L2.aD (L2.KOf KX) mg "less" Mine.xi:=by
   dsimp only [L2.KOf]
   refine' L2.aW KX G ?a ?l ?c ?k;(case a=>k_is);(case l=>k_is);(case c=>k_is);(case k=>k_is)
  have wB:L2.aD (L2.KOf KX) mg "square" Mine.lH:=by
   dsimp only [L2.KOf]
   refine' L2.aW KX G ?a ?l ?c ?k;(case a=>k_is);(case l=>k_is);(case c=>k_is);(case k=>k_is)
  have BA:L2.aD (L2.KOf KX) mg "told_by" Mine.mI:=by
   dsimp only [L2.KOf]
   refine' L2.aW KX G ?a ?l ?c ?k;(case a=>k_is);(case l=>k_is);(case c=>k_is);(case k=>k_is)
  have mf:L2.aD (L2.KOf KX) mg "told_in_corners" Mine.cq:=by
   dsimp only [L2.KOf]
   refine' L2.aW KX G ?a ?l ?c ?k;(case a=>k_is);(case l=>k_is);(case c=>k_is);(case k=>k_is)
  have nj:L2.aD (L2.KOf KX) mg "corner_between" Mine.bO:=by
   dsimp only [L2.KOf]
   refine' L2.aW KX G ?a ?l ?c ?k;(case a=>k_is);(case l=>k_is);(case c=>k_is);(case k=>k_is)
  have T_cut:L2.aD (L2.KOf KX) mg "cut" Mine.jx:=by
   dsimp only [L2.KOf]
   refine' L2.aW KX G ?a ?l ?c ?k;(case a=>k_is);(case l=>k_is);(case c=>k_is);(case k=>k_is)
  have yi:L2.aD (L2.KOf KX) mg "is_whole" Mine.kI:=by
   dsimp only [L2.KOf]
   refine' L2.aW KX G ?a ?l ?c ?k;(case a=>k_is);(case l=>k_is);(case c=>k_is);(case k=>k_is)
  have yj:L2.aD (L2.KOf KX) mg "is_point" Mine.dR:=by
   dsimp only [L2.KOf]
   refine' L2.aW KX G ?a ?l ?c ?k;(case a=>k_is);(case l=>k_is);(case c=>k_is);(case k=>k_is)
  have nU:L2.aD (L2.KOf KX) mg "must_be_point" Mine.gh:=by
   dsimp only [L2.KOf]
   refine' L2.aW KX G ?a ?l ?c ?k;(case a=>k_is);(case l=>k_is);(case c=>k_is);(case k=>k_is)
  have T_worth:L2.aD (L2.KOf KX) mg "worth" Mine.sI:=by
   dsimp only [L2.KOf]
   refine' L2.aW KX G ?a ?l ?c ?k;(case a=>k_is);(case l=>k_is);(case c=>k_is);(case k=>k_is)
  have BB:L2.aD (L2.KOf KX) mg "rows_of" Mine.fB:=by
   dsimp only [L2.KOf]
   refine' L2.aW KX G ?a ?l ?c ?k;(case a=>k_is);(case l=>k_is);(case c=>k_is);(case k=>k_is)
  have T_both:L2.aD (L2.KOf KX) mg "both" Mine.pG:=by
   dsimp only [L2.KOf]
   refine' L2.aW KX G ?a ?l ?c ?k;(case a=>k_is);(case l=>k_is);(case c=>k_is);(case k=>k_is)
  have By:L2.aD (L2.KOf KX) mg "without" Mine.iL:=by
   dsimp only [L2.KOf]
   refine' L2.aW KX G ?a ?l ?c ?k;(case a=>k_is);(case l=>k_is);(case c=>k_is);(case k=>k_is)
  have wC:L2.aD (L2.KOf KX) mg "leaf_rule" Mine.jw:=by
   dsimp only [L2.KOf]
   refine' L2.aW KX G ?a ?l ?c ?k;(case a=>k_is);(case l=>k_is);(case c=>k_is);(case k=>k_is)
  have qN:L2.aD (L2.KOf KX) mg "fold_choice" Mine.iu:=by
   dsimp only [L2.KOf]
   refine' L2.aW KX G ?a ?l ?c ?k;(case a=>k_is);(case l=>k_is);(case c=>k_is);(case k=>k_is)
  have wG:L2.aD (L2.KOf KX) mg "choice_of" Mine.jz:=by
   dsimp only [L2.KOf]
   refine' L2.aW KX G ?a ?l ?c ?k;(case a=>k_is);(case l=>k_is);(case c=>k_is);(case k=>k_is)
  have wF:L2.aD (L2.KOf KX) mg "chosen_on" Mine.jy:=by
   dsimp only [L2.KOf]
   refine' L2.aW KX G ?a ?l ?c ?k;(case a=>k_is);(case l=>k_is);(case c=>k_is);(case k=>k_is)
  have nS:L2.aD (L2.KOf KX) mg "rules_of_rows" Mine.gf:=by
   dsimp only [L2.KOf]
   refine' L2.aW KX G ?a ?l ?c ?k;(case a=>k_is);(case l=>k_is);(case c=>k_is);(case k=>k_is)
  have yk:L2.aD (L2.KOf KX) mg "hulls_of" Mine.kJ:=by
   dsimp only [L2.KOf]
   refine' L2.aW KX G ?a ?l ?c ?k;(case a=>k_is);(case l=>k_is);(case c=>k_is);(case k=>k_is)
  have qK:L2.aD (L2.KOf KX) mg "must_be_few" Mine.ip:=by
   dsimp only [L2.KOf]
   refine' L2.aW KX G ?a ?l ?c ?k;(case a=>k_is);(case l=>k_is);(case c=>k_is);(case k=>k_is)
  have Bz:L2.aD (L2.KOf KX) mg "tree_on" Mine.mH:=by
   dsimp only [L2.KOf]
   refine' L2.aW KX G ?a ?l ?c ?k;(case a=>k_is);(case l=>k_is);(case c=>k_is);(case k=>k_is)
  have BJ:L2.aD (L2.KOf KX) mg "cutting" Mine.mM:=by
   dsimp only [L2.KOf]
   refine' L2.aW KX G ?a ?l ?c ?k;(case a=>k_is);(case l=>k_is);(case c=>k_is);(case k=>k_is)
  have qM:L2.aD (L2.KOf KX) mg "least_worth" Mine.ir:=by
   dsimp only [L2.KOf]
   refine' L2.aW KX G ?a ?l ?c ?k;(case a=>k_is);(case l=>k_is);(case c=>k_is);(case k=>k_is)
  have BG:L2.aD (L2.KOf KX) mg "_law_mixed" Mine.Aq:=by
   dsimp only [L2.KOf]
   refine' L2.aW KX G ?a ?l ?c ?k;(case a=>k_is);(case l=>k_is);(case c=>k_is);(case k=>k_is)
  have EO:L2.aD (L2.KOf KX) mg "_law_next" Mine.CB:=by
   dsimp only [L2.KOf]
   refine' L2.aW KX G ?a ?l ?c ?k;(case a=>k_is);(case l=>k_is);(case c=>k_is);(case k=>k_is)
  have yg:L2.aD (L2.KOf KX) mg "_law_saying" Mine.xj:=by
   dsimp only [L2.KOf]
   refine' L2.aW KX G ?a ?l ?c ?k;(case a=>k_is);(case l=>k_is);(case c=>k_is);(case k=>k_is)
  have yh:L2.aD (L2.KOf KX) mg "_law_object" Mine.xk:=by
   dsimp only [L2.KOf]
   refine' L2.aW KX G ?a ?l ?c ?k;(case a=>k_is);(case l=>k_is);(case c=>k_is);(case k=>k_is)
  have BI:L2.aD (L2.KOf KX) mg "_law_folds" Mine.iN:=by
   dsimp only [L2.KOf]
   refine' L2.aW KX G ?a ?l ?c ?k;(case a=>k_is);(case l=>k_is);(case c=>k_is);(case k=>k_is)
  have ER:L2.aD (L2.KOf KX) mg "_law_fold" Mine.CD:=by
   dsimp only [L2.KOf]
   refine' L2.aW KX G ?a ?l ?c ?k;(case a=>k_is);(case l=>k_is);(case c=>k_is);(case k=>k_is)
  have BC:L2.aD (L2.KOf KX) mg "_law_worth" Mine.Ap:=by
   dsimp only [L2.KOf]
   refine' L2.aW KX G ?a ?l ?c ?k;(case a=>k_is);(case l=>k_is);(case c=>k_is);(case k=>k_is)
  have BD:L2.aD (L2.KOf KX) mg "_law_whole" Mine.mJ:=by
   dsimp only [L2.KOf]
   refine' L2.aW KX G ?a ?l ?c ?k;(case a=>k_is);(case l=>k_is);(case c=>k_is);(case k=>k_is)
  have wD:L2.aD (L2.KOf KX) mg "_law_rows_to" Mine.fV:=by
   dsimp only [L2.KOf]
   refine' L2.aW KX G ?a ?l ?c ?k;(case a=>k_is);(case l=>k_is);(case c=>k_is);(case k=>k_is)
  have BE:L2.aD (L2.KOf KX) mg "_law_tells" Mine.mK:=by
   dsimp only [L2.KOf]
   refine' L2.aW KX G ?a ?l ?c ?k;(case a=>k_is);(case l=>k_is);(case c=>k_is);(case k=>k_is)
  have qv:L2.aD (L2.KOf KX) mg "_law_lowest" Mine.de:=by
   dsimp only [L2.KOf]
   refine' L2.aW KX G ?a ?l ?c ?k;(case a=>k_is);(case l=>k_is);(case c=>k_is);(case k=>k_is)
  have T_l_cut:L2.aD (L2.KOf KX) mg "_law_cut" Mine.cN:=by
   dsimp only [L2.KOf]
   refine' L2.aW KX G ?a ?l ?c ?k;(case a=>k_is);(case l=>k_is);(case c=>k_is);(case k=>k_is)
  have T_l_sum:L2.aD (L2.KOf KX) mg "_law_sum" Mine.lI:=by
   dsimp only [L2.KOf]
   refine' L2.aW KX G ?a ?l ?c ?k;(case a=>k_is);(case l=>k_is);(case c=>k_is);(case k=>k_is)
  have EN:L2.aD (L2.KOf KX) mg "_law_rule" Mine.gM:=by
   dsimp only [L2.KOf]
   refine' L2.aW KX G ?a ?l ?c ?k;(case a=>k_is);(case l=>k_is);(case c=>k_is);(case k=>k_is)
  have BF:L2.aD (L2.KOf KX) mg "_law_rules" Mine.mL:=by
   dsimp only [L2.KOf]
   refine' L2.aW KX G ?a ?l ?c ?k;(case a=>k_is);(case l=>k_is);(case c=>k_is);(case k=>k_is)
  have BH:L2.aD (L2.KOf KX) mg "_law_hulls" Mine.iM:=by
   dsimp only [L2.KOf]
   refine' L2.aW KX G ?a ?l ?c ?k;(case a=>k_is);(case l=>k_is);(case c=>k_is);(case k=>k_is)
  have T_l_holds : L2.aD (L2.KOf KX) mg "_law_holds" Mine.s_l_holds := by
   dsimp only [L2.KOf]
   refine' L2.aW KX G ?a ?l ?c ?k;(case a=>k_is);(case l=>k_is);(case c=>k_is);(case k=>k_is)
  have nV:L2.aD (L2.KOf KX) mg "_law_is_fraction" Mine.gi:=by
   dsimp only [L2.KOf]
   refine' L2.aW KX G ?a ?l ?c ?k;(case a=>k_is);(case l=>k_is);(case c=>k_is);(case k=>k_is)
  have uf:L2.aD (L2.KOf KX) mg "_law_is_point" Mine.eI:=by
   dsimp only [L2.KOf]
   refine' L2.aW KX G ?a ?l ?c ?k;(case a=>k_is);(case l=>k_is);(case c=>k_is);(case k=>k_is)
  have T_l_few:L2.aD (L2.KOf KX) mg "_law_few" Mine.sJ:=by
   dsimp only [L2.KOf]
   refine' L2.aW KX G ?a ?l ?c ?k;(case a=>k_is);(case l=>k_is);(case c=>k_is);(case k=>k_is)
  have T_law:L2.aD (L2.KOf KX) mg "law" Mine.vm:=by
   dsimp only [L2.KOf]
   refine' L2.aW KX G ?a ?l ?c ?k;(case a=>k_is);(case l=>k_is);(case c=>k_is);(case k=>k_is)
  have bf:mg "len"=none:=by
   refine' PySem.W.mg_none_of KX G ?z;(case z=>k_is)
  have ff:mg "abs"=none:=by
   refine' PySem.W.mg_none_of KX G ?z;(case z=>k_is)
  have aL:mg "isinstance"=none:=by
   refine' PySem.W.mg_none_of KX G ?z;(case z=>k_is)
  have nh:mg "bool"=none:=by
   refine' PySem.W.mg_none_of KX G ?z;(case z=>k_is)
  have fe:mg "int"=none:=by
   refine' PySem.W.mg_none_of KX G ?z;(case z=>k_is)
  have aP:mg "tuple"=none:=by
   refine' PySem.W.mg_none_of KX G ?z;(case z=>k_is)
  have kj:mg "range"=none:=by
   refine' PySem.W.mg_none_of KX G ?z;(case z=>k_is)
  have Z_list:mg "list"=none:=by
   refine' PySem.W.mg_none_of KX G ?z;(case z=>k_is)
  have bN:mg "min"=none:=by
   refine' PySem.W.mg_none_of KX G ?z;(case z=>k_is)
  have bZ:mg "max"=none:=by
   refine' PySem.W.mg_none_of KX G ?z;(case z=>k_is)
  have ma:mg "all"=none:=by
   refine' PySem.W.mg_none_of KX G ?z;(case z=>k_is)
  have EM:mg "sum"=none:=by
   refine' PySem.W.mg_none_of KX G ?z;(case z=>k_is)
  have cB:mg "enumerate"=none:=by
   refine' PySem.W.mg_none_of KX G ?z;(case z=>k_is)
  have gW:mg "zip"=none:=by
   refine' PySem.W.mg_none_of KX G ?z;(case z=>k_is)
  have kb:kitOne (L2.KOf KX) (.type "int") (.type "bool")=some false:=by
   dsimp only [L2.KOf]
   first | k_is | kit_is
  have AA:∃ c,Mine.AllF (L2.KOf KX) mg c:=by
   dsimp only [L2.KOf]
   refine' Mine.all_mk KX G ?n_ne ?n_al ?n_le ?n_no ?n_mo ?n_ls ?n_gr ?n_lr ?n_ld ?c_ne ?c_al ?c_le ?c_no ?c_mo ?c_ls ?c_gr ?c_lr ?c_ld ?h_ne ?h_al ?h_le ?h_no ?h_mo ?h_ls ?h_gr ?h_lr ?h_ld ?m_ne ?m_al ?m_le ?m_no ?m_mo ?m_ls ?m_gr ?m_lr ?m_ld ?s_ne ?s_al ?s_le ?s_no ?s_mo ?s_ls ?s_gr ?s_lr ?s_ld ?hn ?tk ?a_name ?a_part ?a_one_mo ?a_one_ls ?a_one_gr ?a_one_lr ?a_one_ld ?a_other_mo ?a_other_ls ?a_other_gr ?a_other_lr ?a_other_ld ?g_madeS_ne ?g_madeS_al ?g_madeS_le ?e_madeS ?g_piecesS_ne ?g_piecesS_al ?g_piecesS_le ?e_piecesS ?g_laid_ne ?g_laid_al ?g_laid_le ?g_laid_no ?g_laid_mo ?g_laid_ls ?g_laid_gr ?g_laid_lr ?g_laid_ld ?e_laid ?g_told_ne ?g_told_al ?g_told_le ?g_told_no ?g_told_mo ?g_told_ls ?g_told_gr ?g_told_lr ?g_told_ld ?e_told ?g_out_ne ?g_out_al ?g_out_le ?g_out_no ?g_out_mo ?g_out_ls ?g_out_gr ?g_out_lr ?g_out_ld ?e_out ?g_parts_ne ?g_parts_al ?g_parts_le ?g_parts_no ?g_parts_mo ?g_parts_ls ?g_parts_gr ?g_parts_lr ?g_parts_ld ?e_parts ?g_foldsS_ne ?g_foldsS_al ?g_foldsS_le ?g_foldsS_no ?g_foldsS_mo ?g_foldsS_ls ?g_foldsS_gr ?g_foldsS_lr ?g_foldsS_ld ?e_foldsS ?g_Kne_ne ?e_Kne ?g_Wne_ne ?e_Wne ?g_Kal_al ?e_Kal ?g_Wal_al ?e_Wal ?g_Kle_le ?e_Kle ?g_Wle_le ?e_Wle ?g_Kno_no ?e_Kno ?g_Wno_no ?e_Wno ?g_Mno_no ?e_Mno ?g_Pno_no ?e_Pno ?g_Mfo_mo ?g_Mfo_ls ?g_Mfo_gr ?g_Mfo_lr ?g_Mfo_ld ?e_Mfo ?g_Pfo_mo ?g_Pfo_ls ?g_Pfo_gr ?g_Pfo_lr ?g_Pfo_ld ?e_Pfo ?g_Wfo_mo ?g_Wfo_ls ?g_Wfo_gr ?g_Wfo_lr ?g_Wfo_ld ?e_Wfo ?g_F0mo_mo ?e_F0mo ?g_F1mo_mo ?e_F1mo ?g_F0ls_ls ?e_F0ls ?g_F1ls_ls ?e_F1ls ?g_F0gr_gr ?e_F0gr ?g_F1gr_gr ?e_F1gr ?g_F0lr_lr ?e_F0lr ?g_F1lr_lr ?e_F1lr ?g_F0ld_ld ?e_F0ld ?g_F1ld_ld ?e_F1ld ?g_ile_le ?e_ile ?g_ino_no ?e_ino ?g_ifo_mo ?g_ifo_ls ?g_ifo_gr ?g_ifo_lr ?g_ifo_ld ?e_ifo ?i_ne ?i_al ?y_ne ?y_al ?y_le ?y_no ?y_mo ?y_ls ?y_gr ?y_lr ?y_ld ?z_ne ?z_al ?z_le ?z_no ?z_mo ?z_ls ?z_gr ?z_lr ?z_ld
   (case n_ne=>k_is)
   (case n_al=>k_is)
   (case n_le=>k_is)
   (case n_no=>k_is)
   (case n_mo=>k_is)
   (case n_ls=>k_is)
   (case n_gr=>k_is)
   (case n_lr=>k_is)
   (case n_ld=>k_is)
   (case c_ne=>refine' ⟨?q1,?q2,?q3,?q4⟩;(case q1=>k_is);(case q2=>k_is);(case q3=>k_is);(case q4=>k_is))
   (case c_al=>refine' ⟨?q1,?q2,?q3,?q4⟩;(case q1=>k_is);(case q2=>k_is);(case q3=>k_is);(case q4=>k_is))
   (case c_le=>refine' ⟨?q1,?q2,?q3,?q4⟩;(case q1=>k_is);(case q2=>k_is);(case q3=>k_is);(case q4=>k_is))
   (case c_no=>refine' ⟨?q1,?q2,?q3,?q4⟩;(case q1=>k_is);(case q2=>k_is);(case q3=>k_is);(case q4=>k_is))
   (case c_mo=>refine' ⟨?q1,?q2,?q3,?q4⟩;(case q1=>k_is);(case q2=>k_is);(case q3=>k_is);(case q4=>k_is))
   (case c_ls=>refine' ⟨?q1,?q2,?q3,?q4⟩;(case q1=>k_is);(case q2=>k_is);(case q3=>k_is);(case q4=>k_is))
   (case c_gr=>refine' ⟨?q1,?q2,?q3,?q4⟩;(case q1=>k_is);(case q2=>k_is);(case q3=>k_is);(case q4=>k_is))
   (case c_lr=>refine' ⟨?q1,?q2,?q3,?q4⟩;(case q1=>k_is);(case q2=>k_is);(case q3=>k_is);(case q4=>k_is))
   (case c_ld=>refine' ⟨?q1,?q2,?q3,?q4⟩;(case q1=>k_is);(case q2=>k_is);(case q3=>k_is);(case q4=>k_is))
   (case h_ne=>k_is)
   (case h_al=>k_is)
   (case h_le=>k_is)
   (case h_no=>k_is)
   (case h_mo=>k_is)
   (case h_ls=>k_is)
   (case h_gr=>k_is)
   (case h_lr=>k_is)
   (case h_ld=>k_is)
   (case m_ne=>k_is)
   (case m_al=>k_is)
   (case m_le=>k_is)
   (case m_no=>k_is)
   (case m_mo=>k_is)
   (case m_ls=>k_is)
   (case m_gr=>k_is)
   (case m_lr=>k_is)
   (case m_ld=>k_is)
   (case s_ne=>first | k_is | kit_is)
   (case s_al=>first | k_is | kit_is)
   (case s_le=>first | k_is | kit_is)
   (case s_no=>first | k_is | kit_is)
   (case s_mo=>first | k_is | kit_is)
   (case s_ls=>first | k_is | kit_is)
   (case s_gr=>first | k_is | kit_is)
   (case s_lr=>first | k_is | kit_is)
   (case s_ld=>first | k_is | kit_is)
   (case hn=>k_is)
   (case tk=>k_is)
   (case a_name=>k_is)
   (case a_part=>k_is)
   (case a_one_mo=>k_is)
   (case a_one_ls=>k_is)
   (case a_one_gr=>k_is)
   (case a_one_lr=>k_is)
   (case a_one_ld=>k_is)
   (case a_other_mo=>k_is)
   (case a_other_ls=>k_is)
   (case a_other_gr=>k_is)
   (case a_other_lr=>k_is)
   (case a_other_ld=>k_is)
   (case g_madeS_ne=>k_is)
   (case g_madeS_al=>k_is)
   (case g_madeS_le=>k_is)
   (case e_madeS=>refine' L2.aZ ?l ?c ?k ?fn;(case l=>k_is);(case c=>k_is);(case k=>k_is);(case fn=>k_is))
   (case g_piecesS_ne=>k_is)
   (case g_piecesS_al=>k_is)
   (case g_piecesS_le=>k_is)
   (case e_piecesS=>refine' L2.aZ ?l ?c ?k ?fn;(case l=>k_is);(case c=>k_is);(case k=>k_is);(case fn=>k_is))
   (case g_laid_ne=>k_is)
   (case g_laid_al=>k_is)
   (case g_laid_le=>k_is)
   (case g_laid_no=>k_is)
   (case g_laid_mo=>k_is)
   (case g_laid_ls=>k_is)
   (case g_laid_gr=>k_is)
   (case g_laid_lr=>k_is)
   (case g_laid_ld=>k_is)
   (case e_laid=>refine' L2.aZ ?l ?c ?k ?fn;(case l=>k_is);(case c=>k_is);(case k=>k_is);(case fn=>k_is))
   (case g_told_ne=>k_is)
   (case g_told_al=>k_is)
   (case g_told_le=>k_is)
   (case g_told_no=>k_is)
   (case g_told_mo=>k_is)
   (case g_told_ls=>k_is)
   (case g_told_gr=>k_is)
   (case g_told_lr=>k_is)
   (case g_told_ld=>k_is)
   (case e_told=>refine' L2.aZ ?l ?c ?k ?fn;(case l=>k_is);(case c=>k_is);(case k=>k_is);(case fn=>k_is))
   (case g_out_ne=>k_is)
   (case g_out_al=>k_is)
   (case g_out_le=>k_is)
   (case g_out_no=>k_is)
   (case g_out_mo=>k_is)
   (case g_out_ls=>k_is)
   (case g_out_gr=>k_is)
   (case g_out_lr=>k_is)
   (case g_out_ld=>k_is)
   (case e_out=>refine' L2.aZ ?l ?c ?k ?fn;(case l=>k_is);(case c=>k_is);(case k=>k_is);(case fn=>k_is))
   (case g_parts_ne=>k_is)
   (case g_parts_al=>k_is)
   (case g_parts_le=>k_is)
   (case g_parts_no=>k_is)
   (case g_parts_mo=>k_is)
   (case g_parts_ls=>k_is)
   (case g_parts_gr=>k_is)
   (case g_parts_lr=>k_is)
   (case g_parts_ld=>k_is)
   (case e_parts=>refine' L2.aZ ?l ?c ?k ?fn;(case l=>k_is);(case c=>k_is);(case k=>k_is);(case fn=>k_is))
   (case g_foldsS_ne=>k_is)
   (case g_foldsS_al=>k_is)
   (case g_foldsS_le=>k_is)
   (case g_foldsS_no=>k_is)
   (case g_foldsS_mo=>k_is)
   (case g_foldsS_ls=>k_is)
   (case g_foldsS_gr=>k_is)
   (case g_foldsS_lr=>k_is)
   (case g_foldsS_ld=>k_is)
   (case e_foldsS=>refine' L2.aZ ?l ?c ?k ?fn;(case l=>k_is);(case c=>k_is);(case k=>k_is);(case fn=>k_is))
   (case g_Kne_ne=>k_is)
   (case e_Kne=>refine' L2.aZ ?l ?c ?k ?fn;(case l=>k_is);(case c=>k_is);(case k=>k_is);(case fn=>k_is))
   (case g_Wne_ne=>k_is)
   (case e_Wne=>refine' L2.aZ ?l ?c ?k ?fn;(case l=>k_is);(case c=>k_is);(case k=>k_is);(case fn=>k_is))
   (case g_Kal_al=>k_is)
   (case e_Kal=>refine' L2.aZ ?l ?c ?k ?fn;(case l=>k_is);(case c=>k_is);(case k=>k_is);(case fn=>k_is))
   (case g_Wal_al=>k_is)
   (case e_Wal=>refine' L2.aZ ?l ?c ?k ?fn;(case l=>k_is);(case c=>k_is);(case k=>k_is);(case fn=>k_is))
   (case g_Kle_le=>k_is)
   (case e_Kle=>refine' L2.aZ ?l ?c ?k ?fn;(case l=>k_is);(case c=>k_is);(case k=>k_is);(case fn=>k_is))
   (case g_Wle_le=>k_is)
   (case e_Wle=>refine' L2.aZ ?l ?c ?k ?fn;(case l=>k_is);(case c=>k_is);(case k=>k_is);(case fn=>k_is))
   (case g_Kno_no=>k_is)
   (case e_Kno=>refine' L2.aZ ?l ?c ?k ?fn;(case l=>k_is);(case c=>k_is);(case k=>k_is);(case fn=>k_is))
   (case g_Wno_no=>k_is)
   (case e_Wno=>refine' L2.aZ ?l ?c ?k ?fn;(case l=>k_is);(case c=>k_is);(case k=>k_is);(case fn=>k_is))
   (case g_Mno_no=>k_is)
   (case e_Mno=>refine' L2.aZ ?l ?c ?k ?fn;(case l=>k_is);(case c=>k_is);(case k=>k_is);(case fn=>k_is))
   (case g_Pno_no=>k_is)
   (case e_Pno=>refine' L2.aZ ?l ?c ?k ?fn;(case l=>k_is);(case c=>k_is);(case k=>k_is);(case fn=>k_is))
   (case g_Mfo_mo=>k_is)
   (case g_Mfo_ls=>k_is)
   (case g_Mfo_gr=>k_is)
   (case g_Mfo_lr=>k_is)
   (case g_Mfo_ld=>k_is)
   (case e_Mfo=>refine' L2.aZ ?l ?c ?k ?fn;(case l=>k_is);(case c=>k_is);(case k=>k_is);(case fn=>k_is))
   (case g_Pfo_mo=>k_is)
   (case g_Pfo_ls=>k_is)
   (case g_Pfo_gr=>k_is)
   (case g_Pfo_lr=>k_is)
   (case g_Pfo_ld=>k_is)
   (case e_Pfo=>refine' L2.aZ ?l ?c ?k ?fn;(case l=>k_is);(case c=>k_is);(case k=>k_is);(case fn=>k_is))
   (case g_Wfo_mo=>k_is)
   (case g_Wfo_ls=>k_is)
   (case g_Wfo_gr=>k_is)
   (case g_Wfo_lr=>k_is)
   (case g_Wfo_ld=>k_is)
   (case e_Wfo=>refine' L2.aZ ?l ?c ?k ?fn;(case l=>k_is);(case c=>k_is);(case k=>k_is);(case fn=>k_is))
   (case g_F0mo_mo=>k_is)
   (case e_F0mo=>refine' L2.aZ ?l ?c ?k ?fn;(case l=>k_is);(case c=>k_is);(case k=>k_is);(case fn=>k_is))
   (case g_F1mo_mo=>k_is)
   (case e_F1mo=>refine' L2.aZ ?l ?c ?k ?fn;(case l=>k_is);(case c=>k_is);(case k=>k_is);(case fn=>k_is))
   (case g_F0ls_ls=>k_is)
   (case e_F0ls=>refine' L2.aZ ?l ?c ?k ?fn;(case l=>k_is);(case c=>k_is);(case k=>k_is);(case fn=>k_is))
   (case g_F1ls_ls=>k_is)
   (case e_F1ls=>refine' L2.aZ ?l ?c ?k ?fn;(case l=>k_is);(case c=>k_is);(case k=>k_is);(case fn=>k_is))
   (case g_F0gr_gr=>k_is)
   (case e_F0gr=>refine' L2.aZ ?l ?c ?k ?fn;(case l=>k_is);(case c=>k_is);(case k=>k_is);(case fn=>k_is))
   (case g_F1gr_gr=>k_is)
   (case e_F1gr=>refine' L2.aZ ?l ?c ?k ?fn;(case l=>k_is);(case c=>k_is);(case k=>k_is);(case fn=>k_is))
   (case g_F0lr_lr=>k_is)
   (case e_F0lr=>refine' L2.aZ ?l ?c ?k ?fn;(case l=>k_is);(case c=>k_is);(case k=>k_is);(case fn=>k_is))
   (case g_F1lr_lr=>k_is)
   (case e_F1lr=>refine' L2.aZ ?l ?c ?k ?fn;(case l=>k_is);(case c=>k_is);(case k=>k_is);(case fn=>k_is))
   (case g_F0ld_ld=>k_is)
   (case e_F0ld=>refine' L2.aZ ?l ?c ?k ?fn;(case l=>k_is);(case c=>k_is);(case k=>k_is);(case fn=>k_is))
   (case g_F1ld_ld=>k_is)
   (case e_F1ld=>refine' L2.aZ ?l ?c ?k ?fn;(case l=>k_is);(case c=>k_is);(case k=>k_is);(case fn=>k_is))
   (case g_ile_le=>k_is)
   (case e_ile=>refine' L2.aZ ?l ?c ?k ?fn;(case l=>k_is);(case c=>k_is);(case k=>k_is);(case fn=>k_is))
   (case g_ino_no=>k_is)
   (case e_ino=>refine' L2.aZ ?l ?c ?k ?fn;(case l=>k_is);(case c=>k_is);(case k=>k_is);(case fn=>k_is))
   (case g_ifo_mo=>k_is)
   (case g_ifo_ls=>k_is)
   (case g_ifo_gr=>k_is)
   (case g_ifo_lr=>k_is)
   (case g_ifo_ld=>k_is)
   (case e_ifo=>refine' L2.aZ ?l ?c ?k ?fn;(case l=>k_is);(case c=>k_is);(case k=>k_is);(case fn=>k_is))
   (case i_ne=>k_is)
   (case i_al=>k_is)
   (case y_ne=>k_is)
   (case y_al=>k_is)
   (case y_le=>k_is)
   (case y_no=>k_is)
   (case y_mo=>k_is)
   (case y_ls=>k_is)
   (case y_gr=>k_is)
   (case y_lr=>k_is)
   (case y_ld=>k_is)
   (case z_ne=>k_is)
   (case z_al=>k_is)
   (case z_le=>k_is)
   (case z_no=>k_is)
   (case z_mo=>k_is)
   (case z_ls=>k_is)
   (case z_gr=>k_is)
   (case z_lr=>k_is)
   (case z_ld=>k_is)
  obtain ⟨c,AF⟩:=AA
  have CC:∃ CT CN CF,Mine.X47 (L2.KOf KX) mg CT CN CF:=by
   dsimp only [L2.KOf]
   refine' Mine.cls47 KX G ?mCT ?mCN ?mCF ?xt ?xn ?t6 ?t7 ?t8 ?st ?n6 ?n7 ?n8 ?sn ?mne ?kne ?mal ?kal ?mle ?kle ?mno ?kno ?mmo ?kmo ?mls ?kls ?mgr ?kgr ?mlr ?klr ?mld ?kld
   (case mCT=>k_is)
   (case mCN=>k_is)
   (case mCF=>k_is)
   (case xt=>k_exc)
   (case xn=>k_exc)
   (case t6=>k_is)
   (case t7=>k_is)
   (case t8=>k_is)
   (case st=>k_is)
   (case n6=>k_is)
   (case n7=>k_is)
   (case n8=>k_is)
   (case sn=>k_is)
   (case mne=>k_is)
   (case kne=>first | k_is | kit_is)
   (case mal=>k_is)
   (case kal=>first | k_is | kit_is)
   (case mle=>k_is)
   (case kle=>first | k_is | kit_is)
   (case mno=>k_is)
   (case kno=>first | k_is | kit_is)
   (case mmo=>k_is)
   (case kmo=>first | k_is | kit_is)
   (case mls=>k_is)
   (case kls=>first | k_is | kit_is)
   (case mgr=>k_is)
   (case kgr=>first | k_is | kit_is)
   (case mlr=>k_is)
   (case klr=>first | k_is | kit_is)
   (case mld=>k_is)
   (case kld=>first | k_is | kit_is)
  obtain ⟨CT,CN,CF,XF⟩:=CC
  have gx:L2.fL (L2.KOf KX) mg "NEVER" [0,0,0]:=by
   dsimp only [L2.KOf]
   refine' L2.jR (ns:=[0,0,0]) KX G ?e ?l ?z ?v;(case e=>k_is);(case l=>k_is);(case z=>decide);(case v=>exact (.cons ⟨_,rfl⟩ (.cons ⟨_,rfl⟩ (.cons ⟨_,rfl⟩ .nil))))
  have fg:L2.fL (L2.KOf KX) mg "ALWAYS" [0,0,1]:=by
   dsimp only [L2.KOf]
   refine' L2.jR (ns:=[0,0,1]) KX G ?e ?l ?z ?v;(case e=>k_is);(case l=>k_is);(case z=>decide);(case v=>exact (.cons ⟨_,rfl⟩ (.cons ⟨_,rfl⟩ (.cons ⟨_,rfl⟩ .nil))))
  have kW:L2.fL (L2.KOf KX) mg "LETTER_P" [1,0,0]:=by
   dsimp only [L2.KOf]
   refine' L2.jR (ns:=[1,0,0]) KX G ?e ?l ?z ?v;(case e=>k_is);(case l=>k_is);(case z=>decide);(case v=>exact (.cons ⟨_,rfl⟩ (.cons ⟨_,rfl⟩ (.cons ⟨_,rfl⟩ .nil))))
  have kU:L2.fL (L2.KOf KX) mg "LETTER_Q" [0,1,0]:=by
   dsimp only [L2.KOf]
   refine' L2.jR (ns:=[0,1,0]) KX G ?e ?l ?z ?v;(case e=>k_is);(case l=>k_is);(case z=>decide);(case v=>exact (.cons ⟨_,rfl⟩ (.cons ⟨_,rfl⟩ (.cons ⟨_,rfl⟩ .nil))))
  have P_LEAF:Mine.yf (L2.KOf KX) mg "LEAF" "leaf":=by
   dsimp only [L2.KOf]
   refine' Mine.Ad KX G ?e ?l ?z ?v;(case e=>k_is);(case l=>k_is);(case z=>decide);(case v=>exact (.cons ⟨_,rfl⟩ .nil))
  have I_MOST:∃ t,mg "MOST_FOLDS"=some (.int 8 t):=by
   refine' L2.Ae KX G ?ie ?iq;(case ie=>k_is);(case iq=>exact ⟨_,rfl⟩)
  obtain ⟨tm,M_MOST⟩:=I_MOST
  obtain ⟨f,fd,F,m⟩:=T_law.ex
  have e:=hmg.symm.trans m
  cases e
  obtain ⟨oc,od,kV,doc,pm,an,cdv,ct,osl,hfd,lk,hcd⟩:=id F.ex
  subst hfd
  refine ⟨PySem.W.fnOf "law" "law" (L2.eY Mine.sLaw) (L2.bu Mine.sLaw) (L2.ah Mine.sLaw) .none kV doc pm an cdv ct,λs u=>.of_eq rfl,λbase kb' nb=>?_⟩
  have M:=Mine.ms (P:=PySem.Challenge.rw_leansay_k50_whole_least_worths.prog) (w:=w) (base:=base) AF bN bZ
  obtain ⟨kl,kn,kf⟩:=Mine.mks (P:=PySem.Challenge.rw_leansay_k50_whole_least_worths.prog) (w:=w) (base:=base) AF
  have GL:∀ t,L2.aT PySem.Challenge.rw_leansay_k50_whole_least_worths.prog w (L2.KOf KX) mg base (c.of t) "laid_out" 2 ["self"] (Mine.oQ c t):=λt=>Mine.ok_laid (AF.laid t) M
  have GF:∀ t,L2.aT PySem.Challenge.rw_leansay_k50_whole_least_worths.prog w (L2.KOf KX) mg base (c.of t) "folds" 3 ["self"] (Mine.oR c t):=λt=>Mine.AL (AF.foldsS t) bf aL XF.mF AF.fx (XF.kf AF) GL
  have GO:∀ t,L2.aT PySem.Challenge.rw_leansay_k50_whole_least_worths.prog w (L2.KOf KX) mg base (c.of t) "out_of" 3 ["self","n","x","y"] (Mine.Cm c t):=λt=>Mine.ok_out (AF.out t) M GL
  have dRowsOf:=Mine.AG BB bf aP M GL
  have dFactor:=Mine.AM (P:=PySem.Challenge.rw_leansay_k50_whole_least_worths.prog) (w:=w) (base:=base) nW ff
  have dTold:=Mine.ok_told (P:=PySem.Challenge.rw_leansay_k50_whole_least_worths.prog) (w:=w) (base:=base) BA
  have dTells:=Mine.xC (P:=PySem.Challenge.rw_leansay_k50_whole_least_worths.prog) (w:=w) (base:=base) BE
  have dTic:=Mine.ok_tic mf dTold
  have dCut:=Mine.ok_cut T_cut XF.mN XF.xN bN bZ cB bf dTic (Mine.ok_cb nj gW ff aP dFactor)
  have dLcut:=Mine.AK T_l_cut bN bZ cB bf gW ff dTells (Mine.ok_lwL qv aP)
  have dWithout:=Mine.xx (P:=PySem.Challenge.rw_leansay_k50_whole_least_worths.prog) (w:=w) (base:=base) By gW aP
  have dChoice:=Mine.AQ wG bf gx fg dWithout (Mine.ok_leaf wC gx fg kW kU) (Mine.ok_fold qN gx fg (Mine.ok_both (P:=PySem.Challenge.rw_leansay_k50_whole_least_worths.prog) (w:=w) (base:=base) T_both gW aP) dWithout)
  have dRules:=Mine.DG nS cB dChoice (Mine.AO wF bZ bN dTic)
  have dHulls:=Mine.DN yk (Mine.ok_sq (P:=PySem.Challenge.rw_leansay_k50_whole_least_worths.prog) (w:=w) (base:=base) wB) dCut
  have dCutting:=Mine.DR BJ GF (Mine.ok_few (P:=PySem.Challenge.rw_leansay_k50_whole_least_worths.prog) (w:=w) (base:=base) qK M_MOST) (Mine.ok_sq (P:=PySem.Challenge.rw_leansay_k50_whole_least_worths.prog) (w:=w) (base:=base) wB) dRowsOf (Mine.AD Bz P_LEAF dRules dCut 9)
  have dWorth:=Mine.xw T_worth (Mine.vB nU (Mine.tK yj aL aP bf ma (Mine.xD (P:=PySem.Challenge.rw_leansay_k50_whole_least_worths.prog) (w:=w) (base:=base) yi aL fe nh kb))) GO
  have dLw:=Mine.ok_lw qM dCutting dHulls dWorth (Mine.qE yl dFactor) (Mine.AJ (P:=PySem.Challenge.rw_leansay_k50_whole_least_worths.prog) (w:=w) (base:=base) T_less)
  have dWhole:=Mine.DC (P:=PySem.Challenge.rw_leansay_k50_whole_least_worths.prog) (w:=w) (base:=base) BD aL fe nh kb
  have dLrules:=Mine.vC BF (Mine.DL EN bf bN bZ (Mine.ok_lsum (P:=PySem.Challenge.rw_leansay_k50_whole_least_worths.prog) (w:=w) (base:=base) T_l_sum gW aP) dTells)
  have dLhulls:=Mine.AH BH aL aP bf ma dWhole dLcut 9
  have dHolds := Mine.AI T_l_holds bN dLhulls dLrules dTells
  have dNext:=Mine.ok_next (P:=PySem.Challenge.rw_leansay_k50_whole_least_worths.prog) (w:=w) (base:=base) EO bf
  have dFew:=Mine.ok_lfew T_l_few bf dNext (Mine.AE yg fe dNext 60) (Mine.ok_nf50 BI EM fe bf 60)
  exact Mine.ok_law F kj aL aP bf (Mine.DJ BG bf bZ bN kj ff fe) dNext dFew (Mine.ok_rt50 wD aP 60) (Mine.DI yh AF.o_ne AF.r_ne AF.o_al AF.r_al kl kn kf 60) dLw (Mine.ok_isfr nV aL aP bf ff dWhole (Mine.ok_lwT qv aP)) (Mine.ok_ispt uf aL aP bf ma bN bZ dWhole) dHolds (Mine.DB BC fe (Mine.DO ER bN bZ) 60)
 case S=>exact λK H a ns hl hb hO hS=>⟨a,ns,rfl,Mine.scr_of hO hS hl hb,λ_=>rfl⟩
 case C=>exact λ_ _ _ _ z=>z
