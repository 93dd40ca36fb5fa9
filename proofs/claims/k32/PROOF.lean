import PyProof.Rows.All
import Wide.All
import OpenK.AllK
import Wide.FinOn
import Lean
import PyProof.EqAt
import PyProof.EqKinds
import PyProof.TupleCall
import KE.KRevIter
import PyProof.ListNew
import PyProof.NeKinds
import PyProof.StrBlockL
import KE.LcSums
import PyProof.Rows.EqDataRows
import PyProof.Draws
import PyProof.EnumMake
import PyProof.ZipIter
import PyProof.WalksMore
import PyProof.P3In
import PyProof.IsRules
import KE.KTab
import PyProof.Rows.SumAny
import KE.KLcPair
import PyProof.ExcClass2
import PyProof.ExcInit
import PyProof.StationsW
import PyProof.InstStoreFacts
import PySem.Challenge.RW_leansay_k32_whole_built_lines_back
set_option Elab.async false
set_option linter.all false
set_option maxRecDepth 100000
namespace L2
open PySem PySem.Spec PyProof.Rows
noncomputable abbrev Key:=Sum Int Str
noncomputable def keyIs:Key→Value→Bool
  | .inl k,v=>Value.isInt k v
  | .inr x,v=>Value.isStrOf x v
noncomputable def keyH (w:World):Key→Int
  | .inl k=>hashInt k
  | .inr x=>hashStr w x
theorem keyIs_shape:∀{k:Key} {v:Value},keyIs k v=true→(∃ i t,k=Sum.inl i∧v=Value.int i t)∨(∃ x t,k=Sum.inr x∧v=Value.str x t)
  | .inl i,v,h=>by
    obtain ⟨t,e⟩:=Value.isInt_shape (k:=i) (v:=v) h
    exact .inl ⟨i,t,rfl,e⟩
  | .inr x,v,h=>by
    obtain ⟨t,e⟩:=Value.isStrOf_shape (x:=x) (v:=v) h
    exact .inr ⟨x,t,rfl,e⟩
theorem keyIs_int (i:Int) (t:Tok):keyIs (.inl i) (.int i t)=true:=by simp [keyIs,Value.isInt]
theorem keyIs_str (x:Str) (t:Tok):keyIs (.inr x) (.str x t)=true:=by simp [keyIs,Value.isStrOf]
theorem key_ll (a b:Int):decide ((Sum.inl a:Key)=Sum.inl b)=(a == b):=by
  by_cases e:a=b
  · subst e;simp
  · have h:¬ (Sum.inl a:Key)=Sum.inl b:=fun q=>e (Sum.inl.inj q)
    rw [decide_eq_false h]
    exact (beq_eq_false_iff_ne.mpr e).symm
theorem key_rr (a b:Str):decide ((Sum.inr a:Key)=Sum.inr b)=decide (a=b):=by
  by_cases e:a=b
  · subst e;simp
  · have h:¬ (Sum.inr a:Key)=Sum.inr b:=fun q=>e (Sum.inr.inj q)
    rw [decide_eq_false h,decide_eq_false e]
theorem key_lr (a:Int) (b:Str):decide ((Sum.inl a:Key)=Sum.inr b)=false:=decide_eq_false (fun q=>nomatch q)
theorem key_rl (a:Str) (b:Int):decide ((Sum.inr a:Key)=Sum.inl b)=false:=decide_eq_false (fun q=>nomatch q)
noncomputable def mixKind (prog:Program) (w:World):PySem.KeyKind prog w Key where
  is:=keyIs
  hash:=keyH w
  inj:=fun v a b ha hb=>by
    rcases keyIs_shape ha with ⟨i,t,rfl,rfl⟩ | ⟨x,t,rfl,rfl⟩
    · rcases keyIs_shape hb with ⟨j,u,rfl,e⟩ | ⟨y,u,rfl,e⟩
      · injection e with e1 _;rw [e1]
      · exact nomatch e
    · rcases keyIs_shape hb with ⟨j,u,rfl,e⟩ | ⟨y,u,rfl,e⟩
      · exact nomatch e
      · injection e with e1 _;rw [e1]
  byValue:=fun k v h=>by
    rcases keyIs_shape h with ⟨i,t,rfl,rfl⟩ | ⟨x,t,rfl,rfl⟩ <;> rfl
  pyHash:=fun hv h=>by
    rcases keyIs_shape hv with ⟨i,t,rfl,rfl⟩ | ⟨x,t,rfl,rfl⟩
    · exact wpAny_pyHash_int h
    · exact wpAny_pyHash_str h
  eqBool:=fun hu hv h=>by
    rcases keyIs_shape hu with ⟨i,t,rfl,rfl⟩ | ⟨x,t,rfl,rfl⟩
    · rcases keyIs_shape hv with ⟨j,u,rfl,rfl⟩ | ⟨y,u,rfl,rfl⟩
      · rw [key_ll] at h;exact wpAny_eqBool_int h
      · rw [key_lr] at h;exact SeqAt.EqAt.int_str i t y u _ _ _ _ h
    · rcases keyIs_shape hv with ⟨j,u,rfl,rfl⟩ | ⟨y,u,rfl,rfl⟩
      · rw [key_rl] at h;exact SeqAt.EqAt.str_int x t j u _ _ _ _ h
      · rw [key_rr] at h;exact wpAny_eqBool_str h
  «strs»:=fun k x t v h=>by
    rcases keyIs_shape h with ⟨i,u,rfl,e⟩ | ⟨y,u,rfl,e⟩
    · exact nomatch e
    · injection e with e1 _
      subst e1
      cases v <;> rfl
theorem mixKind_int (prog:Program) (w:World) (i:Int) (t:Tok):(mixKind prog w).is (.inl i) (.int i t)=true:=keyIs_int i t
theorem mixKind_str (prog:Program) (w:World) (x:Str) (t:Tok):(mixKind prog w).is (.inr x) (.str x t)=true:=keyIs_str x t
end L2
namespace L2
open PySem PySem.Spec PyProof.Rows
inductive V where
  | non | bl (b:Bool) | int (i:Int) | str (x:Str) | byt (b:Array UInt8) | flt (b:UInt64) | ref (a:Addr) | ty (n:String)
  deriving DecidableEq
noncomputable def RelV:V→Value→Prop
  | .non,u=>u=Value.none
  | .bl b,u=>u=Value.bool b
  | .int i,u=>∃ t,u=Value.int i t
  | .str x,u=>∃ t,u=Value.str x t
  | .byt b,u=>∃ t,u=Value.bytes b t
  | .flt b,u=>∃ t,u=Value.float b t
  | .ref a,u=>u=Value.ref a
  | .ty n,u=>u=Value.type n
noncomputable abbrev Vals:List V→List Value→Prop:=Paired RelV
theorem Vals.length {xs:List V} {us:List Value} (r:Vals xs us):xs.length=us.length:=Paired.length r
theorem Vals.get:∀{xs:List V} {us:List Value} {i:Nat} {x:V},Vals xs us→xs[i]?=some x→∃ u,us[i]?=some u∧RelV x u
  | _,_,_,_,.nil,e=>by simp at e
  | _,_,0,_,.cons r _,e=>by simp at e;subst e;exact ⟨_,rfl,r⟩
  | _,_,i+1,x,.cons _ t,e=>by
    obtain ⟨u,h1,h2⟩:=Vals.get (i:=i) (x:=x) t (by simpa using e)
    exact ⟨u,by simpa using h1,h2⟩
theorem Vals.set {x:V} {u:Value} (r:RelV x u):∀{xs:List V} {us:List Value} (i:Nat),Vals xs us→Vals (xs.set i x) (us.set i u)
  | _,_,_,.nil=>.nil
  | _,_,0,.cons _ t=>.cons r t
  | _,_,i+1,.cons q t=>.cons q (Vals.set r i t)
theorem Vals.append:∀{xs ys:List V} {us ws:List Value},Vals xs us→Vals ys ws→Vals (xs++ys) (us++ws)
  | _,_,_,_,.nil,s=>s
  | _,_,_,_,.cons r t,s=>.cons r (Vals.append t s)
theorem Vals.take:∀{xs:List V} {us:List Value} (n:Nat),Vals xs us→Vals (xs.take n) (us.take n)
  | _,_,0,_=>.nil
  | _,_,_+1,.nil=>.nil
  | _,_,n+1,.cons r t=>.cons r (Vals.take n t)
theorem Vals.drop:∀{xs:List V} {us:List Value} (n:Nat),Vals xs us→Vals (xs.drop n) (us.drop n)
  | _,_,0,r=>r
  | _,_,_+1,.nil=>.nil
  | _,_,n+1,.cons _ t=>Vals.drop n t
noncomputable def RelO:Option V→Option Value→Prop
  | some v,some u=>RelV v u
  | none,none=>True
  | _,_=>False
noncomputable def KV {κ:Type}:List (κ×V)→List (κ×Value)→Prop:=Paired fun (p:κ×V) (q:κ×Value)=>p.1=q.1∧RelV p.2 q.2
noncomputable def kV:Key→V
  | .inl i=>.int i
  | .inr x=>.str x
inductive HO where
  | lst (xs:List V)
  | tup (xs:List V)
  | dK (kvs:List (Key×V)) | dT (kvs:List (List Key×V))
  | set (S:Int→Bool) (n:Nat)
  | ins (C dx:Addr) (fs:List (Str×V))
  | own (x:Addr)
  | xd (fs:List (Str×V))
  | met (f x:Addr)
  | rng (lo hi:Int)
  | frz (o:Obj) (u:HO)
  | tbl (ps:Array Value)
  | ext (φ:Heap→Prop)
noncomputable abbrev Hp:=Addr→Option HO
noncomputable def upd (H:Hp) (a:Addr) (o:HO):Hp:=fun b=>if b=a then some o else H b
theorem upd_same {H:Hp} {a:Addr} {o:HO}:upd H a o a=some o:=by unfold upd;rw [if_pos rfl]
theorem upd_ne {H:Hp} {a b:Addr} {o:HO} (h:b≠a):upd H a o b=H b:=by unfold upd;rw [if_neg h]
theorem ne_of {H:Hp} {a b:Addr} {o u:HO} (h:H a=some o) (h':H b=some u) (d:o≠u):a≠b:=by
  intro e;subst e;rw [h] at h';exact d (Option.some.inj h')
theorem ne_of_none {H:Hp} {a b:Addr} {o:HO} (h:H a=some o) (h':H b=none):a≠b:=by
  intro e;subst e;rw [h] at h';cases h'
section
variable (P:Program) (w:World)
noncomputable def ObjOk (H:Hp) (h:Heap) (a:Addr):HO→Prop
  | .lst xs=>xs.length≤sizeLine∧∃(its:List Value) (n:Nat),Vals xs its∧h.get? a=some {cls:=.type "list",data:=.seq its.toArray n}
  | .tup xs=>xs.length≤sizeLine∧∃ its:List Value,Vals xs its∧IsTup h a its.toArray
  | .dK kvs=>kvs.length≤sizeLine∧(a == sysModules)=false∧∃ vs,KV kvs vs∧h.DictOf (mixKind P w) a vs
  | .dT kvs=>kvs.length≤sizeLine∧(a == sysModules)=false∧∃ xs:List (List Key×Addr×Value),
      Paired (fun (p:List Key×V) (q:List Key×Addr×Value)=>p.1=q.1∧H q.2.1=some (.tup (p.1.map kV))∧RelV p.2 q.2.2) kvs xs∧
      ∃ o es ep,h.get? a=some o∧o.ExactDict∧o.data=.dict es ep∧es.toList=xs.map (entryOfKey (tupleKind (mixKind P w)))∧(xs.map (·.1)).Nodup
  | .set S n=>h.SetOf (intKind P w) a S n
  | .ins C dx fs=>H dx=some (.own a)∧fs.length≤1000∧dx≠a∧h.get? a=some (PySem.W.instObj C dx)∧
      ∃ mA,h.Ns1 dx mA∧(∀ f,RelO (fs.lookup f) (mA f))∧PySem.Within mA (fs.map (·.1))
  | .own _=>∃ o,h.get? a=some o
  | .xd fs=>∃ mA,h.Ns1 a mA∧∀ f,RelO (fs.lookup f) (mA f)
  | .rng lo hi=>∃ t u v,h.get? a=some {cls:=.type "range",data:=.fields #[.int lo t,.int hi u,.int 1 v] }
  | .frz o u=>h.get? a=some o∧ObjOk H h a u
  | .tbl ps=>h.get? a=some {cls:=.none,data:=.fields ps}
  | .met f x=>h.get? a=some (PySem.W.methodObj (.ref f) (.ref x))
  | .ext φ=>φ h∧(∃ o,h.get? a=some o)∧∀ h1 h2:Heap,φ h1→(∀ o,h1.get? a=some o→h2.get? a=some o)→φ h2
noncomputable def HOk (H:Hp) (h:Heap):Prop:=∀ a o,H a=some o→ObjOk P w H h a o
end
section
variable {P:Program} {w:World} {H H':Hp} {h h':Heap} {a:Addr} {o:HO}
theorem ObjOk.lt (x:ObjOk P w H h a o):a < h.objs.size:=by
  cases o with
  | lst xs=>obtain ⟨_,_,_,_,e⟩:=x;exact Heap.lt_size e
  | tup xs=>obtain ⟨_,_,_,p⟩:=x;exact p.lt
  | dK kvs=>obtain ⟨_,_,_,_,o,_,_,e,_⟩:=x;exact Heap.lt_size e
  | dT kvs=>obtain ⟨_,_,_,_,o,_,_,e,_⟩:=x;exact Heap.lt_size e
  | set S n=>obtain ⟨o,_,_,_,e,_⟩:=x;exact Heap.lt_size e
  | ins C dx fs=>obtain ⟨_,_,_,e,_⟩:=x;exact Heap.lt_size e
  | own y=>obtain ⟨_,e⟩:=x;exact Heap.lt_size e
  | xd fs=>obtain ⟨_,⟨_,_,_,e,_⟩,_⟩:=x;exact Heap.lt_size e
  | rng lo hi=>obtain ⟨_,_,_,e⟩:=x;exact Heap.lt_size e
  | frz ob u=>obtain ⟨e,_⟩:=x;exact Heap.lt_size e
  | tbl ps=>exact Heap.lt_size (show h.get? a=some _ from x)
  | met f y=>exact Heap.lt_size (show h.get? a=some _ from x)
  | ext φ=>obtain ⟨_,⟨_,e⟩,_⟩:=x;exact Heap.lt_size e
theorem Paired.mapP {α β:Type} {F G:α→β→Prop}:∀{l₁:List α} {l₂:List β},Paired F l₁ l₂→(∀ a b,F a b→G a b)→Paired G l₁ l₂
  | _,_,.nil,_=>.nil
  | _,_,.cons r t,f=>.cons (f _ _ r) (Paired.mapP t f)
theorem ObjOk.stay (x:ObjOk P w H h a o) (k:∀ b u,(b=a∨H b=some (.own a))→h.get? b=some u→h'.get? b=some u)
    (ho:∀ b,H b=some (.own a)→H' b=some (.own a)) (ht:∀ b xs,H b=some (.tup xs)→H' b=some (.tup xs)):ObjOk P w H' h' a o:=by
  induction o with
  | lst xs=>obtain ⟨z,its,n,r,e⟩:=x;exact ⟨z,its,n,r,k _ _ (.inl rfl) e⟩
  | tup xs=>obtain ⟨z,its,r,ob,e,c⟩:=x;exact ⟨z,its,r,ob,k _ _ (.inl rfl) e,c⟩
  | dK kvs=>obtain ⟨z,y,vs,r,ob,es,ep,e,c⟩:=x;exact ⟨z,y,vs,r,ob,es,ep,k _ _ (.inl rfl) e,c⟩
  | dT kvs =>
    obtain ⟨z,y,xs,r,ob,es,ep,e,c⟩:=x
    exact ⟨z,y,xs,Paired.mapP r fun p q z=>⟨z.1,ht _ _ z.2.1,z.2.2⟩,ob,es,ep,k _ _ (.inl rfl) e,c⟩
  | set S n=>obtain ⟨ob,es,ep,t,e,c⟩:=x;exact ⟨ob,es,ep,t,k _ _ (.inl rfl) e,c⟩
  | ins C dx fs =>
    obtain ⟨d,z,ne,e,mA,⟨od,es,ep,e2,c⟩,r⟩:=x
    exact ⟨ho _ d,z,ne,k _ _ (.inl rfl) e,mA,⟨od,es,ep,k _ _ (.inr d) e2,c⟩,r⟩
  | own y=>obtain ⟨ob,e⟩:=x;exact ⟨ob,k _ _ (.inl rfl) e⟩
  | xd fs=>obtain ⟨mA,⟨od,es,ep,e,c⟩,r⟩:=x;exact ⟨mA,⟨od,es,ep,k _ _ (.inl rfl) e,c⟩,r⟩
  | rng lo hi=>obtain ⟨t,u,v,e⟩:=x;exact ⟨t,u,v,k _ _ (.inl rfl) e⟩
  | frz ob u ih=>obtain ⟨e,q⟩:=x;exact ⟨k _ _ (.inl rfl) e,ih q⟩
  | tbl ps =>
    have e:h.get? a=some {cls:=.none,data:=.fields ps}:=x
    show h'.get? a=some {cls:=.none,data:=.fields ps}
    exact k a _ (.inl rfl) e
  | met f y =>
    have e:h.get? a=some (PySem.W.methodObj (.ref f) (.ref y)):=x
    show h'.get? a=some (PySem.W.methodObj (.ref f) (.ref y))
    exact k a _ (.inl rfl) e
  | ext φ=>obtain ⟨p,⟨o,e⟩,st⟩:=x;exact ⟨st _ _ p fun o q=>k _ _ (.inl rfl) q,⟨o,k _ _ (.inl rfl) e⟩,st⟩
theorem HOk.lt (x:HOk P w H h) (e:H a=some o):a < h.objs.size:=(x a o e).lt
theorem HOk.fresh (x:HOk P w H h) (e:h.objs.size≤a):H a=none:=by
  cases q:H a with
  | none=>rfl
  | some u=>exact absurd (Nat.lt_of_lt_of_le (x.lt q) e) (Nat.lt_irrefl _)
theorem HOk.kept (x:HOk P w H h) (k:∀ b u,h.get? b=some u→h'.get? b=some u):HOk P w H h':=fun a o e =>
  (x a o e).stay (fun b u _ q=>k b u q) (fun _ q=>q) fun _ _ q=>q
theorem HOk.laid (x:HOk P w H h) (k:∀ b u,h.get? b=some u→h'.get? b=some u) (hp:h.objs.size≤a) (new:ObjOk P w (upd H a o) h' a o):HOk P w (upd H a o) h':=fun b u e=>by
  have hn:=x.fresh hp
  by_cases hb:b=a
  · subst hb;rw [upd_same] at e;cases e;exact new
  · rw [upd_ne hb] at e
    exact (x b u e).stay (fun c v _ q=>k c v q) (fun c q=>by rw [upd_ne (ne_of_none q hn)];exact q) fun c xs q=>by rw [upd_ne (ne_of_none q hn)];exact q
end
noncomputable def Rd (H:Hp) (a:Addr) (u:HO):Prop:=H a=some u∨∃ o,H a=some (.frz o u)
theorem Rd.ok {P:Program} {w:World} {H:Hp} {h:Heap} {a:Addr} {u:HO} (r:Rd H a u) (x:HOk P w H h):ObjOk P w H h a u:=by
  rcases r with r | ⟨o,r⟩
  · exact x a u r
  · obtain ⟨_,q⟩:=x a _ r
    exact q
noncomputable def Mut:Option HO→Prop
  | some (.lst _)=>True
  | some (.dK _)=>True
  | some (.dT _)=>True
  | some (.set _ _)=>True
  | some (.ins _ _ _)=>True
  | some (.ext _)=>True
  | _=>False
section
variable {P:Program} {w:World} {H:Hp} {h h':Heap} {x e:Addr} {o':HO}
theorem HOk.write (ok:HOk P w H h) (mu:Mut (H x)) (he:e=x∨H e=some (.own x)) (k:∀ b u,b≠e→h.get? b=some u→h'.get? b=some u) (heo:∃ u,h'.get? e=some u)
    (new:ObjOk P w (upd H x o') h' x o'):HOk P w (upd H x o') h':=fun b u q=>by
  have nown:∀ c y,H c=some (.own y)→c≠x:=fun c y r z=>by subst z;rw [r] at mu;exact mu
  have ntup:∀ c xs,H c=some (.tup xs)→c≠x:=fun c xs r z=>by subst z;rw [r] at mu;exact mu
  by_cases hb:b=x
  · subst hb;rw [upd_same] at q;cases q;exact new
  · rw [upd_ne hb] at q
    by_cases hbe:b=e
    · have q':H b=some (.own x):=by
        rcases he with z | z
        · exact absurd (hbe.trans z) hb
        · rw [hbe];exact z
      rw [q] at q';cases q'
      obtain ⟨v,hv⟩:=heo
      exact ⟨v,by rw [hbe];exact hv⟩
    · refine (ok b u q).stay (fun c v hc r=>k c v ?_ r) (fun c r=>by rw [upd_ne (nown c b r)];exact r) fun c xs r=>by rw [upd_ne (ntup c xs r)];exact r
      rcases hc with rfl | hc
      · exact hbe
      · rintro rfl
        rcases he with z | z
        · exact nown c b hc z
        · rw [hc] at z;cases z;exact hb rfl
end
structure Un (fs ex:List Addr) (H H':Hp) (h h':Heap):Prop where
  keep:∀ b o,h.get? b=some o→H b=none→b ∉ fs→b ∉ ex→h'.get? b=some o
  slot:∀ b o,h.get? b=some o→H b=none→b∈fs→b ∉ ex→∃ sl,h'.get? b=some {o with slots:=sl}
  free:∀ b o,h.get? b=some o→H b=none→b ∉ ex→H' b=none
  there:∀ b o,h.get? b=some o→b ∉ ex→∃ o',h'.get? b=some o'
  tups:∀ b xs,H b=some (.tup xs)→H' b=some (.tup xs)
  frzs:∀ b o u,H b=some (.frz o u)→H' b=some (.frz o u)
  tbls:∀ b ps,H b=some (.tbl ps)→∃ more,H' b=some (.tbl (ps++more))
section
variable {fs fs' ex ex':List Addr} {H H1 H2:Hp} {h h1 h2 h':Heap} {a x e:Addr} {o:HO}
theorem Un.any (u:Un fs ex H H1 h h1) {b:Addr} {ob:Obj} (q:h.get? b=some ob) (n:H b=none) (hx:b ∉ ex):∃ sl,h1.get? b=some {ob with slots:=sl}:=by
  by_cases hb:b∈fs
  · exact u.slot b ob q n hb hx
  · exact ⟨ob.slots,u.keep b ob q n hb hx⟩
theorem Un.kept (k:∀ b u,h.get? b=some u→h'.get? b=some u):Un fs ex H H h h' :=
  ⟨fun b ob q _ _ _=>k b ob q,fun b ob q _ _ _=>⟨ob.slots,k b ob q⟩,fun _ _ _ n _=>n,fun b ob q _=>⟨ob,k b ob q⟩,fun _ _ q=>q,fun _ _ _ q=>q,fun _ ps q=>⟨#[],by rw [q];simp⟩⟩
theorem Un.refl:Un fs ex H H h h:=Un.kept fun _ _ q=>q
theorem Un.laid (k:∀ b u,h.get? b=some u→h'.get? b=some u) (hp:h.objs.size≤a) (hn:H a=none):Un fs ex H (upd H a o) h h' where
  keep:=fun b u q _ _ _=>k b u q
  slot:=fun b u q _ _ _=>⟨u.slots,k b u q⟩
  free:=fun b u q n _=>by rw [upd_ne (Nat.ne_of_lt (Nat.lt_of_lt_of_le (Heap.lt_size q) hp))];exact n
  there:=fun b u q _=>⟨u,k b u q⟩
  tups:=fun b xs q=>by rw [upd_ne (ne_of_none q hn)];exact q
  frzs:=fun b u xs q=>by rw [upd_ne (ne_of_none q hn)];exact q
  tbls:=fun b ps q=>⟨#[],by rw [upd_ne (ne_of_none q hn),q];simp⟩
theorem Un.write (mu:Mut (H x)) (he:e=x∨H e=some (.own x)) (k:∀ b u,b≠e→h.get? b=some u→h'.get? b=some u) (heo:∃ u,h'.get? e=some u):Un fs ex H (upd H x o) h h':=by
  have hx:∀ b,H b=none→b≠x:=fun b n z=>by subst z;rw [n] at mu;exact mu
  have hb:∀ b,H b=none→b≠e:=fun b n z=>by
    subst z
    rcases he with r | r
    · exact hx b n r
    · rw [n] at r;cases r
  have hm:∀ b u,H b=some u→¬Mut (some u)→b≠x:=fun b u q nm z=>by subst z;rw [q] at mu;exact nm mu
  refine ⟨fun b u q n _ _=>k b u (hb b n) q,fun b u q n _ _=>⟨u.slots,k b u (hb b n) q⟩,fun b u q n _=>by rw [upd_ne (hx b n)];exact n,fun b u q _=>?_,
    fun b xs q=>by rw [upd_ne (hm b _ q fun z=>z)];exact q,fun b u xs q=>by rw [upd_ne (hm b _ q fun z=>z)];exact q,fun b ps q=>⟨#[],by rw [upd_ne (hm b _ q fun z=>z),q];simp⟩⟩
  by_cases hbe:b=e
  · subst hbe;exact heo
  · exact ⟨u,k b u hbe q⟩
end
noncomputable def trk (h:Heap) (H:Hp):List Addr:=(List.range h.objs.size).filter fun a=>(H a).isSome
noncomputable def hidT (h:Heap) (H:Hp):Heap:=PySem.W.hideAll h (trk h H)
theorem hidT_size (h:Heap) (H:Hp):(hidT h H).objs.size=h.objs.size:=PySem.W.hideAll_size _ _
theorem hidT_get {h:Heap} {H:Hp} {b:Addr} {o:Obj} (e:h.get? b=some o) (n:H b=none):(hidT h H).get? b=some o :=
  PySem.W.hideAll_get _ e fun hm=>by
    have q:(H b).isSome=true:=(List.mem_filter.mp hm).2
    rw [n] at q;simp at q
theorem of_hidT {h:Heap} {H:Hp} {b:Addr} {o:Obj} (e:(hidT h H).get? b=some o):h.get? b=some o∧H b=none:=by
  have e':h.get? b=some o:=PySem.W.of_hideAll (trk h H) e
  refine ⟨e',?_⟩
  cases q:H b with
  | none=>rfl
  | some x =>
    have hm:b∈trk h H:=List.mem_filter.mpr ⟨List.mem_range.mpr (Heap.lt_size e'),by simp [q]⟩
    have z:(hidT h H).get? b=none:=PySem.W.hideAll_none (trk h H) hm
    rw [z] at e;cases e
end L2
namespace L2
open PySem PySem.Spec PyProof.Rows
structure Mod (K:PySem.W.Frag) (mg:Str→Option Value) (base:Heap):Prop where
  kin:K.In base
  glob:base.Ns mainGlobals mg
  blt:∃ mb,base.Ns builtinsNs mb∧∀ x:Str,x≠"__name__"→mb x=bootBuiltins x
  nolimit:base.NoLimit
structure Cx where
  prog:Program
  w:World
  K:PySem.W.Frag
  mg:Str→Option Value
  base:Heap
  A:Around
  N:List Str
  s₀:Shared
  H₀:Hp
  env:Env
  outer:List Env
  stack:List Env
  ex:List Addr
  fn:Str→Bool
  calm:Bool
  pn:List (Addr×Obj)
  xe:Value→Shared→Prop
noncomputable def frs (l:List Env):List Addr:=l.filterMap (·.frame)
noncomputable abbrev Cx.fs (X:Cx):List Addr:=frs X.outer
noncomputable def Vis (sc:Scope) (x:Str):Prop:=sc.names.lookup x=some .local∨sc.names.lookup x=some .cell∨sc.names.lookup x=some .free
noncomputable def Loc (sc:Scope) (x:Str):Prop:=sc.names.lookup x=some .local∨sc.names.lookup x=some .cell
noncomputable def Look (env:Env) (h:Heap) (m:Str→Option Value) (x:Str) (u:Value):Prop :=
  (env.kindOf x=some .local∧m x=some u)∨((env.kindOf x=some .cell∨env.kindOf x=some .free)∧∃ c,env.cells.lookup x=some c∧h.IsCell c (some u))
structure Cx.Ok (X:Cx):Prop where
  mod:Mod X.K X.mg X.base
  kind:X.env.scope.kind=.function
  glob:X.env.globals=mainGlobals
  blt:X.env.builtins=builtinsNs
  above:X.s₀.heap.objs.size≤X.env.locals
  inj:∀ x y c,X.env.cells.lookup x=some c→X.env.cells.lookup y=some c→x=y
  has:∀ x,(X.env.kindOf x=some .cell∨X.env.kindOf x=some .free)→∃ c,X.env.cells.lookup x=some c
  cab:∀ x c,X.fn x=true→X.env.cells.lookup x=some c→X.s₀.heap.objs.size≤c
  hd:X.calm=true→X.A.handled=none
  frames:X.A.frames=some X.stack
  stk:X.stack=X.outer∨(X.stack=X.env::X.outer∧X.env.frame=some X.env.locals)
  exf:∀ b∈X.ex,b≠X.env.locals∧∀ x c,X.env.cells.lookup x=some c→c≠b
  bs:∀ b o,X.base.get? b=some o→X.s₀.heap.get? b=some o∧X.H₀ b=none
  bsz:X.base.objs.size≤X.s₀.heap.objs.size
  noex:∀ b o,X.base.get? b=some o→b ∉ X.ex
  exfs:∀ b∈X.ex,b ∉ X.fs
  funs:X.s₀.heap.FunFrames X.base X.outer
  frf:∀ b∈X.fs,X.H₀ b=none
structure Inv (X:Cx) (pins:List (Addr×Obj)) (σ:List (Option V)) (H:Hp) (s:Shared):Prop where
  ok:X.Ok
  os:s.os=X.s₀.os
  bare:AllBare s.gens
  base:Un X.fs X.ex X.H₀ H X.s₀.heap s.heap
  loc:∃ m,s.heap.Ns X.env.locals m∧∀(i:Nat) (x:Str) (v:V),X.N[i]?=some x→σ[i]?=some (some v)→Vis X.env.scope x→∃ u,RelV v u∧Look X.env s.heap m x u
  cell:∀ x c,X.env.cells.lookup x=some c→∃ v,s.heap.IsCell c v
  free:H X.env.locals=none
  freeC:∀ x c,X.env.cells.lookup x=some c→H c=none
  pin:∀ p∈X.pn++pins,s.heap.get? p.1=some p.2∧H p.1=none∧p.1≠X.env.locals∧p.1 ∉ X.fs∧∀ v,p.2.data≠.cell v
  hok:HOk X.prog X.w H s.heap
  len:σ.length=X.N.length
section
variable {X:Cx} {pins:List (Addr×Obj)} {σ:List (Option V)} {H H':Hp} {s:Shared} {h':Heap}
theorem Cx.Ok.nofr (ok:X.Ok) {b:Addr} {o:Obj} (e:X.base.get? b=some o):b ∉ X.fs:=fun hb=>by
  have:=(ok.funs.mem hb).1
  rw [e] at this;cases this
theorem Inv.bs (I:Inv X pins σ H s):∀ b o,X.base.get? b=some o→s.heap.get? b=some o∧H b=none:=fun b o e =>
  ⟨I.base.keep b o (I.ok.bs b o e).1 (I.ok.bs b o e).2 (I.ok.nofr e) (I.ok.noex b o e),I.base.free b o (I.ok.bs b o e).1 (I.ok.bs b o e).2 (I.ok.noex b o e)⟩
theorem Inv.bk (I:Inv X pins σ H s):∀ b o,X.base.get? b=some o→s.heap.get? b=some o:=fun b o e=>(I.bs b o e).1
theorem Inv.mod (I:Inv X pins σ H s):Mod X.K X.mg X.base:=I.ok.mod
theorem Inv.kIn (I:Inv X pins σ H s):X.K.In s.heap:=I.ok.mod.kin.keeps I.bk
theorem Inv.lt (I:Inv X pins σ H s):X.env.locals < s.heap.objs.size:=let ⟨_,hn,_⟩:=I.loc;hn.lt
theorem Inv.sz (I:Inv X pins σ H s):X.s₀.heap.objs.size≤s.heap.objs.size:=Nat.le_trans I.ok.above (Nat.le_of_lt I.lt)
theorem Inv.nofs (I:Inv X pins σ H s) {a:Addr} (h:s.heap.objs.size≤a):a ∉ X.fs:=fun hb=>by
  obtain ⟨_,o,ho,_⟩:=I.ok.funs.mem hb
  exact absurd (Nat.lt_of_lt_of_le (Heap.lt_size ho) (Nat.le_trans I.sz h)) (Nat.lt_irrefl _)
theorem Inv.cne (I:Inv X pins σ H s):∀ x c,X.env.cells.lookup x=some c→c≠X.env.locals:=fun x c e z=>by
  obtain ⟨v,o,ho,hd⟩:=I.cell x c e
  obtain ⟨m,⟨o',es,ep,ho',hd',_⟩,_⟩:=I.loc
  rw [z,ho'] at ho;cases ho;rw [hd'] at hd;cases hd
theorem Inv.funs (I:Inv X pins σ H s):s.heap.FunFrames X.base X.outer:=by
  have all:∀(l:List Env),(∀ b∈frs l,b∈X.fs)→X.s₀.heap.FunFrames X.base l→s.heap.FunFrames X.base l:=by
    intro l
    induction l with
    | nil=>intro _ _;trivial
    | cons env r ih =>
      intro hs hl
      obtain ⟨hk,⟨L,o,hf,hn,ho,hd⟩,hr⟩:=hl
      have hL:L∈X.fs:=hs L (by unfold frs;rw [List.filterMap_cons,hf];exact List.mem_cons_self)
      obtain ⟨sl,e⟩:=I.base.slot L o ho (I.ok.frf L hL) hL fun z=>I.ok.exfs L z hL
      exact ⟨hk,⟨L,_,hf,hn,e,hd⟩,ih (fun b hb=>hs b (by unfold frs;rw [List.filterMap_cons,hf];exact List.mem_cons_of_mem _ hb)) hr⟩
  exact all X.outer (fun _ hb=>hb) I.ok.funs
theorem Inv.stack (I:Inv X pins σ H s):s.heap.FunFrames X.base X.stack:=by
  rcases I.ok.stk with e | ⟨e,hf⟩
  · rw [e];exact I.funs
  · rw [e]
    obtain ⟨m,hn,_⟩:=I.loc
    refine .cons (by rw [I.ok.kind];decide) hf hn ?_ I.funs
    exact Heap.get?_none_of_le (Nat.le_trans I.ok.bsz I.ok.above)
theorem Inv.stkSub (I:Inv X pins σ H s):∀ b∈frs X.stack,b∈X.env.locals::X.fs:=fun b hb=>by
  rcases I.ok.stk with e | ⟨e,hf⟩
  · rw [e] at hb;exact List.mem_cons_of_mem _ hb
  · rw [e] at hb
    unfold frs at hb
    rw [List.filterMap_cons,hf] at hb
    exact hb
theorem Inv.stkFree (I:Inv X pins σ H s):∀ b∈frs X.stack,H b=none:=fun b hb=>by
  rcases List.mem_cons.mp (I.stkSub b hb) with e | hb
  · rw [e];exact I.free
  · obtain ⟨_,o,ho,_⟩:=I.ok.funs.mem hb
    exact I.base.free b o ho (I.ok.frf b hb) fun z=>I.ok.exfs b z hb
theorem Inv.step {g':Array GenState} {t':Nat} {d':Drawn} {ch:List Addr} (I:Inv X pins σ H s)
    (hch:∀ b∈ch,(b∈X.ex∨X.s₀.heap.objs.size≤b)∧b≠X.env.locals∧(∀ x c,X.env.cells.lookup x=some c→c≠b)∧∀ p∈X.pn++pins,p.1≠b)
    (keep:∀ b o,b≠X.env.locals→b ∉ X.fs→b ∉ ch→s.heap.get? b=some o→H b=none→h'.get? b=some o)
    (slot:∀ b o,b≠X.env.locals→b∈X.fs→b ∉ ch→s.heap.get? b=some o→H b=none→∃ sl,h'.get? b=some {o with slots:=sl}) (free:∀ b o,b ∉ ch→s.heap.get? b=some o→H b=none→H' b=none)
    (there:∀ b o,b ∉ ch→s.heap.get? b=some o→∃ o',h'.get? b=some o')
    (tups:∀ b xs,H b=some (.tup xs)→H' b=some (.tup xs)) (frzs:∀ b o u,H b=some (.frz o u)→H' b=some (.frz o u)) (tbls:∀ b ps,H b=some (.tbl ps)→∃ more,H' b=some (.tbl (ps++more)))
    (ns:∀ m,s.heap.Ns X.env.locals m→h'.Ns X.env.locals m) (hok:HOk X.prog X.w H' h') (hg:AllBare g') :
    Inv X pins σ H' {s with heap:=h',gens:=g',drawn:=d',toks:=t' }:=by
  have neL:∀ b o,X.s₀.heap.get? b=some o→b≠X.env.locals:=fun b o e=>Nat.ne_of_lt (Nat.lt_of_lt_of_le (Heap.lt_size e) I.ok.above)
  have neC:∀ b o,X.s₀.heap.get? b=some o→b ∉ X.ex→b ∉ ch:=fun b o e hx hb=>by
    rcases (hch b hb).1 with z | z
    · exact hx z
    · exact absurd (Nat.lt_of_lt_of_le (Heap.lt_size e) z) (Nat.lt_irrefl _)
  have cellK:∀ x c,X.env.cells.lookup x=some c→∀ v,s.heap.IsCell c v→h'.IsCell c v:=fun x c e v ⟨o,ho,hd⟩=>by
    have nch:c ∉ ch:=fun z=>(hch c z).2.2.1 x c e rfl
    by_cases hc:c∈X.fs
    · obtain ⟨sl,q⟩:=slot c o (I.cne x c e) hc nch ho (I.freeC x c e)
      exact ⟨_,q,hd⟩
    · exact ⟨o,keep c o (I.cne x c e) hc nch ho (I.freeC x c e),hd⟩
  refine ⟨I.ok,I.os,hg,⟨fun b o e n hb hx=>?_,fun b o e n hb hx=>?_,fun b o e n hx=>?_,fun b o e hx=>?_,fun b xs e=>tups b xs (I.base.tups b xs e),fun b o xs e=>frzs b o xs (I.base.frzs b o xs e),fun b ps e=>?_⟩,?_,fun x c e=>?_,?_,fun x c e=>?_,fun p hp=>?_,hok,I.len⟩
  · exact keep b o (neL b o e) hb (neC b o e hx) (I.base.keep b o e n hb hx) (I.base.free b o e n hx)
  · obtain ⟨sl,e1⟩:=I.base.slot b o e n hb hx
    obtain ⟨sl',e2⟩:=slot b _ (neL b o e) hb (neC b o e hx) e1 (I.base.free b o e n hx)
    exact ⟨sl',e2⟩
  · obtain ⟨o',e1⟩:=I.base.there b o e hx
    exact free b o' (neC b o e hx) e1 (I.base.free b o e n hx)
  · obtain ⟨o',e1⟩:=I.base.there b o e hx
    exact there b o' (neC b o e hx) e1
  · obtain ⟨m1,e1⟩:=I.base.tbls b ps e
    obtain ⟨m2,e2⟩:=tbls b _ e1
    exact ⟨m1++m2,by rw [e2,Array.append_assoc]⟩
  · obtain ⟨m,hn,hl⟩:=I.loc
    refine ⟨m,ns m hn,fun i x v e1 e2 e3=>?_⟩
    obtain ⟨u,r,l⟩:=hl i x v e1 e2 e3
    refine ⟨u,r,?_⟩
    rcases l with l | ⟨k,c,e,z⟩
    · exact .inl l
    · exact .inr ⟨k,c,e,cellK x c e _ z⟩
  · obtain ⟨v,z⟩:=I.cell x c e
    exact ⟨v,cellK x c e v z⟩
  · obtain ⟨m,⟨o,_,_,ho,_⟩,_⟩:=I.loc
    exact free _ o (fun z=>(hch _ z).2.1 rfl) ho I.free
  · obtain ⟨v,o,ho,hd⟩:=I.cell x c e
    exact free c o (fun z=>(hch c z).2.2.1 x c e rfl) ho (I.freeC x c e)
  · obtain ⟨e,n,ne,nf,d⟩:=I.pin p hp
    have nch:p.1 ∉ ch:=fun z=>(hch p.1 z).2.2.2 p hp rfl
    exact ⟨keep p.1 p.2 ne nf nch e n,free p.1 p.2 nch e n,ne,nf,d⟩
theorem Inv.un {t':Nat} (I:Inv X pins σ H s) (u:Un X.fs [] H H' s.heap h') (hok:HOk X.prog X.w H' h'):Inv X pins σ H' {s with heap:=h',toks:=t' }:=by
  obtain ⟨m,⟨o,es,ep,ho,r⟩,_⟩:=id I.loc
  obtain ⟨sl,hL⟩:=u.any ho I.free (by simp)
  exact I.step (g':=s.gens) (d':=s.drawn) (ch:=[]) (fun _ z=>nomatch z) (fun b o _ hb _ e n=>u.keep b o e n hb (by simp)) (fun b o _ hb _ e n=>u.slot b o e n hb (by simp)) (fun b o _ e n=>u.free b o e n (by simp)) (fun b o _ e=>u.there b o e (by simp)) u.tups u.frzs u.tbls (fun m' hm=>by
    obtain ⟨o',es',ep',ho',r'⟩:=hm
    rw [ho] at ho';cases ho'
    exact ⟨_,es',ep',hL,r'⟩) hok I.bare
theorem Inv.call {g':Array GenState} {t':Nat} {d':Drawn} {ch:List Addr} (I:Inv X pins σ H s) (u:Un (frs X.stack) ch H H' s.heap h') (hok:HOk X.prog X.w H' h') (hg:AllBare g')
    (hch:∀ b∈ch,(b∈X.ex∨X.s₀.heap.objs.size≤b)∧b≠X.env.locals∧(∀ x c,X.env.cells.lookup x=some c→c≠b)∧∀ p∈X.pn++pins,p.1≠b) :
    Inv X pins σ H' {s with heap:=h',gens:=g',drawn:=d',toks:=t' }:=by
  obtain ⟨m,⟨o,es,ep,ho,r⟩,_⟩:=id I.loc
  obtain ⟨sl,hL⟩:=u.any ho I.free fun z=>(hch _ z).2.1 rfl
  exact I.step (ch:=ch) hch (fun b o hL hb hc e n=>u.keep b o e n (fun z=>(List.mem_cons.mp (I.stkSub b z)).elim hL hb) hc) (fun b o _ _ hc e n=>u.any e n hc) (fun b o hc e n=>u.free b o e n hc) (fun b o hc e=>u.there b o e hc) u.tups u.frzs u.tbls (fun m' hm=>by
    obtain ⟨o',es',ep',ho',r'⟩:=hm
    rw [ho] at ho';cases ho'
    exact ⟨_,es',ep',hL,r'⟩) hok hg
theorem Inv.turned {t':Nat} {it:Addr} (I:Inv X pins σ H s) (k:∀ b o,b≠it→s.heap.get? b=some o→h'.get? b=some o) (hn:H it=none) (hL:it≠X.env.locals)
    (h1:it∈X.ex∨X.s₀.heap.objs.size≤it) (h2:∀ x c,X.env.cells.lookup x=some c→c≠it) (h3:∀ p∈X.pn++pins,p.1≠it):Inv X pins σ H {s with heap:=h',toks:=t' }:=by
  have nit:∀ b u,H b=some u→b≠it:=fun b u e z=>by rw [z,hn] at e;cases e
  refine I.step (g':=s.gens) (d':=s.drawn) (ch:=[it]) (fun b hb=>?_) (fun b o _ _ hc e _=>k b o (fun z=>hc (by simp [z])) e) (fun b o _ _ hc e _=>⟨o.slots,k b o (fun z=>hc (by simp [z])) e⟩) (fun _ _ _ _ n=>n)
    (fun b o hc e=>⟨o,k b o (fun z=>hc (by simp [z])) e⟩) (fun _ _ e=>e) (fun _ _ _ e=>e) (fun b ps e=>⟨#[],by rw [e];simp⟩) (fun m hm=>?_) (fun b u e=>?_) I.bare
  · have e:b=it:=by simpa using hb
    subst e
    exact ⟨h1,hL,h2,h3⟩
  · obtain ⟨o,es,ep,ho,r⟩:=hm
    exact ⟨o,es,ep,k _ o (Ne.symm hL) ho,r⟩
  · refine (I.hok b u e).stay (fun c v hc q=>k c v ?_ q) (fun _ q=>q) fun _ _ q=>q
    rcases hc with z | z
    · rw [z];exact nit b u e
    · exact nit c _ z
theorem Inv.tok (I:Inv X pins σ H s) (t:Nat):Inv X pins σ H {s with toks:=t}:=I.un (h':=s.heap) (t':=t) Un.refl I.hok
theorem Inv.kept {t':Nat} (I:Inv X pins σ H s) (k:∀ b u,s.heap.get? b=some u→h'.get? b=some u):Inv X pins σ H {s with heap:=h',toks:=t' }:=I.un (Un.kept k) (I.hok.kept k)
theorem Inv.laid {a:Addr} {o:HO} {t':Nat} (I:Inv X pins σ H s) (k:∀ b u,s.heap.get? b=some u→h'.get? b=some u) (hp:s.heap.objs.size≤a) (new:ObjOk X.prog X.w (upd H a o) h' a o) :
    Inv X pins σ (upd H a o) {s with heap:=h',toks:=t' }:=I.un (Un.laid k hp (I.hok.fresh hp)) (I.hok.laid k hp new)
theorem Inv.write {x e:Addr} {o:HO} {t':Nat} (I:Inv X pins σ H s) (mu:Mut (H x)) (he:e=x∨H e=some (.own x)) (k:∀ b u,b≠e→s.heap.get? b=some u→h'.get? b=some u) (heo:∃ u,h'.get? e=some u)
    (new:ObjOk X.prog X.w (upd H x o) h' x o):Inv X pins σ (upd H x o) {s with heap:=h',toks:=t' }:=I.un (Un.write mu he k heo) (I.hok.write mu he k heo new)
theorem Inv.pins_of {pins':List (Addr×Obj)} (I:Inv X pins σ H s) (h:∀ p∈pins',s.heap.get? p.1=some p.2∧H p.1=none∧p.1≠X.env.locals∧p.1 ∉ X.fs∧∀ v,p.2.data≠.cell v):Inv X pins' σ H s :=
  ⟨I.ok,I.os,I.bare,I.base,I.loc,I.cell,I.free,I.freeC,fun p hp=>(List.mem_append.mp hp).elim (fun z=>I.pin p (List.mem_append_left _ z)) (h p),I.hok,I.len⟩
theorem nodup_ix {N:List Str} (hN:N.Nodup) {i j:Nat} {x:Str} (a:N[i]?=some x) (b:N[j]?=some x):i=j:=by
  obtain ⟨h1,e1⟩:=List.getElem?_eq_some_iff.mp a
  obtain ⟨h2,e2⟩:=List.getElem?_eq_some_iff.mp b
  exact (List.getElem_inj hN).mp (e1.trans e2.symm)
theorem store_ok2 {M:Model} {A:Around} {E:Value→Shared→Prop} {i:Nat} {x:Str} {v:V} {u:Value} {Q:Unit→Shared→Prop} (I:Inv X pins σ H s) (hN:X.N.Nodup) (hi:X.N[i]?=some x) (hx:Loc X.env.scope x) (r:RelV v u)
    (h:∀ s',Inv X pins (σ.set i (some v)) H s'→(∃ a,Heap.SameBut a s.heap s'.heap∧(a=X.env.locals∨X.env.cells.lookup x=some a))→Q () s') (hf:X.fn x=true∨X.env.scope.names.lookup x=some .local:=by first | exact .inl rfl | exact .inr rfl | assumption):wpAny M A (storeName X.env x u) Q E s:=by
  obtain ⟨m,hn,hl⟩:=id I.loc
  have hcls:(X.env.scope.kind == .class || (X.env.scope.kind == .module && X.env.locals != X.env.globals))=false:=by rw [I.ok.kind];rfl
  have hiσ:i < σ.length:=by rw [I.len];exact (List.getElem?_eq_some_iff.mp hi).1
  have cne:=I.cne
  have tracked:∀{a:Addr} {h':Heap},(∃ o,s.heap.get? a=some o∧H a=none)→Heap.SameBut a s.heap h'→HOk X.prog X.w H h':=fun {a h'} ha hs b ob e=>by
    obtain ⟨_,_,hfree⟩:=ha
    refine (I.hok b ob e).stay (fun c w' hc q=>(hs.2 c ?_).trans q) (fun _ q=>q) fun _ _ q=>q
    rintro rfl
    rcases hc with rfl | hc
    · rw [hfree] at e;cases e
    · rw [hfree] at hc;cases hc
  rcases hx with hk | hk
  · refine wpAny_storeName_local hk hn (fun h' hn' hs=>?_) hcls
    obtain ⟨oL,_,_,hoL,_⟩:=id hn
    refine h _ ⟨I.ok,I.os,I.bare,⟨fun b o e n hb hx=>?_,fun b o e n hb hx=>?_,I.base.free,fun b o e hx=>?_,I.base.tups,I.base.frzs,I.base.tbls⟩,⟨_,hn',fun j y v' e1 e2 e3=>?_⟩,fun y c e=>?_,I.free,I.freeC,fun p hp=>?_,tracked ⟨oL,hoL,I.free⟩ hs,by simpa using I.len⟩ ⟨_,hs,.inl rfl⟩
    · exact (hs.2 b (Nat.ne_of_lt (Nat.lt_of_lt_of_le (Heap.lt_size e) I.ok.above))).trans (I.base.keep b o e n hb hx)
    · obtain ⟨sl,e1⟩:=I.base.slot b o e n hb hx
      exact ⟨sl,(hs.2 b (Nat.ne_of_lt (Nat.lt_of_lt_of_le (Heap.lt_size e) I.ok.above))).trans e1⟩
    · obtain ⟨o',e1⟩:=I.base.there b o e hx
      exact ⟨o',(hs.2 b (Nat.ne_of_lt (Nat.lt_of_lt_of_le (Heap.lt_size e) I.ok.above))).trans e1⟩
    · by_cases hj:j=i
      · subst hj
        rw [hi] at e1;cases e1
        rw [List.getElem?_set_self hiσ] at e2
        cases e2
        exact ⟨u,r,.inl ⟨hk,by simp⟩⟩
      · rw [List.getElem?_set_ne (Ne.symm hj)] at e2
        obtain ⟨u',r',q⟩:=hl j y v' e1 e2 e3
        refine ⟨u',r',?_⟩
        rcases q with ⟨k,e⟩ | ⟨k,c,e,z⟩
        · refine .inl ⟨k,?_⟩
          have:y≠x:=fun e=>hj (nodup_ix hN e1 (e ▸ hi))
          simp [this,e]
        · exact .inr ⟨k,c,e,z.sameBut hs (cne y c e)⟩
    · obtain ⟨w',z⟩:=I.cell y c e
      exact ⟨w',z.sameBut hs (cne y c e)⟩
    · obtain ⟨e,n,ne,nf,d⟩:=I.pin p hp
      exact ⟨(hs.2 p.1 ne).trans e,n,ne,nf,d⟩
  · have hfn:X.fn x=true:=by
      rcases hf with z | z
      · exact z
      · rw [z] at hk;cases hk
    obtain ⟨c,hc⟩:=I.ok.has x (.inl hk)
    obtain ⟨w',z⟩:=I.cell x c hc
    refine wpAny_storeName_cell I.ok.kind hk hc z (fun h' hc' hs=>?_)
    obtain ⟨oc,hoc,hocd⟩:=id z
    refine h {s with heap:=h' } ⟨I.ok,I.os,I.bare,⟨fun b o e n hb hx=>?_,fun b o e n hb hx=>?_,I.base.free,fun b o e hx=>?_,I.base.tups,I.base.frzs,I.base.tbls⟩,⟨m,hn.sameBut hs (Ne.symm (cne x c hc)),fun j y v' e1 e2 e3=>?_⟩,fun y c' e=>?_,I.free,I.freeC,fun p hp=>?_,tracked ⟨oc,hoc,I.freeC x c hc⟩ hs,by simpa using I.len⟩ ⟨c,hs,.inr hc⟩
    · exact (hs.2 b (Nat.ne_of_lt (Nat.lt_of_lt_of_le (Heap.lt_size e) (I.ok.cab x c hfn hc)))).trans (I.base.keep b o e n hb hx)
    · obtain ⟨sl,e1⟩:=I.base.slot b o e n hb hx
      exact ⟨sl,(hs.2 b (Nat.ne_of_lt (Nat.lt_of_lt_of_le (Heap.lt_size e) (I.ok.cab x c hfn hc)))).trans e1⟩
    · obtain ⟨o',e1⟩:=I.base.there b o e hx
      exact ⟨o',(hs.2 b (Nat.ne_of_lt (Nat.lt_of_lt_of_le (Heap.lt_size e) (I.ok.cab x c hfn hc)))).trans e1⟩
    · by_cases hj:j=i
      · subst hj
        rw [hi] at e1;cases e1
        rw [List.getElem?_set_self hiσ] at e2
        cases e2
        exact ⟨u,r,.inr ⟨.inl hk,c,hc,hc'⟩⟩
      · rw [List.getElem?_set_ne (Ne.symm hj)] at e2
        obtain ⟨u',r',q⟩:=hl j y v' e1 e2 e3
        refine ⟨u',r',?_⟩
        rcases q with q | ⟨k,c',e,z'⟩
        · exact .inl q
        · refine .inr ⟨k,c',e,z'.sameBut hs ?_⟩
          rintro rfl
          exact hj (nodup_ix hN e1 (I.ok.inj _ _ _ e hc ▸ hi))
    · by_cases hcc:c'=c
      · subst hcc;exact ⟨_,hc'⟩
      · obtain ⟨w2,z2⟩:=I.cell y c' e
        exact ⟨w2,z2.sameBut hs hcc⟩
    · obtain ⟨e,n,ne,nf,d⟩:=I.pin p hp
      refine ⟨(hs.2 p.1 ?_).trans e,n,ne,nf,d⟩
      intro q
      rw [q,hoc] at e
      have q':oc=p.2:=Option.some.inj e
      exact d w' (by rw [← q'];exact hocd)
theorem store_ok {M:Model} {A:Around} {E:Value→Shared→Prop} {i:Nat} {x:Str} {v:V} {u:Value} {Q:Unit→Shared→Prop} (I:Inv X pins σ H s) (hN:X.N.Nodup) (hi:X.N[i]?=some x) (hx:Loc X.env.scope x) (r:RelV v u)
    (h:∀ s',Inv X pins (σ.set i (some v)) H s'→Q () s') (hf:X.fn x=true∨X.env.scope.names.lookup x=some .local:=by first | exact .inl rfl | exact .inr rfl | assumption):wpAny M A (storeName X.env x u) Q E s :=
  store_ok2 I hN hi hx r (fun s' I' _=>h s' I') hf
theorem Inv.call' {s':Shared} {ch:List Addr} (I:Inv X pins σ H s) (ho:s'.os=s.os) (u:Un (frs X.stack) ch H H' s.heap s'.heap) (hok:HOk X.prog X.w H' s'.heap) (hg:AllBare s'.gens)
    (hch:∀ b∈ch,(b∈X.ex∨X.s₀.heap.objs.size≤b)∧b≠X.env.locals∧(∀ x c,X.env.cells.lookup x=some c→c≠b)∧∀ p∈X.pn++pins,p.1≠b):Inv X pins σ H' s':=by
  obtain ⟨h',g',d',t',o'⟩:=s'
  have e:o'=s.os:=ho
  subst e
  exact I.call (g':=g') (t':=t') (d':=d') u hok hg hch
end
noncomputable abbrev XK:=Value→Option Addr→Hp→Prop
noncomputable abbrev St:=List (Option V)
noncomputable abbrev VK:=V→Hp→Prop
noncomputable abbrev TE:=St→Hp→VK→Prop
noncomputable abbrev TT:=St→Hp→(Bool→Hp→Prop)→Prop
noncomputable abbrev TA:=St→Hp→(List V→Hp→Prop)→Prop
structure Ends where
  nx:St→Hp→Prop
  rt:VK
  bk:St→Hp→Prop:=fun _ _=>False
  ct:St→Hp→Prop:=fun _ _=>False
noncomputable abbrev TS:=Ends→St→Hp→Prop
noncomputable def EP (X:Cx) (pins:List (Addr×Obj)) (σ:St) (Q:VK) (u:Value) (s':Shared):Prop:=∃ v H',Inv X pins σ H' s'∧RelV v u∧Q v H'
noncomputable def TP (X:Cx) (pins:List (Addr×Obj)) (σ:St) (Q:Bool→Hp→Prop) (b:Bool) (s':Shared):Prop:=∃ H',Inv X pins σ H' s'∧Q b H'
noncomputable def AP (X:Cx) (pins:List (Addr×Obj)) (σ:St) (Q:List V→Hp→Prop) (us:List Value) (s':Shared):Prop:=∃ vs H',Inv X pins σ H' s'∧Vals vs us∧Q vs H'
noncomputable def SP (X:Cx) (pins:List (Addr×Obj)) (D:Ends) (f:Flow) (s':Shared):Prop :=
  match f with
  | .next=>∃ σ' H',Inv X pins σ' H' s'∧D.nx σ' H'
  | .brk=>∃ σ' H',Inv X pins σ' H' s'∧D.bk σ' H'
  | .cont=>∃ σ' H',Inv X pins σ' H' s'∧D.ct σ' H'
  | .ret u=>∃ v σ' H',Inv X pins σ' H' s'∧RelV v u∧D.rt v H'
noncomputable def PE (X:Cx) (e:Expr) (t:TE):Prop :=
  ∀(pins:List (Addr×Obj)) (s:Shared) (σ:St) (H:Hp) (Q:VK),Inv X pins σ H s→t σ H Q→wpAny (model X.prog X.w) X.A (eval e X.env) (EP X pins σ Q) X.xe s
noncomputable def PT (X:Cx) (e:Expr) (t:TT):Prop :=
  ∀(pins:List (Addr×Obj)) (s:Shared) (σ:St) (H:Hp) (Q:Bool→Hp→Prop),Inv X pins σ H s→t σ H Q→wpAny (model X.prog X.w) X.A (isTrue e X.env (eval e X.env)) (TP X pins σ Q) X.xe s
noncomputable def PW (X:Cx) (e:Expr) (t:TT):Prop :=
  ∀(whole:Sem Value) (pins:List (Addr×Obj)) (s:Shared) (σ:St) (H:Hp) (Q:Bool→Hp→Prop),Inv X pins σ H s→t σ H Q→wpAny (model X.prog X.w) X.A (isTrue e X.env whole) (TP X pins σ Q) X.xe s
theorem PW.pt {X:Cx} {e:Expr} {t:TT} (h:PW X e t):PT X e t:=h _
noncomputable def PA (X:Cx) (es:List Expr) (t:TA):Prop :=
  ∀(pos:Pos) (pins:List (Addr×Obj)) (s:Shared) (σ:St) (H:Hp) (Q:List V→Hp→Prop),Inv X pins σ H s→t σ H Q→wpAny (model X.prog X.w) X.A (spliced (backTo pos (starEach es X.env))) (AP X pins σ Q) X.xe s
noncomputable def PS (X:Cx) (st:Stmt) (t:TS):Prop :=
  ∀(pins:List (Addr×Obj)) (s:Shared) (σ:St) (H:Hp) (D:Ends),Inv X pins σ H s→t D σ H→wpAny (model X.prog X.w) X.A (exec st X.env) (SP X pins D) X.xe s
noncomputable def PSs (X:Cx) (st:List Stmt) (t:TS):Prop :=
  ∀(pins:List (Addr×Obj)) (s:Shared) (σ:St) (H:Hp) (D:Ends),Inv X pins σ H s→t D σ H→wpAny (model X.prog X.w) X.A (execs st X.env) (SP X pins D) X.xe s
theorem thn {α:Type} {t:Sem α} {Q Q':α→Shared→Prop} {M:Model} {A:Around} {E:Value→Shared→Prop} {s:Shared} (h:wpAny M A t Q E s) (hQ:∀ a s,Q a s→Q' a s):wpAny M A t Q' E s:=wpAny_mono h hQ fun _ _ x=>x
end L2
namespace L2
open PySem PySem.Spec PyProof.Rows
section
variable {X:Cx}
theorem bin {a b:Expr} {ta tb:TE} (ha:PE X a ta) (hb:PE X b tb) {pins:List (Addr×Obj)} {s:Shared} {σ:St} {H:Hp} {R:V→V→Hp→Prop} (I:Inv X pins σ H s) (h:ta σ H fun x H1=>tb σ H1 fun y H2=>R x y H2)
    {α:Type} {Q:α→Shared→Prop} {f:Value→Value→Sem α}
    (hf:∀ v u s2 x y H2,Inv X pins σ H2 s2→RelV x v→RelV y u→R x y H2→wpAny (model X.prog X.w) X.A (f v u) Q X.xe s2) :
    wpAny (model X.prog X.w) X.A (eval a X.env) (fun v s₁=>wpAny (model X.prog X.w) X.A (eval b X.env) (fun u s₂=>wpAny (model X.prog X.w) X.A (f v u) Q X.xe s₂) X.xe s₁) X.xe s:=by
  refine thn (ha pins s σ H _ I h) fun v s1 zz=>?_
  obtain ⟨x,H1,I1,r1,q1⟩:=zz
  refine thn (hb pins s1 σ H1 _ I1 q1) fun u s2 zz=>?_
  obtain ⟨y,H2,I2,r2,q2⟩:=zz
  exact hf v u s2 x y H2 I2 r1 r2 q2
noncomputable def tVar (i:Nat):TE:=fun σ H Q=>∃ v,σ[i]?=some (some v)∧Q v H
noncomputable def tC (v:V):TE:=fun _ H Q=>Q v H
theorem pe_var {i:Nat} {x:Str} {pos:Pos} (hN:X.N[i]?=some x) (hv:Vis X.env.scope x) (hd:(x == ("__debug__":Str))=false:=by decide) (hcd:(x == ("__classdict__":Str))=false:=by decide):PE X (.Name x pos) (tVar i):=by
  intro pins s σ H Q I h
  obtain ⟨v,e,h⟩:=h
  obtain ⟨m,hn,hl⟩:=I.loc
  obtain ⟨u,r,l⟩:=hl i x v hN e hv
  have fin:EP X pins σ Q u s:=⟨v,H,I,r,h⟩
  rcases l with ⟨hk,hm⟩ | ⟨hk,c,hc,hcell⟩
  · exact wpAny_Name (wpAny_loadName_local I.ok.kind hk hn hm fin) hd
  · rcases hk with hk | hk
    · exact wpAny_Name (wpAny_loadName_cell I.ok.kind hk hc hcell fin) hd
    · exact wpAny_Name (wpAny_loadName_free I.ok.kind hk hc hcell fin hcd) hd
theorem pe_int {i j pos}:PE X (.Constant (.int i) j pos) (tC (.int i)):=fun _ _ _ H _ I h=>wpAny_Constant_int ⟨.int i,H,I.tok _,⟨_,rfl⟩,h⟩
theorem pe_bl {b j pos}:PE X (.Constant (.bool b) j pos) (tC (.bl b)):=fun _ _ _ H _ I h=>Constant_bool ⟨.bl b,H,I,rfl,h⟩
theorem pe_non {j pos}:PE X (.Constant .none j pos) (tC .non):=fun _ _ _ H _ I h=>Constant_none ⟨.non,H,I,rfl,h⟩
theorem pe_str {x j pos}:PE X (.Constant (.str x) j pos) (tC (.str x)):=fun _ _ _ H _ I h=>Calls.Constant_str ⟨.str x,H,I.tok _,⟨_,rfl⟩,h⟩
noncomputable def Gl (X:Cx) (x:Str):Prop:=X.env.kindOf x=some .globalImplicit
theorem ld_glob {E:Value→Shared→Prop} {pins:List (Addr×Obj)} {s:Shared} {σ:St} {H:Hp} {x:Str} {u:Value} {pos:Pos} {Q:Value→Shared→Prop} (I:Inv X pins σ H s) (hg:Gl X x) (hm:X.mg x=some u) (h:Q u s)
    (hd:(x == ("__debug__":Str))=false:=by decide):wpAny (model X.prog X.w) X.A (eval (.Name x pos) X.env) Q E s :=
  Calls.Name_function_global I.ok.kind hg (Calls.loadGlobal_global (by rw [I.ok.glob];exact I.mod.glob.keeps I.bk) hm h) hd
theorem ld_blt {E:Value→Shared→Prop} {pins:List (Addr×Obj)} {s:Shared} {σ:St} {H:Hp} {x:Str} {u:Value} {pos:Pos} {Q:Value→Shared→Prop} (I:Inv X pins σ H s) (hg:Gl X x) (hm:X.mg x=none) (hv:bootBuiltins x=some u) (h:Q u s)
    (hn:x≠"__name__":=by decide) (hd:(x == ("__debug__":Str))=false:=by decide):wpAny (model X.prog X.w) X.A (eval (.Name x pos) X.env) Q E s:=by
  obtain ⟨mb,h1,h2⟩:=I.mod.blt
  exact Calls.Name_function_global I.ok.kind hg (Calls.loadGlobal_builtin (by rw [I.ok.glob];exact I.mod.glob.keeps I.bk) hm (by rw [I.ok.blt];exact h1.keeps I.bk) ((h2 x hn).trans hv) h) hd
theorem pe_glob {x:Str} {v:V} {u:Value} {pos:Pos} (hg:Gl X x) (hm:X.mg x=some u) (r:RelV v u) (hd:(x == ("__debug__":Str))=false:=by decide):PE X (.Name x pos) (tC v) :=
  fun _ _ _ H _ I h=>ld_glob I hg hm ⟨v,H,I,r,h⟩ hd
theorem pe_bltn {x:Str} {v:V} {u:Value} {pos:Pos} (hg:Gl X x) (hm:X.mg x=none) (hv:bootBuiltins x=some u) (r:RelV v u) (hn:x≠"__name__":=by decide) (hd:(x == ("__debug__":Str))=false:=by decide):PE X (.Name x pos) (tC v) :=
  fun _ _ _ H _ I h=>ld_blt I hg hm hv ⟨v,H,I,r,h⟩ hn hd
variable {a b:Expr} {ta tb:TE} {pos:Pos}
noncomputable def PC (X:Cx) (op:CmpOp) (a b:Expr) (t:TE):Prop :=
  ∀(pins:List (Addr×Obj)) (s:Shared) (σ:St) (H:Hp) (Q:VK),Inv X pins σ H s→t σ H Q→
    wpAny (model X.prog X.w) X.A (eval a X.env) (fun v s₁=>wpAny (model X.prog X.w) X.A (eval b X.env) (fun u s₂=>wpAny (model X.prog X.w) X.A (compareOp op v u) (EP X pins σ Q) X.xe s₂) X.xe s₁) X.xe s
noncomputable def tB (t:TE):TT:=fun σ H Q=>t σ H fun x H1=>∃ c,x=.bl c∧Q c H1
theorem pt_cmp {op:CmpOp} {t:TE} (h:PC X op a b t) (h1:behindInMarks op b=false:=by first | exact nobehind _ (by decide) (by decide) | rfl):PT X (.Compare a [op] [b] pos) (tB t):=by
  intro pins s σ H Q I hw
  refine wpAny_isTrue_Compare1 (thn (h pins s σ H _ I hw) fun v s1 h1=>thn h1 fun u s2 h2=>thn h2 fun c s3 zz=>?_) h1
  obtain ⟨x,H1,I1,r1,q1⟩:=zz
  obtain ⟨d,rfl,q⟩:=q1
  cases r1
  exact wpAny_truthy_bool ⟨H1,I1,q⟩
theorem pt_val {e:Expr} {t:TE} (h:PE X e t) (he:∀ whole,isTrue e X.env whole=(do let v ← whole;standAt e.pos;holding [v] (truthy v)):=by intro _;rfl):PT X e (tB t):=by
  intro pins s σ H Q I hw
  refine isTrue_plain (thn (h pins s σ H _ I hw) fun v s1 zz=>?_) (he _)
  obtain ⟨x,H1,I1,r1,q1⟩:=zz
  obtain ⟨d,rfl,q⟩:=q1
  cases r1
  exact wpAny_truthy_bool ⟨H1,I1,q⟩
variable {tA tB':TT} {rest:List Expr}
noncomputable def tAnd (t u:TT):TT:=fun σ H Q=>t σ H fun c H1=>if c=true then u σ H1 Q else Q false H1
noncomputable def tOr (t u:TT):TT:=fun σ H Q=>t σ H fun c H1=>if c=true then Q true H1 else u σ H1 Q
noncomputable def tNot (t:TT):TT:=fun σ H Q=>t σ H fun c H1=>Q (!c) H1
theorem pw_and1 (ha:PT X a tA):PW X (.BoolOp .And [a] pos) tA:=by
  intro wh pins s σ H Q I h
  refine isTrue_and (thn (ha pins s σ H Q I h) fun c s1 e=>?_)
  cases c with
  | true=>exact isTrue_and_nil e
  | false=>exact e
theorem pw_or1 (ha:PT X a tA):PW X (.BoolOp .Or [a] pos) tA:=by
  intro wh pins s σ H Q I h
  refine isTrue_or (thn (ha pins s σ H Q I h) fun c s1 e=>?_)
  cases c with
  | false=>exact isTrue_or_nil e
  | true=>exact e
theorem pw_and (ha:PT X a tA) (hb:PW X (.BoolOp .And (b::rest) pos) tB'):PW X (.BoolOp .And (a::b::rest) pos) (tAnd tA tB'):=by
  intro wh pins s σ H Q I h
  refine isTrue_and (thn (ha pins s σ H _ I h) fun c s1 zz=>?_)
  obtain ⟨H1,I1,q1⟩:=zz
  cases c with
  | true=>exact hb wh pins s1 σ H1 Q I1 q1
  | false=>exact ⟨H1,I1,q1⟩
theorem pw_or (ha:PT X a tA) (hb:PW X (.BoolOp .Or (b::rest) pos) tB'):PW X (.BoolOp .Or (a::b::rest) pos) (tOr tA tB'):=by
  intro wh pins s σ H Q I h
  refine isTrue_or (thn (ha pins s σ H _ I h) fun c s1 zz=>?_)
  obtain ⟨H1,I1,q1⟩:=zz
  cases c with
  | true=>exact ⟨H1,I1,q1⟩
  | false=>exact hb wh pins s1 σ H1 Q I1 q1
theorem pt_not (ha:PT X a tA):PT X (.UnaryOp .Not a pos) (tNot tA):=by
  intro pins s σ H Q I h
  exact isTrue_not (ha pins s σ H (fun c H1=>Q (!c) H1) I h)
noncomputable def tAndV (ta tb:TE):TE:=fun σ H Q=>ta σ H fun x H1=>∃ c,x=.bl c∧if c=true then tb σ H1 Q else Q (.bl false) H1
noncomputable def tOrV (ta tb:TE):TE:=fun σ H Q=>ta σ H fun x H1=>∃ c,x=.bl c∧if c=true then Q (.bl true) H1 else tb σ H1 Q
noncomputable def tNotV (ta:TE):TE:=fun σ H Q=>ta σ H fun x H1=>∃ c,x=.bl c∧Q (.bl (!c)) H1
theorem pe_one {op} {t:TE} (h:PE X a t):PE X (.BoolOp op [a] pos) t:=fun pins s σ H Q I hw=>BoolOp_one (h pins s σ H Q I hw)
theorem pe_and (ha:PE X a ta) (hb:PE X (.BoolOp .And (b::rest) pos) tb):PE X (.BoolOp .And (a::b::rest) pos) (tAndV ta tb):=by
  intro pins s σ H Q I h
  refine BoolOp_and (thn (ha pins s σ H _ I h) fun v s1 zz=>?_)
  obtain ⟨x,H1,I1,r1,q1⟩:=zz
  obtain ⟨c,rfl,q1⟩:=q1
  cases r1
  refine wpAny_truthy_bool ?_
  cases c with
  | true=>exact hb pins s1 σ H1 Q I1 q1
  | false=>exact ⟨.bl false,H1,I1,rfl,q1⟩
theorem pe_or (ha:PE X a ta) (hb:PE X (.BoolOp .Or (b::rest) pos) tb):PE X (.BoolOp .Or (a::b::rest) pos) (tOrV ta tb):=by
  intro pins s σ H Q I h
  refine BoolOp_or (thn (ha pins s σ H _ I h) fun v s1 zz=>?_)
  obtain ⟨x,H1,I1,r1,q1⟩:=zz
  obtain ⟨c,rfl,q1⟩:=q1
  cases r1
  refine wpAny_truthy_bool ?_
  cases c with
  | false=>exact hb pins s1 σ H1 Q I1 q1
  | true=>exact ⟨.bl true,H1,I1,rfl,q1⟩
theorem pe_not (ha:PE X a ta):PE X (.UnaryOp .Not a pos) (tNotV ta):=by
  intro pins s σ H Q I h
  refine UnaryOp_ (thn (ha pins s σ H _ I h) fun v s1 zz=>?_)
  obtain ⟨x,H1,I1,r1,q1⟩:=zz
  obtain ⟨c,rfl,q1⟩:=q1
  cases r1
  exact not_of (wpAny_truthy_bool ⟨.bl (!c),H1,I1,rfl,q1⟩)
noncomputable def tIf (t:TT) (ta tb:TE):TE:=fun σ H Q=>t σ H fun c H1=>if c=true then ta σ H1 Q else tb σ H1 Q
theorem pe_ifExp {c:Expr} (hc:PT X c tA) (ha:PE X a ta) (hb:PE X b tb):PE X (.IfExp c a b pos) (tIf tA ta tb):=by
  intro pins s σ H Q I h
  refine wpAny_IfExp (thn (hc pins s σ H _ I h) fun d s1 zz=>?_)
  obtain ⟨H1,I1,q1⟩:=zz
  cases d with
  | true=>exact ha pins s1 σ H1 Q I1 q1
  | false=>exact hb pins s1 σ H1 Q I1 q1
end
end L2
namespace L2
open PySem PySem.Spec PyProof.Rows
noncomputable def SqL (K:PySem.W.Frag) (H:Hp) (a:Addr) (xs:List V):Prop :=
  Rd H a (.lst xs)∨
    ∃(o:Obj) (its:Array Value) (n:Nat),K.lookup a=some o∧o.cls=.type "list"∧o.dict=none∧o.data=.seq its n∧its.size≤sizeLine∧Vals xs its.toList
noncomputable def SqT (K:PySem.W.Frag) (H:Hp) (a:Addr) (xs:List V):Prop :=
  Rd H a (.tup xs)∨
    ∃(o:Obj) (its:Array Value) (n:Nat),K.lookup a=some o∧o.cls=.type "tuple"∧o.data=.seq its n∧its.size≤sizeLine∧Vals xs its.toList
noncomputable def absV:Value→Option V
  | .none=>some .non
  | .bool b=>some (.bl b)
  | .int i _=>some (.int i)
  | .str x _=>some (.str x)
  | .bytes b _=>some (.byt b)
  | .float b _=>some (.flt b)
  | .ref a=>some (.ref a)
  | .type n=>some (.ty n)
  | _=>none
theorem RelV.abs {x:V} {u:Value} (r:RelV x u):absV u=some x:=by
  cases x with
  | non=>cases r;rfl
  | bl _=>cases r;rfl
  | int _=>obtain ⟨t,rfl⟩:=r;rfl
  | str _=>obtain ⟨t,rfl⟩:=r;rfl
  | byt _=>obtain ⟨t,rfl⟩:=r;rfl
  | flt _=>obtain ⟨t,rfl⟩:=r;rfl
  | ref _=>cases r;rfl
  | ty _=>cases r;rfl
theorem RelV.inj {x y:V} {u:Value} (r:RelV x u) (q:RelV y u):x=y:=Option.some.inj (r.abs.symm.trans q.abs)
theorem Vals.inj:∀{xs ys:List V} {us:List Value},Vals xs us→Vals ys us→xs=ys
  | _,_,_,.nil,.nil=>rfl
  | _,_,_,.cons r t,.cons r' t'=>by rw [r.inj r',Vals.inj t t']
section
variable {X:Cx} {pins:List (Addr×Obj)} {σ:St} {H:Hp} {s:Shared} {a:Addr} {xs ys:List V}
theorem SqL.of {K:PySem.W.Frag} (h:H a=some (.lst xs)):SqL K H a xs:=.inl (.inl h)
theorem SqT.of {K:PySem.W.Frag} (h:H a=some (.tup xs)):SqT K H a xs:=.inl (.inl h)
theorem Inv.list (I:Inv X pins σ H s) (h:SqL X.K H a xs):∃ its:List Value,Vals xs its∧PlainL s.heap a its.toArray∧xs.length≤sizeLine:=by
  rcases h with h | ⟨o,its,n,hk,hc,hd,hs,hz,r⟩
  · obtain ⟨z,its,n,r,e⟩:=h.ok I.hok
    exact ⟨its,r,⟨_,n,e,rfl,rfl,rfl⟩,z⟩
  · refine ⟨its.toList,r,⟨o,n,I.kIn a o hk,hc,hd,by simpa using hs⟩,?_⟩
    have e:=r.length
    simp only [Array.length_toList] at e
    omega
theorem Inv.tuple (I:Inv X pins σ H s) (h:SqT X.K H a xs):∃ its:List Value,Vals xs its∧IsTup s.heap a its.toArray∧xs.length≤sizeLine:=by
  rcases h with h | ⟨o,its,n,hk,hc,hs,hz,r⟩
  · obtain ⟨z,its,r,p⟩:=h.ok I.hok
    exact ⟨its,r,p,z⟩
  · refine ⟨its.toList,r,⟨o,I.kIn a o hk,hc,n,by simpa using hs⟩,?_⟩
    have e:=r.length
    simp only [Array.length_toList] at e
    omega
theorem Inv.list_inj (I:Inv X pins σ H s) (h:SqL X.K H a xs) (h':SqL X.K H a ys):xs=ys:=by
  obtain ⟨its,r,⟨o,n,e,_,_,d⟩,_⟩:=I.list h
  obtain ⟨its',r',⟨o',n',e',_,_,d'⟩,_⟩:=I.list h'
  rw [e] at e';cases e'
  rw [d] at d'
  injection d' with d1 _
  have:its=its':=by simpa using congrArg Array.toList d1
  subst this
  exact r.inj r'
theorem Inv.tuple_inj (I:Inv X pins σ H s) (h:SqT X.K H a xs) (h':SqT X.K H a ys):xs=ys:=by
  obtain ⟨its,r,⟨o,e,_,n,d⟩,_⟩:=I.tuple h
  obtain ⟨its',r',⟨o',e',_,n',d'⟩,_⟩:=I.tuple h'
  rw [e] at e';cases e'
  rw [d] at d'
  injection d' with d1 _
  have:its=its':=by simpa using congrArg Array.toList d1
  subst this
  exact r.inj r'
end
noncomputable abbrev Cx.wish (X:Cx) (E:Value→Shared→Prop):Cx:={X with xe:=E}
noncomputable abbrev Cx.nox (X:Cx):Cx:=X.wish fun _ _=>False
theorem Cx.Ok.wish {X:Cx} (ok:X.Ok) (E:Value→Shared→Prop):(X.wish E).Ok :=
  ⟨ok.mod,ok.kind,ok.glob,ok.blt,ok.above,ok.inj,ok.has,ok.cab,ok.hd,ok.frames,ok.stk,ok.exf,ok.bs,ok.bsz,ok.noex,ok.exfs,ok.funs,ok.frf⟩
theorem Cx.Ok.unwish {X:Cx} {E:Value→Shared→Prop} (ok:(X.wish E).Ok):X.Ok :=
  ⟨ok.mod,ok.kind,ok.glob,ok.blt,ok.above,ok.inj,ok.has,ok.cab,ok.hd,ok.frames,ok.stk,ok.exf,ok.bs,ok.bsz,ok.noex,ok.exfs,ok.funs,ok.frf⟩
section
variable {X:Cx} {pins:List (Addr×Obj)} {σ:St} {H:Hp} {s:Shared} {E:Value→Shared→Prop}
theorem Inv.wish (I:Inv X pins σ H s) (E:Value→Shared→Prop):Inv (X.wish E) pins σ H s:=⟨I.ok.wish E,I.os,I.bare,I.base,I.loc,I.cell,I.free,I.freeC,I.pin,I.hok,I.len⟩
theorem Inv.unwish (I:Inv (X.wish E) pins σ H s):Inv X pins σ H s:=⟨I.ok.unwish,I.os,I.bare,I.base,I.loc,I.cell,I.free,I.freeC,I.pin,I.hok,I.len⟩
theorem SP.unwish {D:Ends} {f:Flow} {s':Shared} (h:SP (X.wish E) pins D f s'):SP X pins D f s':=by
  cases f with
  | next=>obtain ⟨σ',H',I,q⟩:=h;exact ⟨σ',H',I.unwish,q⟩
  | brk=>obtain ⟨σ',H',I,q⟩:=h;exact ⟨σ',H',I.unwish,q⟩
  | cont=>obtain ⟨σ',H',I,q⟩:=h;exact ⟨σ',H',I.unwish,q⟩
  | ret u=>obtain ⟨v,σ',H',I,r,q⟩:=h;exact ⟨v,σ',H',I.unwish,r,q⟩
theorem PSs.nox {st:List Stmt} {t:TS} (h:PSs X.nox st t):PSs X st t:=fun pins s σ H D I hw =>
  wpAny_mono (h pins s σ H D (I.wish _) hw) (fun _ _ q=>q.unwish) fun _ _ z=>False.elim z
end
section
variable {X:Cx} {st:Stmt} {rest:List Stmt} {t u:TS} {e:Expr} {te:TE} {pos:Pos}
noncomputable def tNext:TS:=fun D σ H=>D.nx σ H
noncomputable def tSeq (t u:TS):TS:=fun D σ H=>t {D with nx:=u D} σ H
theorem pss_nil:PSs X [] tNext:=fun _ _ σ H _ I h=>wpAny_execs_nil ⟨σ,H,I,h⟩
theorem pss_cons (h1:PS X st t) (h2:PSs X rest u):PSs X (st::rest) (tSeq t u):=by
  intro pins s σ H D I h
  refine wpAny_execs_cons (thn (h1 pins s σ H {D with nx:=u D} I h) fun f s1 q=>?_)
  cases f with
  | next =>
    obtain ⟨σ',H',I',q⟩:=q
    exact h2 pins s1 σ' H' D I' q
  | ret v=>exact q
  | brk=>exact q
  | cont=>exact q
theorem pss_one (h1:PS X st t):PSs X [st] t:=by
  intro pins s σ H D I h
  refine wpAny_execs_cons (thn (h1 pins s σ H D I h) fun f s1 q=>?_)
  cases f with
  | next=>exact wpAny_execs_nil q
  | ret v=>exact q
  | brk=>exact q
  | cont=>exact q
theorem Inv.quiet {pins:List (Addr×Obj)} {σ:St} {H:Hp} {s:Shared} (I:Inv X pins σ H s):interactive X.env=false:=by simp [interactive,I.ok.kind]
noncomputable def tDrop (te:TE):TS:=fun D σ H=>te σ H fun _ H1=>D.nx σ H1
theorem ps_expr (he:PE X e te) (hs:swapsWith e none pos.line X.env=pure false:=by rfl):PS X (.Expr e pos) (tDrop te):=by
  intro pins s σ H D I h
  refine wpAny_Expr_any (thn (he pins s σ H _ I h) fun v s1 zz=>?_) I.quiet hs
  obtain ⟨x,H1,I1,r1,q1⟩:=zz
  exact ⟨σ,H1,I1,q1⟩
noncomputable def tRet (te:TE):TS:=fun D σ H=>te σ H D.rt
theorem ps_ret (he:PE X e te):PS X (.Return (some e) pos) (tRet te):=by
  intro pins s σ H D I h
  refine wpAny_Return_some (thn (he pins s σ H _ I h) fun v s1 zz=>?_)
  obtain ⟨x,H1,I1,r1,q1⟩:=zz
  exact ⟨x,σ,H1,I1,r1,q1⟩
noncomputable def tIfS (c:TT) (t u:TS):TS:=fun D σ H=>c σ H fun b H1=>if b=true then t D σ H1 else u D σ H1
theorem ps_if {c:Expr} {a b:List Stmt} {tc:TT} (hc:PT X c tc) (ha:PSs X a t) (hb:PSs X b u):PS X (.If c a b pos) (tIfS tc t u):=by
  intro pins s σ H D I h
  refine wpAny_If (thn (hc pins s σ H _ I h) fun d s1 zz=>?_)
  obtain ⟨H1,I1,q1⟩:=zz
  cases d with
  | true=>exact ha pins s1 σ H1 D I1 q1
  | false=>exact hb pins s1 σ H1 D I1 q1
noncomputable def tNever:TS:=fun _ _ _=>False
theorem ps_never:PS X st tNever:=fun _ _ _ _ _ _ h=>h.elim
end
noncomputable abbrev TG:=V→St→Hp→(St→Hp→Prop)→Prop
noncomputable abbrev TGs:=List V→St→Hp→(St→Hp→Prop)→Prop
noncomputable def PG (X:Cx) (target:Expr) (t:TG):Prop :=
  ∀(pins:List (Addr×Obj)) (s:Shared) (σ:St) (H:Hp) (v:V) (u:Value) (Q:St→Hp→Prop),Inv X pins σ H s→RelV v u→t v σ H Q→
    wpAny (model X.prog X.w) X.A (assign target X.env u) (fun _ s'=>∃ σ' H',Inv X pins σ' H' s'∧Q σ' H') X.xe s
noncomputable def PGs (X:Cx) (ts:List Expr) (t:TGs):Prop :=
  ∀(pins:List (Addr×Obj)) (s:Shared) (σ:St) (H:Hp) (vs:List V) (us:List Value) (Q:St→Hp→Prop),Inv X pins σ H s→Vals vs us→t vs σ H Q→
    wpAny (model X.prog X.w) X.A (assignInOrder ((assignEach ts X.env).map (·.2)) us) (fun _ s'=>∃ σ' H',Inv X pins σ' H' s'∧Q σ' H') X.xe s
noncomputable abbrev TSet:=V→V→V→Hp→(Hp→Prop)→Prop
noncomputable def PSet (X:Cx) (t:TSet):Prop :=
  ∀(pins:List (Addr×Obj)) (s:Shared) (σ:St) (H:Hp) (o i v:V) (ov iv u:Value) (Q:Hp→Prop),Inv X pins σ H s→RelV o ov→RelV i iv→RelV v u→t o i v H Q→
    wpAny (model X.prog X.w) X.A (setItem ov iv u) (fun _ s'=>∃ H',Inv X pins σ H' s'∧Q H') X.xe s
noncomputable abbrev TIp:=V→V→Hp→VK→Prop
noncomputable def PIp (X:Cx) (op:Operator) (t:TIp):Prop :=
  ∀(pins:List (Addr×Obj)) (s:Shared) (σ:St) (H:Hp) (x y:V) (v u:Value) (Q:VK),Inv X pins σ H s→RelV x v→RelV y u→t x y H Q→
    wpAny (model X.prog X.w) X.A (inplaceOp op v u) (EP X pins σ Q) X.xe s
section
variable {X:Cx} {pos:Pos}
noncomputable def gName (i:Nat):TG:=fun v σ H Q=>Q (σ.set i (some v)) H
theorem pg_name {i:Nat} {x:Str} (hN:X.N.Nodup) (hi:X.N[i]?=some x) (hx:Loc X.env.scope x) (hf:X.fn x=true∨X.env.scope.names.lookup x=some .local:=by first | exact .inl rfl | exact .inr rfl | assumption):PG X (.Name x pos) (gName i):=by
  intro pins s σ H v u Q I r h
  exact wpAny_assign_Name (store_ok I hN hi hx r (fun s' I'=>⟨_,H,I',h⟩) hf)
noncomputable def gNil:TGs:=fun vs σ H Q=>vs=[]∧Q σ H
noncomputable def gCons (t:TG) (u:TGs):TGs:=fun vs σ H Q=>∃ v r,vs=v::r∧t v σ H fun σ' H'=>u r σ' H' Q
theorem pgs_nil:PGs X [] gNil:=by
  intro pins s σ H vs us Q I r h
  obtain ⟨e,h⟩:=h
  subst e
  cases r
  exact assignInOrder_nil ⟨σ,H,I,h⟩
theorem pgs_cons {e:Expr} {es:List Expr} {t:TG} {u:TGs} (h1:PG X e t) (h2:PGs X es u)
    (hs:(assignEach (e::es) X.env).map (·.2)=assign e X.env::(assignEach es X.env).map (·.2):=by rfl):PGs X (e::es) (gCons t u):=by
  intro pins s σ H vs us Q I r h
  obtain ⟨v,vr,e1,h⟩:=h
  subst e1
  cases r with
  | cons r rr =>
    rw [hs]
    refine assignInOrder_cons (thn (h1 pins s σ H _ _ _ I r h) fun _ s1 zz=>?_)
    obtain ⟨σ1,H1,I1,q1⟩:=zz
    exact h2 pins s1 σ1 H1 _ _ Q I1 rr q1
noncomputable def gTup (K:PySem.W.Frag) (n:Nat) (t:TGs):TG:=fun v σ H Q=>∃ a xs,v=.ref a∧SqT K H a xs∧xs.length=n∧t xs σ H Q
theorem pg_tup {es:List Expr} {k:Nat} {t:TGs} {n:Nat} (hc:X.calm=true) (h:PGs X es t)
    (hn:(assignEach es X.env).length=n:=by rfl) (hst:(assignEach es X.env).findIdx? (·.1)=none:=by rfl):PG X (.Tuple es k pos) (gTup X.K n t):=by
  intro pins s σ H v u Q I r hw
  obtain ⟨a,xs,e1,hq,hl,hw⟩:=hw
  subst e1
  cases r
  obtain ⟨its,rv,ht,hz⟩:=I.tuple hq
  refine assign_Tuple_tuple (I.ok.hd hc) ht (by simp [hn,← hl,rv.length]) hst fun h' hx=>?_
  have I1:Inv X pins σ H {s with heap:=h' }:=I.kept (t':=s.toks) fun b o e=>hx b o (Nat.ne_of_lt (Heap.lt_size e)) e
  exact h pins _ σ H xs _ Q I1 (by simpa using rv) hw
noncomputable def gSub (to ti:TE) (t:TSet):TG:=fun v σ H Q=>to σ H fun o H1=>ti σ H1 fun i H2=>t o i v H2 fun H3=>Q σ H3
theorem pg_sub {o i:Expr} {to ti:TE} {t:TSet} (ho:PE X o to) (hi:PE X i ti) (hs:PSet X t)
    (ha:∀ v,assign (.Subscript o i pos) X.env v=(do
      let ov ← holding [v] (eval o X.env)
      let iv ← holding [v,ov] (eval i X.env)
      standAt pos
      holding [v,ov,iv] (setItem ov iv v)
      release [v,ov,iv] []):=by intro _;rfl):PG X (.Subscript o i pos) (gSub to ti t):=by
  intro pins s σ H v u Q I r h
  rw [ha]
  refine wpAny_bind (wpAny_holding (thn (ho pins s σ H _ I h) fun ov s1 zz=>?_))
  obtain ⟨x,H1,I1,r1,q1⟩:=zz
  refine wpAny_bind (wpAny_holding (thn (hi pins s1 σ H1 _ I1 q1) fun iv s2 zz=>?_))
  obtain ⟨y,H2,I2,r2,q2⟩:=zz
  refine wpAny_bind (wpAny_standAt (wpAny_bind (wpAny_holding (thn (hs pins s2 σ H2 x y v ov iv u _ I2 r1 r2 r q2) fun _ s3 zz=>?_))))
  obtain ⟨H3,I3,q3⟩:=zz
  exact wpAny_release ⟨σ,H3,I3,q3⟩
noncomputable def tAsg (te:TE) (g:TG):TS:=fun D σ H=>te σ H fun x H1=>g x σ H1 D.nx
theorem ps_asg {tg e:Expr} {te:TE} {g:TG} (he:PE X e te) (hg:PG X tg g) (hs:swapsWithSole [tg] e pos.line X.env=pure false:=by rfl) (hw:swappedStores [tg] e X.env=pure none:=by rfl)
    (h1:(assignEach [tg] X.env).map (·.2)=[assign tg X.env]:=by rfl):PS X (.Assign [tg] e pos) (tAsg te g):=by
  intro pins s σ H D I h
  refine wpAny_Assign_stores (thn (he pins s σ H _ I h) fun v s1 zz=>?_) hs hw
  obtain ⟨x,H1,I1,r1,q1⟩:=zz
  rw [h1]
  exact thn (hg pins s1 σ H1 x v _ I1 r1 q1) fun _ s2 q=>q
theorem ps_set {i:Nat} {x:Str} {e:Expr} {te:TE} {pos':Pos} (hN:X.N.Nodup) (hi:X.N[i]?=some x) (hx:Loc X.env.scope x) (he:PE X e te) (hs:swapsWith e (some (.Name x pos')) pos.line X.env=pure false:=by rfl) (hf:X.fn x=true∨X.env.scope.names.lookup x=some .local:=by first | exact .inl rfl | exact .inr rfl | assumption) :
    PS X (.Assign [.Name x pos'] e pos) (tAsg te (gName i)):=by
  intro pins s σ H D I h
  refine wpAny_Assign_Name (thn (he pins s σ H _ I h) fun v s1 zz=>?_) hs
  obtain ⟨y,H1,I1,r1,q1⟩:=zz
  exact store_ok I1 hN hi hx r1 (fun s2 I2=>⟨_,H1,I2,q1⟩) hf
noncomputable def tPar (i j:Nat) (ta:TA):TS:=fun D σ H=>ta σ H fun vs H1=>∃ v w,vs=[v,w]∧D.nx ((σ.set i (some v)).set j (some w)) H1
theorem ps_par {i j:Nat} {x y:Str} {a b:Expr} {ta:TA} {px py pt:Pos} {kt k2 pt2} (hc:X.calm=true) (hN:X.N.Nodup) (hi:X.N[i]?=some x) (hj:X.N[j]?=some y) (hij:i≠j)
    (hx:X.env.scope.names.lookup x=some .local) (hy:X.env.scope.names.lookup y=some .local) (ha:PA X [a,b] ta)
    (hw:swappedStores [.Tuple [.Name x px,.Name y py] kt pt] (.Tuple [a,b] k2 pt2) X.env=pure (some [x,y]))
    (hs:swapsWithSole [.Tuple [.Name x px,.Name y py] kt pt] (.Tuple [a,b] k2 pt2) pos.line X.env=pure false:=by rfl) :
    PS X (.Assign [.Tuple [.Name x px,.Name y py] kt pt] (.Tuple [a,b] k2 pt2) pos) (tPar i j ta):=by
  intro pins s σ H D I h
  rw [exec_Assign_arm]
  refine wpAny_bind (wpAny_standAt ?_)
  rw [hs]
  refine wpAny_bind (wpAny_pure ?_)
  rw [if_neg (by decide)]
  refine wpAny_bind (Tuple_ (thn (ha _ pins s σ H _ I h) fun us s1 zz=>?_))
  obtain ⟨vs,H1,I1,r1,q1⟩:=zz
  obtain ⟨v,w,e1,q1⟩:=q1
  subst e1
  obtain ⟨u1,u2,rfl,rv,rw'⟩:∃ u1 u2,us=[u1,u2]∧RelV v u1∧RelV w u2:=by
    cases r1 with
    | cons p q =>
      cases q with
      | cons p' q' =>
        cases q'
        exact ⟨_,_,rfl,p,p'⟩
  refine wpAny_newObj_type ?_ (by show 2≤sizeLine;decide)
  have I2:Inv X pins σ H1 {s1 with heap:=s1.heap.push {cls:=.type "tuple",data:=.seq [u1,u2].toArray} }:=I1.kept (t':=s1.toks) fun b o e=>Heap.get?_push_of_some _ e
  rw [hw]
  refine wpAny_bind (wpAny_pure ?_)
  show wpAny (model X.prog X.w) X.A (do rule "assign.swapped-stores";let items ← unpackItems (.ref s1.heap.objs.size) 2 none;assignInOrder [fun v=>bindName X.env y v,fun v=>bindName X.env x v] items.reverse;pure Flow.next) _ _ _
  refine wpAny_bind (wpAny_rule (wpAny_bind (unpackItems_tuple (items:=#[u1,u2]) (I.ok.hd hc) (IsTup.new s1.heap _) fun h' hx'=>?_)))
  have I3:=I2.kept (h':=h') (t':=s1.toks) fun b o e=>hx' b o (Nat.ne_of_lt (Heap.lt_size e)) e
  show wpAny _ _ (assignInOrder [fun v=>bindName X.env y v,fun v=>bindName X.env x v] [u2,u1] >>= fun _=>pure Flow.next) _ _ _
  refine wpAny_bind (assignInOrder_cons (wpAny_bindName (store_ok I3 hN hj (.inl hy) rw' (fun s2 I4=>?_) (.inr hy))))
  refine assignInOrder_cons (wpAny_bindName (store_ok I4 hN hi (.inl hx) rv (fun s3 I5=>assignInOrder_nil (wpAny_pure ?_)) (.inr hx)))
  rw [List.set_comm _ _ (Ne.symm hij)] at I5
  exact ⟨_,H1,I5,q1⟩
noncomputable def tAug (i:Nat) (te:TE) (ti:TIp):TS:=fun D σ H=>∃ x,σ[i]?=some (some x)∧te σ H fun y H1=>ti x y H1 fun z H2=>D.nx (σ.set i (some z)) H2
theorem ps_aug {i:Nat} {x:Str} {e:Expr} {te:TE} {op:Operator} {ti:TIp} {pos':Pos} (hN:X.N.Nodup) (hi:X.N[i]?=some x) (hx:Loc X.env.scope x) (he:PE X e te) (ho:PIp X op ti) (hf:X.fn x=true∨X.env.scope.names.lookup x=some .local:=by first | exact .inl rfl | exact .inr rfl | assumption) :
    PS X (.AugAssign (.Name x pos') op e pos) (tAug i te ti):=by
  intro pins s σ H D I h
  obtain ⟨v,e1,h⟩:=h
  obtain ⟨m,hn,hl⟩:=I.loc
  have vis:Vis X.env.scope x:=by rcases hx with k | k;exact .inl k;exact .inr (.inl k)
  obtain ⟨u,r,l⟩:=hl i x v hi e1 vis
  refine wpAny_AugAssign_Name ?_
  have go:wpAny (model X.prog X.w) X.A (eval e X.env) (fun w s₂=>wpAny (model X.prog X.w) X.A (inplaceOp op u w) (fun r s₃=>wpAny (model X.prog X.w) X.A (storeName X.env x r) (fun _=>SP X pins D .next) X.xe s₃) X.xe s₂) X.xe s:=by
    refine thn (he pins s σ H _ I h) fun w s1 zz=>?_
    obtain ⟨y,H1,I1,r1,q1⟩:=zz
    refine thn (ho pins s1 σ H1 v y u w _ I1 r r1 q1) fun z s2 zz=>?_
    obtain ⟨zv,H2,I2,r2,q2⟩:=zz
    exact store_ok I2 hN hi hx r2 (fun s3 I3=>⟨_,H2,I3,q2⟩) hf
  rcases l with ⟨hk,hm⟩ | ⟨hk,c,hc,hcell⟩
  · exact wpAny_loadName_local I.ok.kind hk hn hm go
  · rcases hk with hk | hk
    · exact wpAny_loadName_cell I.ok.kind hk hc hcell go
    · rcases hx with k | k
      · have:X.env.scope.names.lookup x=some .free:=hk
        rw [k] at this;cases this
      · have:X.env.scope.names.lookup x=some .free:=hk
        rw [k] at this;cases this
noncomputable def ipI (f:Int→Int→Int):TIp:=fun x y H Q=>∃ i j,x=.int i∧y=.int j∧Q (.int (f i j)) H
theorem ip_add:PIp X .Add (ipI fun i j=>i+j):=by
  intro pins s σ H x y v u Q I r1 r2 h
  obtain ⟨i,j,e1,e2,q⟩:=h
  subst e1;subst e2
  obtain ⟨t,rfl⟩:=r1
  obtain ⟨t',rfl⟩:=r2
  exact iadd_int ⟨.int _,H,I.tok _,⟨_,rfl⟩,q⟩
end
section
variable {X:Cx} {pos:Pos}
noncomputable def tWhile (c:TT) (tb:TS):TS:=fun D σ H=>∃ W:Nat→St→Hp→Prop,(∃ m,W m σ H)∧∀ m σ H,W m σ H→
  c σ H fun b H1=>if b=true then ∃ N:St→Hp→Prop,(∀ σ' H',N σ' H'→∃ m',m' < m∧W m' σ' H')∧tb {D with nx:=N,ct:=N,bk:=D.nx} σ H1 else D.nx σ H1
theorem ps_while {c:Expr} {body:List Stmt} {tc:TT} {tb:TS} (hp:PassesOwn (model X.prog X.w) X.A X.env X.xe) (hc:PT X c tc) (hb:PSs X body tb):PS X (.While c body [] pos) (tWhile tc tb):=by
  intro pins s σ H D I h
  obtain ⟨W,⟨m0,w0⟩,turn⟩:=h
  refine wpAny_While (codeAny_whileLoop (fun n s'=>∃ σ' H',Inv X pins σ' H' s'∧W n σ' H') ?_ m0 ⟨σ,H,I,w0⟩)
  rintro n s1 ⟨σ1,H1,I1,w1⟩
  refine wpAny_passesOwn hp (thn (hc pins s1 σ1 H1 _ I1 (turn n σ1 H1 w1)) fun b s2 zz=>?_)
  obtain ⟨H2,I2,q2⟩:=zz
  cases b with
  | true =>
    obtain ⟨N,hN,q2⟩:=q2
    rw [if_pos rfl]
    refine wpAny_passesOwn hp (thn (hb pins s2 σ1 H2 _ I2 q2) fun f s3 q3=>?_)
    cases f with
    | next =>
      obtain ⟨σ3,H3,I3,n3⟩:=q3
      obtain ⟨m',hm,w3⟩:=hN σ3 H3 n3
      exact ⟨m',hm,σ3,H3,I3,w3⟩
    | cont =>
      obtain ⟨σ3,H3,I3,n3⟩:=q3
      obtain ⟨m',hm,w3⟩:=hN σ3 H3 n3
      exact ⟨m',hm,σ3,H3,I3,w3⟩
    | brk=>exact q3
    | ret v=>exact q3
  | false =>
    rw [if_neg Bool.false_ne_true]
    exact wpAny_execs_nil ⟨σ1,H2,I2,q2⟩
end
structure It where
  go:Nat→Hp→Prop
  yld:Nat→Hp→V→Hp→Prop
  stop:Nat→Hp→Prop
noncomputable def FpOk (X:Cx) (pins:List (Addr×Obj)) (H:Hp) (b:Addr):Prop :=
  H b=none∧b≠X.env.locals∧b ∉ X.fs∧(b∈X.ex∨X.s₀.heap.objs.size≤b)∧(∀ x c,X.env.cells.lookup x=some c→c≠b)∧∀ p∈X.pn++pins,p.1≠b
theorem Inv.fpOk {X:Cx} {pins:List (Addr×Obj)} {σ:St} {H H':Hp} {s:Shared} {b:Addr} (I:Inv X pins σ H s) (hb:s.heap.objs.size≤b) (hn:H' b=none):FpOk X pins H' b:=by
  refine ⟨hn,Nat.ne_of_gt (Nat.lt_of_lt_of_le I.lt hb),I.nofs hb,.inr (Nat.le_trans I.sz hb),fun x c e z=>?_,fun p hp z=>?_⟩
  · obtain ⟨v,q⟩:=I.cell x c e
    exact absurd (Nat.lt_of_lt_of_le q.lt (by rw [z];exact hb)) (Nat.lt_irrefl _)
  · exact absurd (Nat.lt_of_lt_of_le (Heap.lt_size (I.pin p hp).1) (by rw [z];exact hb)) (Nat.lt_irrefl _)
structure Turn (P:Program) (w:World) (K:PySem.W.Frag) (tg:Expr) (J:It) (fp:List Addr) (it:Addr) (tn:Nat→Heap→Prop):Prop where
  mem:it∈fp
  obj:∀ i h,tn i h→∀ b∈fp,∃ o,h.get? b=some o∧∀ v,o.data≠.cell v
  keep:∀ i h h',tn i h→(∀ b∈fp,∀ o,h.get? b=some o→h'.get? b=some o)→tn i h'
  item:∀(X:Cx),X.prog=P→X.w=w→X.K=K→X.calm=true→∀(i:Nat) (pins:List (Addr×Obj)) (s:Shared) (σ:St) (H:Hp) (E:Value→Shared→Prop),Inv X pins σ H s→(∀ b∈fp,FpOk X pins H b)→tn i s.heap→J.go i H→
    wpAny (model P w) X.A (pyNext (.ref it)) (fun r s1=>∃ u,r=some u∧
      wpAny (model P w) X.A (letOwnedTupleGo tg (.ref it) u) (fun _ s2=>∃ x H',Inv X pins σ H' s2∧RelV x u∧J.yld i H x H'∧tn (i+1) s2.heap∧∀ b∈fp,H' b=none) E s1) E s
  done:∀(X:Cx),X.prog=P→X.w=w→X.K=K→X.calm=true→∀(i:Nat) (pins:List (Addr×Obj)) (s:Shared) (σ:St) (H:Hp) (E:Value→Shared→Prop),Inv X pins σ H s→(∀ b∈fp,FpOk X pins H b)→tn i s.heap→J.stop i H→
    wpAny (model P w) X.A (pyNext (.ref it)) (fun r s1=>r=none∧Inv X pins σ H s1) E s
  self:∀(A:Around) (i:Nat) (s:Shared) (Q:Value→Shared→Prop) (E:Value→Shared→Prop),tn i s.heap→Q (.ref it) s→wpAny (model P w) A (pyIter (.ref it)) Q E s
noncomputable abbrev TI:=St→Hp→(It→Hp→Prop)→Prop
noncomputable def PIE (X:Cx) (pins:List (Addr×Obj)) (σ:St) (tg:Expr) (R:It→Hp→Prop) (itv:Value) (s2:Shared):Prop :=
  ∃(it:Addr) (fp:List Addr) (tn:Nat→Heap→Prop) (J:It) (H':Hp),itv=.ref it∧Inv X pins σ H' s2∧Turn X.prog X.w X.K tg J fp it tn∧tn 0 s2.heap∧(∀ b∈fp,FpOk X pins H' b)∧R J H'
noncomputable def PI (X:Cx) (tg iter:Expr) (wi:TI):Prop :=
  ∀(pins:List (Addr×Obj)) (s:Shared) (σ:St) (H:Hp) (R:It→Hp→Prop),Inv X pins σ H s→wi σ H R→
    wpAny (model X.prog X.w) X.A (eval iter X.env) (fun v s1=>wpAny (model X.prog X.w) X.A (pyIter v) (PIE X pins σ tg R) X.xe s1) X.xe s
theorem go_of {M:Model} {A:Around} {E:Value→Shared→Prop} {s:Shared} {tg:Expr} {it:Addr} {u:Value} {o:Obj} {n:String} {vs:Array Value} {Q:Unit→Shared→Prop} (ho:s.heap.get? it=some o) (hc:o.cls=.type n) (hd:o.data=.fields vs)
    (hn:["enumerate","zip","dict_itemiterator","dict_reverseitemiterator","odict_iterator","itertools.zip_longest","itertools.pairwise"].contains n=false) (hQ:Q () s):wpAny M A (letOwnedTupleGo tg (.ref it) u) Q E s:=by
  unfold letOwnedTupleGo
  cases tg <;> first
    | exact wpAny_pure hQ
    | (cases u <;> first
        | exact wpAny_pure hQ
        | (refine wpAny_bind (wpAny_load ho ?_)
           rw [hc,hd]
           show wpAny M A (if (["enumerate","zip","dict_itemiterator","dict_reverseitemiterator","odict_iterator","itertools.zip_longest","itertools.pairwise"].contains n && vs[0]? == some (rawInt _))=true then _ else _) Q E s
           rw [if_neg (by intro h;rw [hn,Bool.false_and] at h;cases h)]
           exact wpAny_pure hQ))
noncomputable def Itl (K:PySem.W.Frag) (a:Addr):It :=
  ⟨fun i H=>∃ xs x,SqL K H a xs∧xs[i]?=some x,fun i H x H'=>H'=H∧∀ xs,SqL K H a xs→xs[i]?=some x,fun i H=>∃ xs,SqL K H a xs∧xs.length≤i⟩
noncomputable def Itt (K:PySem.W.Frag) (a:Addr):It :=
  ⟨fun i H=>∃ xs x,SqT K H a xs∧xs[i]?=some x,fun i H x H'=>H'=H∧∀ xs,SqT K H a xs→xs[i]?=some x,fun i H=>∃ xs,SqT K H a xs∧xs.length≤i⟩
noncomputable def Itr (lo:Int) (n:Nat):It:=⟨fun i _=>i < n,fun i H x H'=>H'=H∧x=.int (lo+i),fun i _=>n≤i⟩
theorem turn_list {P:Program} {w:World} {K:PySem.W.Frag} {tg:Expr} (a it:Addr):Turn P w K tg (Itl K a) [it] it (fun i h=>h.IsListIter it a i) where
  mem:=by simp
  obj:=fun i h st b hb=>by
    have e:b=it:=by simpa using hb
    subst e
    obtain ⟨o,e,c,d⟩:=st
    exact ⟨o,e,fun v z=>by rw [d] at z;cases z⟩
  keep:=fun i h h' st k=>st.at fun o e=>k it (by simp) o e
  item:=by
    intro X hP hw hK hc i pins s σ H E I hf st hg
    subst hP hw hK
    obtain ⟨xs,x,hq,hx⟩:=hg
    obtain ⟨its,rv,p,hz⟩:=I.list hq
    obtain ⟨u,hu,ru⟩:=rv.get hx
    obtain ⟨f0,f1,f2,f3,f4,f5⟩:=hf it (by simp)
    refine wpAny_pyNext_list_item st p.isList (x:=u) (by simpa using hu) fun h' st' sb=>?_
    have I1:Inv X pins σ H {s with heap:=h' }:=I.turned (t':=s.toks) (fun b o hb e=>(sb.2 b hb).trans e) f0 f1 f3 f4 f5
    obtain ⟨o,e,c,d⟩:=id st'
    exact ⟨u,rfl,go_of (s:={s with heap:=h' }) e c d (by decide) ⟨x,H,I1,ru,⟨rfl,fun ys hy=>by rw [I.list_inj hy hq];exact hx⟩,st',fun b hb=>(hf b hb).1⟩⟩
  done:=by
    intro X hP hw hK hc i pins s σ H E I hf st hg
    subst hP hw hK
    obtain ⟨xs,hq,hx⟩:=hg
    obtain ⟨its,rv,p,hz⟩:=I.list hq
    obtain ⟨f0,f1,f2,f3,f4,f5⟩:=hf it (by simp)
    have hl:=rv.length
    exact wpAny_pyNext_list_end (I.ok.hd hc) st p.isList (by simp;omega) fun h' eb=>⟨rfl,I.turned (t':=s.toks) (fun b o hb e=>eb b o hb e) f0 f1 f3 f4 f5⟩
  self:=fun _ _ _ _ _ st h=>wpAny_pyIter_listiter st h
theorem turn_tuple {P:Program} {w:World} {K:PySem.W.Frag} {tg:Expr} (a it:Addr):Turn P w K tg (Itt K a) [it] it (fun i h=>h.IsTupleIter it a i) where
  mem:=by simp
  obj:=fun i h st b hb=>by
    have e:b=it:=by simpa using hb
    subst e
    obtain ⟨o,e,c,d⟩:=st
    exact ⟨o,e,fun v z=>by rw [d] at z;cases z⟩
  keep:=fun i h h' st k=>st.at fun o e=>k it (by simp) o e
  item:=by
    intro X hP hw hK hc i pins s σ H E I hf st hg
    subst hP hw hK
    obtain ⟨xs,x,hq,hx⟩:=hg
    obtain ⟨its,rv,p,hz⟩:=I.tuple hq
    obtain ⟨u,hu,ru⟩:=rv.get hx
    obtain ⟨f0,f1,f2,f3,f4,f5⟩:=hf it (by simp)
    refine wpAny_pyNext_tuple_item st (show s.heap.IsTuple a its.toArray from p) (x:=u) (by simpa using hu) fun h' st' sb=>?_
    have I1:Inv X pins σ H {s with heap:=h' }:=I.turned (t':=s.toks) (fun b o hb e=>(sb.2 b hb).trans e) f0 f1 f3 f4 f5
    obtain ⟨o,e,c,d⟩:=id st'
    exact ⟨u,rfl,go_of (s:={s with heap:=h' }) e c d (by decide) ⟨x,H,I1,ru,⟨rfl,fun ys hy=>by rw [I.tuple_inj hy hq];exact hx⟩,st',fun b hb=>(hf b hb).1⟩⟩
  done:=by
    intro X hP hw hK hc i pins s σ H E I hf st hg
    subst hP hw hK
    obtain ⟨xs,hq,hx⟩:=hg
    obtain ⟨its,rv,p,hz⟩:=I.tuple hq
    obtain ⟨f0,f1,f2,f3,f4,f5⟩:=hf it (by simp)
    have hl:=rv.length
    exact wpAny_pyNext_tuple_end (I.ok.hd hc) st (show s.heap.IsTuple a its.toArray from p) (by simp;omega) fun h' eb=>⟨rfl,I.turned (t':=s.toks) (fun b o hb e=>eb b o hb e) f0 f1 f3 f4 f5⟩
  self:=fun _ _ _ _ _ st h=>wpAny_pyIter_tupleiter st h
theorem turn_range {P:Program} {w:World} {K:PySem.W.Frag} {tg:Expr} (it:Addr) (lo:Int) (n:Nat):Turn P w K tg (Itr lo n) [it] it (fun i h=>IsRangeIter h it (lo+(i:Nat)*1) ((n:Int) - (i:Nat)) 1) where
  mem:=by simp
  obj:=fun i h st b hb=>by
    have e:b=it:=by simpa using hb
    subst e
    exact ⟨_,st,fun v z=>by
      have z':Data.fields _=Data.cell v:=z
      cases z'⟩
  keep:=fun i h h' st k=>k it (by simp) _ st
  item:=by
    intro X hP hw hK hc i pins s σ H E I hf st hg
    subst hP hw hK
    obtain ⟨f0,f1,f2,f3,f4,f5⟩:=hf it (by simp)
    have W:=Walks.range (prog:=X.prog) (w:=X.w) (I.ok.hd hc) it lo 1 n
    refine W.item i s _ _ hg st fun v h' tk hv st' kk=>?_
    obtain ⟨t,rfl⟩:=hv
    have I1:Inv X pins σ H {s with heap:=h',toks:=tk}:=I.turned (fun b o hb e=>kk b o (by simpa using hb) e) f0 f1 f3 f4 f5
    refine ⟨_,rfl,go_of (s:={s with heap:=h',toks:=tk}) (n:="range_iterator") st' rfl rfl (by decide) ⟨.int (lo+i),H,I1,⟨t,?_⟩,⟨rfl,rfl⟩,st',fun b hb=>(hf b hb).1⟩⟩
    rw [Int.mul_one]
  done:=by
    intro X hP hw hK hc i pins s σ H E I hf st hg
    subst hP hw hK
    obtain ⟨f0,f1,f2,f3,f4,f5⟩:=hf it (by simp)
    exact wpAny_pyNext_range_end (I.ok.hd hc) st (by have:n≤i:=hg;omega) fun h' eb=>⟨rfl,I.turned (t':=s.toks) (fun b o hb e=>eb b o hb e) f0 f1 f3 f4 f5⟩
  self:=fun _ _ _ _ _ st h=>wpAny_pyIter_rangeiter st h
end L2
namespace L2
open PySem PySem.Spec PyProof.Rows
section
variable {X:Cx} {tg:Expr}
noncomputable def iList (K:PySem.W.Frag) (tl:TE):TI:=fun σ H R=>tl σ H fun x H1=>∃ a,x=.ref a∧(∃ xs,SqL K H1 a xs)∧R (Itl K a) H1
noncomputable def iTup (K:PySem.W.Frag) (tl:TE):TI:=fun σ H R=>tl σ H fun x H1=>∃ a,x=.ref a∧(∃ xs,SqT K H1 a xs)∧R (Itt K a) H1
theorem pi_list {l:Expr} {tl:TE} (hl:PE X l tl):PI X tg l (iList X.K tl):=by
  intro pins s σ H R I h
  refine thn (hl pins s σ H _ I h) fun v s1 zz=>?_
  obtain ⟨x,H1,I1,r1,q1⟩:=zz
  obtain ⟨a,e,⟨xs,hq⟩,q⟩:=q1
  subst e
  cases r1
  obtain ⟨its,rv,p,hz⟩:=I1.list hq
  refine wpAny_pyIter_list p.isList ?_
  refine ⟨s1.heap.objs.size,[s1.heap.objs.size],_,_,H1,rfl,I1.kept (t':=s1.toks) fun b o e=>Heap.get?_push_of_some _ e,turn_list a _,⟨_,Heap.get?_push_size _ rfl,rfl,rfl⟩,fun b hb=>?_,q⟩
  have e:b=s1.heap.objs.size:=by simpa using hb
  subst e
  exact I1.fpOk (Nat.le_refl _) (I1.hok.fresh (Nat.le_refl _))
theorem pi_tup {l:Expr} {tl:TE} (hl:PE X l tl):PI X tg l (iTup X.K tl):=by
  intro pins s σ H R I h
  refine thn (hl pins s σ H _ I h) fun v s1 zz=>?_
  obtain ⟨x,H1,I1,r1,q1⟩:=zz
  obtain ⟨a,e,⟨xs,hq⟩,q⟩:=q1
  subst e
  cases r1
  obtain ⟨its,rv,p,hz⟩:=I1.tuple hq
  refine wpAny_pyIter_tuple (show s1.heap.IsTuple a its.toArray from p) ?_
  refine ⟨s1.heap.objs.size,[s1.heap.objs.size],_,_,H1,rfl,I1.kept (t':=s1.toks) fun b o e=>Heap.get?_push_of_some _ e,turn_tuple a _,⟨_,Heap.get?_push_size _ rfl,rfl,rfl⟩,fun b hb=>?_,q⟩
  have e:b=s1.heap.objs.size:=by simpa using hb
  subst e
  exact I1.fpOk (Nat.le_refl _) (I1.hok.fresh (Nat.le_refl _))
theorem range_it {pins:List (Addr×Obj)} {σ:St} {H:Hp} {s:Shared} {R:It→Hp→Prop} {E:Value→Shared→Prop} {lo hi:Int} {t u v:Tok} {tk:Nat} (I:Inv X pins σ H s) (h1:-(2 ^ 62)≤lo) (h2:lo < 2 ^ 62) (h3:-(2 ^ 62)≤hi) (h4:hi < 2 ^ 62)
    (q:R (Itr lo (hi - lo).toNat) H):wpAny (model X.prog X.w) X.A (pyIter (.ref s.heap.objs.size)) (PIE X pins σ tg R) E {s with heap:=s.heap.push {cls:=.type "range",data:=.fields #[.int lo t,.int hi u,.int 1 v] },toks:=tk}:=by
  refine wpAny_pyIter_range (IsRange.new ..) (small_one h1 h2 h3 h4) ?_
  have I1:Inv X pins σ H {s with heap:=s.heap.push {cls:=.type "range",data:=.fields #[.int lo t,.int hi u,.int 1 v] },toks:=tk}:=I.kept fun b o e=>Heap.get?_push_of_some _ e
  refine ⟨(s.heap.push {cls:=.type "range",data:=.fields #[.int lo t,.int hi u,.int 1 v] }).objs.size,[(s.heap.push {cls:=.type "range",data:=.fields #[.int lo t,.int hi u,.int 1 v] }).objs.size],_,_,H,rfl,
    I1.kept (t':=tk) fun b o e=>Heap.get?_push_of_some _ e,turn_range _ lo (hi - lo).toNat,?_,fun b hb=>?_,q⟩
  · have e1:lo+((0:Nat):Int)*1=lo:=by simp
    have e2:(((hi - lo).toNat:Nat):Int) - ((0:Nat):Int)=Builtin.Range.rangeSize lo hi 1:=by rw [rangeSize_one];split <;> omega
    show IsRangeIter _ _ (lo+((0:Nat):Int)*1) ((((hi - lo).toNat:Nat):Int) - ((0:Nat):Int)) 1
    rw [e1,e2]
    exact Heap.get?_push_size _ rfl
  · have e:b=(s.heap.push {cls:=.type "range",data:=.fields #[.int lo t,.int hi u,.int 1 v] }).objs.size:=by simpa using hb
    subst e
    exact I1.fpOk (Nat.le_refl _) (I1.hok.fresh (Nat.le_refl _))
noncomputable def iRng1 (ta:TA):TI:=fun σ H R=>ta σ H fun vs H1=>∃ j:Int,vs=[.int j]∧-(2 ^ 62)≤j∧j < 2 ^ 62∧R (Itr 0 j.toNat) H1
noncomputable def iRng2 (ta:TA):TI:=fun σ H R=>ta σ H fun vs H1=>∃ i j:Int,vs=[.int i,.int j]∧(-(2 ^ 62)≤i∧i < 2 ^ 62∧-(2 ^ 62)≤j∧j < 2 ^ 62)∧R (Itr i (j - i).toNat) H1
theorem pi_range1 {a:Expr} {ta:TA} {p pos:Pos} (hg:Gl X "range") (hm:X.mg "range"=none) (ha:PA X [a] ta) (hs:starEach [a] X.env=[(false,eval a X.env)]:=by rfl):PI X tg (.Call (.Name "range" p) [a] [] pos) (iRng1 ta):=by
  intro pins s σ H R I h
  refine Call_ (ld_blt I hg hm boot_range (PyProof.Rows.callWith_type1 (thn (ha pos pins s σ H _ I h) fun us s1 zz=>?_) hs rfl))
  obtain ⟨vs,H1,I1,r1,q1⟩:=zz
  obtain ⟨j,e,q1,q2,q⟩:=q1
  subst e
  cases r1 with
  | cons r rr =>
    cases rr
    obtain ⟨t,rfl⟩:=r
    exact call_range_1 (range_it I1 (by omega) (by omega) q1 q2 (by simpa using q))
theorem pi_range2 {a b:Expr} {ta:TA} {p pos:Pos} (hg:Gl X "range") (hm:X.mg "range"=none) (ha:PA X [a,b] ta) (hs:starEach [a,b] X.env=[(false,eval a X.env),(false,eval b X.env)]:=by rfl) (hs2:starEach [b] X.env=[(false,eval b X.env)]:=by rfl) :
    PI X tg (.Call (.Name "range" p) [a,b] [] pos) (iRng2 ta):=by
  intro pins s σ H R I h
  refine Call_ (ld_blt I hg hm boot_range (PyProof.Rows.callWith_type1 (thn (ha pos pins s σ H _ I h) fun us s1 zz=>?_) (by rw [hs,hs2]) (by rw [hs2];rfl)))
  obtain ⟨vs,H1,I1,r1,q1⟩:=zz
  obtain ⟨i,j,e,⟨q1,q2,q3,q4⟩,q⟩:=q1
  subst e
  cases r1 with
  | cons r rr =>
    cases rr with
    | cons r' rr =>
      cases rr
      obtain ⟨t,rfl⟩:=r
      obtain ⟨t',rfl⟩:=r'
      exact call_range_2 (range_it I1 q1 q2 q3 q4 q)
noncomputable def tFor (wi:TI) (g:TG) (tb:TS):TS:=fun D σ H=>wi σ H fun J H1=>∃ W:Nat→Nat→St→Hp→Prop,(∃ m,W 0 m σ H1)∧∀ i m σ H,W i m σ H→
  (J.stop i H∧D.nx σ H)∨(J.go i H∧∃ N:St→Hp→Prop,(∀ σ' H',N σ' H'→∃ m',m' < m∧W (i+1) m' σ' H')∧∀ x H',J.yld i H x H'→g x σ H' fun σ2 H2=>tb {D with nx:=N,ct:=N,bk:=D.nx} σ2 H2)
noncomputable def pinsAt (fp:List Addr) (h:Heap):List (Addr×Obj):=fp.filterMap fun b=>(h.get? b).map fun o=>(b,o)
theorem mem_pinsAt {fp:List Addr} {h:Heap} {b:Addr} {o:Obj} (hb:b∈fp) (e:h.get? b=some o):(b,o)∈pinsAt fp h:=List.mem_filterMap.mpr ⟨b,hb,by rw [e];rfl⟩
theorem of_pinsAt {fp:List Addr} {h:Heap} {p:Addr×Obj} (hp:p∈pinsAt fp h):p.1∈fp∧h.get? p.1=some p.2:=by
  obtain ⟨b,hb,e⟩:=List.mem_filterMap.mp hp
  cases q:h.get? b with
  | none=>rw [q] at e;cases e
  | some o =>
    rw [q] at e
    have e':(b,o)=p:=Option.some.inj e
    subst e'
    exact ⟨hb,q⟩
theorem Inv.pinned {pins:List (Addr×Obj)} {σ:St} {H:Hp} {s:Shared} {fp:List Addr} (I:Inv X pins σ H s) (hf:∀ b∈fp,FpOk X pins H b) (ho:∀ b∈fp,∃ o,s.heap.get? b=some o∧∀ v,o.data≠.cell v):Inv X (pins++pinsAt fp s.heap) σ H s :=
  I.pins_of fun p hp=>(List.mem_append.mp hp).elim (fun z=>I.pin p (List.mem_append_right _ z)) fun z=>by
    obtain ⟨hb,e⟩:=of_pinsAt z
    obtain ⟨f0,f1,f2,_⟩:=hf p.1 hb
    obtain ⟨o,e',d⟩:=ho p.1 hb
    rw [e] at e';cases e'
    exact ⟨e,f0,f1,f2,d⟩
theorem Inv.unpinned {pins pl:List (Addr×Obj)} {σ:St} {H:Hp} {s:Shared} (I:Inv X (pins++pl) σ H s):Inv X pins σ H s:=I.pins_of fun p hp=>I.pin p (List.mem_append_right _ (List.mem_append_left _ hp))
theorem ps_for {iter:Expr} {body:List Stmt} {wi:TI} {g:TG} {tb:TS} {pos:Pos} (hp:PassesOwn (model X.prog X.w) X.A X.env X.xe) (hc:X.calm=true) (hi:PI X tg iter wi) (hg:PG X tg g) (hb:PSs X body tb)
    (hs:∀ x,foldedSetIterable iter X.env x=pure x:=by intro _;rfl):PS X (.For tg iter body [] pos) (tFor wi g tb):=by
  intro pins s σ H D I h
  refine wpAny_For (thn (hi pins s σ H _ I h) fun v s1 h1=>thn h1 fun itv s2 h2=>?_) hs
  obtain ⟨it,fp,tn,J,H2,e,I2,T,st2,f2,W,⟨m0,w0⟩,turn⟩:=h2
  subst e
  have stat:∀{H':Hp},(∀ b∈fp,H' b=none)→∀ b∈fp,FpOk X pins H' b:=fun hn b hb=>⟨hn b hb,(f2 b hb).2⟩
  refine codeAny_forLoop_any (fun n s'=>∃ i σ' H',Inv X pins σ' H' s'∧tn i s'.heap∧(∀ b∈fp,H' b=none)∧W i n σ' H') ?_ m0 ⟨0,σ,H2,I2,st2,fun b hb=>(f2 b hb).1,w0⟩
  rintro n s3 ⟨i,σ3,H3,I3,st3,fr3,w3⟩
  rcases turn i n σ3 H3 w3 with ⟨stop,qn⟩ | ⟨go,N,hN,step⟩
  · refine wpAny_passesOwn hp (thn (T.done X rfl rfl rfl hc i pins s3 σ3 H3 X.xe I3 (stat fr3) st3 stop) fun r s4 zz=>?_)
    obtain ⟨hr,I4⟩:=zz
    subst hr
    exact wpAny_execs_nil ⟨σ3,H3,I4,qn⟩
  · refine wpAny_passesOwn hp (thn (T.item X rfl rfl rfl hc i pins s3 σ3 H3 X.xe I3 (stat fr3) st3 go) fun r s4 zz=>?_)
    obtain ⟨u,hr,h4⟩:=zz
    subst hr
    refine wpAny_passesOwn hp (thn h4 fun _ s5 zz=>?_)
    obtain ⟨x,H5,I5,r5,y5,st5,fr5⟩:=zz
    have I5':=I5.pinned (stat fr5) (T.obj _ _ st5)
    refine wpAny_passesOwn hp (thn (hg _ s5 σ3 H5 x u _ I5' r5 (step x H5 y5)) fun _ s6 zz=>?_)
    obtain ⟨σ6,H6,I6,q6⟩:=zz
    refine wpAny_passesOwn hp (thn (hb _ s6 σ6 H6 _ I6 q6) fun f s7 q7=>?_)
    have again:∀{σ7:St} {H7:Hp},Inv X (pins++pinsAt fp s5.heap) σ7 H7 s7→N σ7 H7→∃ m,m < n∧∃ i σ' H',Inv X pins σ' H' s7∧tn i s7.heap∧(∀ b∈fp,H' b=none)∧W i m σ' H':=fun {σ7 H7} I7 n7=>by
      obtain ⟨m',hm,w7⟩:=hN σ7 H7 n7
      refine ⟨m',hm,i+1,σ7,H7,I7.unpinned,T.keep _ _ _ st5 fun b hb o e=>(I7.pin (b,o) (List.mem_append_right _ (List.mem_append_right _ (mem_pinsAt hb e)))).1,fun b hb=>?_,w7⟩
      obtain ⟨o,e,d⟩:=T.obj _ _ st5 b hb
      exact (I7.pin (b,o) (List.mem_append_right _ (List.mem_append_right _ (mem_pinsAt hb e)))).2.1
    cases f with
    | next=>obtain ⟨σ7,H7,I7,n7⟩:=q7;exact again I7 n7
    | cont=>obtain ⟨σ7,H7,I7,n7⟩:=q7;exact again I7 n7
    | brk=>obtain ⟨σ7,H7,I7,q7⟩:=q7;exact ⟨σ7,H7,I7.unpinned,q7⟩
    | ret v=>obtain ⟨x7,σ7,H7,I7,r7,q7⟩:=q7;exact ⟨x7,σ7,H7,I7.unpinned,r7,q7⟩
end
theorem for_list {K:PySem.W.Frag} {a:Addr} {xs:List V} {g:TG} {tb:TS} {D:Ends} {σ:St} {H:Hp} (Pv:Nat→St→Hp→Prop) (h0:Pv 0 σ H) (hl:∀ i σ H,i≤xs.length→Pv i σ H→SqL K H a xs)
    (hs:∀ i x σ H,xs[i]?=some x→Pv i σ H→g x σ H fun σ2 H2=>tb {D with nx:=Pv (i+1),ct:=Pv (i+1),bk:=D.nx} σ2 H2) (hd:∀ σ H,Pv xs.length σ H→D.nx σ H) :
    ∃ W:Nat→Nat→St→Hp→Prop,(∃ m,W 0 m σ H)∧∀ i m σ H,W i m σ H→
      ((Itl K a).stop i H∧D.nx σ H)∨((Itl K a).go i H∧∃ N:St→Hp→Prop,(∀ σ' H',N σ' H'→∃ m',m' < m∧W (i+1) m' σ' H')∧∀ x H',(Itl K a).yld i H x H'→g x σ H' fun σ2 H2=>tb {D with nx:=N,ct:=N,bk:=D.nx} σ2 H2):=by
  refine ⟨fun i m σ H=>m=xs.length - i∧i≤xs.length∧Pv i σ H,⟨xs.length,by simp,Nat.zero_le _,h0⟩,?_⟩
  rintro i m σ H ⟨rfl,hi,p⟩
  have q:=hl i σ H hi p
  by_cases hlt:i < xs.length
  · refine .inr ⟨⟨xs,xs[i],q,by simp [hlt]⟩,Pv (i+1),fun σ' H' p'=>⟨xs.length - (i+1),by omega,rfl,hlt,p'⟩,fun x H' y=>?_⟩
    obtain ⟨e,y⟩:=y
    subst e
    exact hs i x σ _ (y xs q) p
  · have e:i=xs.length:=by omega
    subst e
    exact .inl ⟨⟨xs,q,Nat.le_refl _⟩,hd σ H p⟩
theorem for_tup {K:PySem.W.Frag} {a:Addr} {xs:List V} {g:TG} {tb:TS} {D:Ends} {σ:St} {H:Hp} (Pv:Nat→St→Hp→Prop) (h0:Pv 0 σ H) (hl:∀ i σ H,i≤xs.length→Pv i σ H→SqT K H a xs)
    (hs:∀ i x σ H,xs[i]?=some x→Pv i σ H→g x σ H fun σ2 H2=>tb {D with nx:=Pv (i+1),ct:=Pv (i+1),bk:=D.nx} σ2 H2) (hd:∀ σ H,Pv xs.length σ H→D.nx σ H) :
    ∃ W:Nat→Nat→St→Hp→Prop,(∃ m,W 0 m σ H)∧∀ i m σ H,W i m σ H→
      ((Itt K a).stop i H∧D.nx σ H)∨((Itt K a).go i H∧∃ N:St→Hp→Prop,(∀ σ' H',N σ' H'→∃ m',m' < m∧W (i+1) m' σ' H')∧∀ x H',(Itt K a).yld i H x H'→g x σ H' fun σ2 H2=>tb {D with nx:=N,ct:=N,bk:=D.nx} σ2 H2):=by
  refine ⟨fun i m σ H=>m=xs.length - i∧i≤xs.length∧Pv i σ H,⟨xs.length,by simp,Nat.zero_le _,h0⟩,?_⟩
  rintro i m σ H ⟨rfl,hi,p⟩
  have q:=hl i σ H hi p
  by_cases hlt:i < xs.length
  · refine .inr ⟨⟨xs,xs[i],q,by simp [hlt]⟩,Pv (i+1),fun σ' H' p'=>⟨xs.length - (i+1),by omega,rfl,hlt,p'⟩,fun x H' y=>?_⟩
    obtain ⟨e,y⟩:=y
    subst e
    exact hs i x σ _ (y xs q) p
  · have e:i=xs.length:=by omega
    subst e
    exact .inl ⟨⟨xs,q,Nat.le_refl _⟩,hd σ H p⟩
theorem for_range {lo:Int} {n:Nat} {g:TG} {tb:TS} {D:Ends} {σ:St} {H:Hp} (Pv:Nat→St→Hp→Prop) (h0:Pv 0 σ H)
    (hs:∀ i σ H,i < n→Pv i σ H→g (.int (lo+i)) σ H fun σ2 H2=>tb {D with nx:=Pv (i+1),ct:=Pv (i+1),bk:=D.nx} σ2 H2) (hd:∀ σ H,Pv n σ H→D.nx σ H) :
    ∃ W:Nat→Nat→St→Hp→Prop,(∃ m,W 0 m σ H)∧∀ i m σ H,W i m σ H→
      ((Itr lo n).stop i H∧D.nx σ H)∨((Itr lo n).go i H∧∃ N:St→Hp→Prop,(∀ σ' H',N σ' H'→∃ m',m' < m∧W (i+1) m' σ' H')∧∀ x H',(Itr lo n).yld i H x H'→g x σ H' fun σ2 H2=>tb {D with nx:=N,ct:=N,bk:=D.nx} σ2 H2):=by
  refine ⟨fun i m σ H=>m=n - i∧i≤n∧Pv i σ H,⟨n,by simp,Nat.zero_le _,h0⟩,?_⟩
  rintro i m σ H ⟨rfl,hi,p⟩
  by_cases hlt:i < n
  · refine .inr ⟨hlt,Pv (i+1),fun σ' H' p'=>⟨n - (i+1),by omega,rfl,hlt,p'⟩,fun x H' y=>?_⟩
    obtain ⟨e,y⟩:=y
    subst e y
    exact hs i σ _ hlt p
  · have e:i=n:=by omega
    subst e
    exact .inl ⟨Nat.le_refl _,hd σ H p⟩
end L2
namespace L2
open PySem PySem.Spec PyProof.Rows
noncomputable abbrev R2:=V→V→Hp→VK→Prop
noncomputable def OpR (X:Cx) (f:Value→Value→Sem Value) (r:R2):Prop :=
  ∀(pins:List (Addr×Obj)) (s:Shared) (σ:St) (H:Hp) (x y:V) (v u:Value) (Q:VK),Inv X pins σ H s→RelV x v→RelV y u→r x y H Q→
    wpAny (model X.prog X.w) X.A (f v u) (EP X pins σ Q) X.xe s
noncomputable def UnR (X:Cx) (f:Value→Sem Value) (r:V→Hp→VK→Prop):Prop :=
  ∀(pins:List (Addr×Obj)) (s:Shared) (σ:St) (H:Hp) (x:V) (v:Value) (Q:VK),Inv X pins σ H s→RelV x v→r x H Q→
    wpAny (model X.prog X.w) X.A (f v) (EP X pins σ Q) X.xe s
noncomputable def CallR (X:Cx) (f:Value) (r:List V→Hp→VK→Prop):Prop :=
  ∀(pins:List (Addr×Obj)) (s:Shared) (σ:St) (H:Hp) (xs:List V) (us:List Value) (Q:VK),Inv X pins σ H s→Vals xs us→r xs H Q→
    wpAny (model X.prog X.w) X.A (call f us) (EP X pins σ Q) X.xe s
noncomputable def TruR (X:Cx) (r:V→Hp→(Bool→Hp→Prop)→Prop):Prop :=
  ∀(pins:List (Addr×Obj)) (s:Shared) (σ:St) (H:Hp) (x:V) (v:Value) (Q:Bool→Hp→Prop),Inv X pins σ H s→RelV x v→r x H Q→
    wpAny (model X.prog X.w) X.A (truthy v) (TP X pins σ Q) X.xe s
noncomputable def tOp (r:R2) (ta tb:TE):TE:=fun σ H Q=>ta σ H fun x H1=>tb σ H1 fun y H2=>r x y H2 Q
noncomputable def tUn (r:V→Hp→VK→Prop) (ta:TE):TE:=fun σ H Q=>ta σ H fun x H1=>r x H1 Q
noncomputable def rI (C:Int→Int→Prop) (g:Int→Int→V):R2:=fun x y H Q=>∃ i j,x=.int i∧y=.int j∧C i j∧Q (g i j) H
noncomputable def rI0 (g:Int→Int→V):R2:=fun x y H Q=>∃ i j,x=.int i∧y=.int j∧Q (g i j) H
noncomputable def rU (g:Int→V):V→Hp→VK→Prop:=fun x H Q=>∃ i,x=.int i∧Q (g i) H
section
variable {X:Cx} {a b c:Expr} {ta tb tc:TE} {pos:Pos}
theorem binT (ha:PE X a ta) (hb:PE X b tb) {pins:List (Addr×Obj)} {s:Shared} {σ:St} {H:Hp} {R:V→V→Hp→Prop} (I:Inv X pins σ H s)
    (h:ta σ H fun x H1=>tb σ H1 fun y H2=>R x y H2) {Q:Value→Shared→Prop} {f:Value→Value→Sem Value}
    (hf:∀ v u s2 x y H2,Inv X pins σ H2 s2→RelV x v→RelV y u→R x y H2→wpAny (model X.prog X.w) X.A (f v u) Q X.xe s2) :
    wpAny (model X.prog X.w) X.A (eval a X.env) (fun v s₁=>wpAny (model X.prog X.w) X.A (eval b X.env) (fun u s₂=>wpAny (model X.prog X.w) X.A (f v u) Q X.xe s₂) X.xe s₁) X.xe s:=by
  refine thn (ha pins s σ H _ I h) fun v s1 zz=>?_
  obtain ⟨x,H1,I1,r1,q1⟩:=zz
  refine thn (hb pins s1 σ H1 _ I1 q1) fun u s2 zz=>?_
  obtain ⟨y,H2,I2,r2,q2⟩:=zz
  exact hf v u s2 x y H2 I2 r1 r2 q2
theorem pe_op {op:Operator} {r:R2} (ho:OpR X (binaryOp op) r) (ha:PE X a ta) (hb:PE X b tb):PE X (.BinOp a op b pos) (tOp r ta tb):=by
  intro pins s σ H Q I h
  exact wpAny_BinOp (binT ha hb I h fun v u s2 x y H2 I2 rx ry q=>ho pins s2 σ H2 x y v u Q I2 rx ry q)
theorem pe_un {op:UnaryOp} {r:V→Hp→VK→Prop} (ho:UnR X (unaryOp op) r) (ha:PE X a ta):PE X (.UnaryOp op a pos) (tUn r ta):=by
  intro pins s σ H Q I h
  refine UnaryOp_ (thn (ha pins s σ H _ I h) fun v s1 zz=>?_)
  obtain ⟨x,H1,I1,r1,q1⟩:=zz
  exact ho pins s1 σ H1 x v Q I1 r1 q1
theorem opI {f:Value→Value→Sem Value} {C:Int→Int→Prop} {g:Int→Int→Int}
    (rule:∀(i j:Int) (t u:Tok) (s:Shared) (Q:Value→Shared→Prop) (E:Value→Shared→Prop),C i j→Q (.int (g i j) s.toks) {s with toks:=s.toks+1}→wpAny (model X.prog X.w) X.A (f (.int i t) (.int j u)) Q E s) :
    OpR X f (rI C fun i j=>.int (g i j)):=by
  intro pins s σ H x y v u Q I rx ry h
  obtain ⟨i,j,rfl,rfl,hc,q⟩:=h
  obtain ⟨t,rfl⟩:=rx
  obtain ⟨t',rfl⟩:=ry
  exact rule i j t t' s _ _ hc ⟨.int (g i j),H,I.tok _,⟨_,rfl⟩,q⟩
theorem opI0 {f:Value→Value→Sem Value} {g:Int→Int→Int}
    (rule:∀(i j:Int) (t u:Tok) (s:Shared) (Q:Value→Shared→Prop) (E:Value→Shared→Prop),Q (.int (g i j) s.toks) {s with toks:=s.toks+1}→wpAny (model X.prog X.w) X.A (f (.int i t) (.int j u)) Q E s) :
    OpR X f (rI0 fun i j=>.int (g i j)):=by
  intro pins s σ H x y v u Q I rx ry h
  obtain ⟨i,j,rfl,rfl,q⟩:=h
  obtain ⟨t,rfl⟩:=rx
  obtain ⟨t',rfl⟩:=ry
  exact rule i j t t' s _ _ ⟨.int (g i j),H,I.tok _,⟨_,rfl⟩,q⟩
theorem opB0 {f:Value→Value→Sem Value} {g:Int→Int→Bool}
    (rule:∀(i j:Int) (t u:Tok) (s:Shared) (Q:Value→Shared→Prop) (E:Value→Shared→Prop),Q (.bool (g i j)) s→wpAny (model X.prog X.w) X.A (f (.int i t) (.int j u)) Q E s) :
    OpR X f (rI0 fun i j=>.bl (g i j)):=by
  intro pins s σ H x y v u Q I rx ry h
  obtain ⟨i,j,rfl,rfl,q⟩:=h
  obtain ⟨t,rfl⟩:=rx
  obtain ⟨t',rfl⟩:=ry
  exact rule i j t t' s _ _ ⟨.bl (g i j),H,I,rfl,q⟩
noncomputable def CDiv (i j:Int):Prop:=0 < j∧j < 1073741824
noncomputable def CPow (i j:Int):Prop:=0≤j∧j≤1000000∧i.natAbs < 2 ^ 64
theorem op_add:OpR X (binaryOp .Add) (rI0 fun i j=>.int (i+j)):=opI0 fun _ _ _ _ _ _ _ q=>add_int q
theorem op_sub:OpR X (binaryOp .Sub) (rI0 fun i j=>.int (i - j)):=opI0 fun _ _ _ _ _ _ _ q=>sub_int q
theorem op_fdiv:OpR X (binaryOp .FloorDiv) (rI CDiv fun i j=>.int (i / j)):=opI fun i j _ _ _ _ _ hc q=>by
  have h1:(0:Int) < j:=hc.1
  have h2:j < 1073741824:=hc.2
  exact floordiv_int (by omega) (by rw [Int.fdiv_eq_ediv_of_nonneg i (by omega)];exact q) (.inl (PyProof.noPylong_small (by omega)))
theorem op_mod:OpR X (binaryOp .Mod) (rI (fun _ j=>0 < j) fun i j=>.int (i % j)):=opI fun i j _ _ _ _ _ hc q=>by
  have h1:(0:Int) < j:=hc
  exact mod_int' (by omega) (by rw [Int.fmod_eq_emod_of_nonneg i (by omega)];exact q)
theorem op_modN:OpR X (binaryOp .Mod) (rI (fun _ j=>j≠0) fun i j=>.int (i.fmod j)):=opI fun _ _ _ _ _ _ _ hc q=>mod_int' hc q
theorem op_pow:OpR X (binaryOp .Pow) (rI CPow fun i j=>.int (i ^ j.toNat)):=opI fun _ _ _ _ _ _ _ hc q=>pow_int_small hc.1 hc.2.1 hc.2.2 q
theorem unI {f:Value→Sem Value} {g:Int→Int}
    (rule:∀(i:Int) (t:Tok) (s:Shared) (Q:Value→Shared→Prop) (E:Value→Shared→Prop),Q (.int (g i) s.toks) {s with toks:=s.toks+1}→wpAny (model X.prog X.w) X.A (f (.int i t)) Q E s) :
    UnR X f (rU fun i=>.int (g i)):=by
  intro pins s σ H x v Q I rx h
  obtain ⟨i,rfl,q⟩:=h
  obtain ⟨t,rfl⟩:=rx
  exact rule i t s _ _ ⟨.int (g i),H,I.tok _,⟨_,rfl⟩,q⟩
theorem un_neg:UnR X (unaryOp .USub) (rU fun i=>.int (-i)):=unI fun _ _ _ _ _ q=>neg_int q
end
noncomputable def scal:V→V→Bool
  | .non,.non=>true | .non,.int _=>true | .int _,.non=>true | .non,.bl _=>true | .bl _,.non=>true | .non,.str _=>true | .str _,.non=>true
  | .int _,.int _=>true | .bl _,.bl _=>true | .str _,.str _=>true | .byt _,.byt _=>true
  | .int _,.str _=>true | .str _,.int _=>true | .bl _,.str _=>true | .str _,.bl _=>true
  | _,_=>false
noncomputable def rEq:R2:=fun x y H Q=>scal x y=true∧Q (.bl (decide (x=y))) H
noncomputable def rNe:R2:=fun x y H Q=>scal x y=true∧Q (.bl (!decide (x=y))) H
theorem dec_int {i j:Int}:decide (V.int i=V.int j)=(i == j):=by
  rw [Bool.eq_iff_iff]
  simp
theorem dec_bl {i j:Bool}:decide (V.bl i=V.bl j)=(i == j):=by
  rw [Bool.eq_iff_iff]
  simp
theorem dec_str {i j:Str}:decide (V.str i=V.str j)=(i == j):=by
  rw [Bool.eq_iff_iff]
  simp
theorem dec_byt {i j:Array UInt8}:decide (V.byt i=V.byt j)=(i.toList == j.toList):=by
  rw [Bool.eq_iff_iff]
  cases i
  cases j
  simp
section
variable {X:Cx} {a b c:Expr} {ta tb tc:TE} {pos:Pos}
theorem fin_bl {pins:List (Addr×Obj)} {σ:St} {H:Hp} {s:Shared} {Q:VK} {k k':Bool} (I:Inv X pins σ H s) (q:Q (.bl k) H) (e:k=k'):EP X pins σ Q (.bool k') s:=by
  subst e
  exact ⟨.bl k,H,I,rfl,q⟩
theorem op_eq:OpR X (compareOp .Eq) rEq:=by
  intro pins s σ H x y v u Q I rx ry h
  obtain ⟨hs,q⟩:=h
  cases x with
  | non =>
    cases rx
    cases y with
    | non=>cases ry;exact PySem.EqNone.eq_none_none (fin_bl I q (by simp))
    | bl j=>cases ry;exact PySem.EqNone.eq_none_bool (fin_bl I q (by simp))
    | int j=>obtain ⟨t',rfl⟩:=ry;exact PySem.EqNone.eq_none_int (fin_bl I q (by simp))
    | str j=>obtain ⟨t',rfl⟩:=ry;exact PySem.EqNone.eq_none_str (fin_bl I q (by simp))
    | _=>exact absurd (show false=true from hs) Bool.false_ne_true
  | bl i =>
    cases rx
    cases y with
    | non=>cases ry;exact PySem.EqNone.eq_bool_none (fin_bl I q (by simp))
    | bl j=>cases ry;exact eq_bool (fin_bl I q dec_bl)
    | str j=>obtain ⟨t',rfl⟩:=ry;exact PySem.EqMixed.eq_bool_str (fin_bl I q (by simp))
    | _=>exact absurd (show false=true from hs) Bool.false_ne_true
  | int i =>
    obtain ⟨t,rfl⟩:=rx
    cases y with
    | non=>cases ry;exact PySem.EqNone.eq_int_none (fin_bl I q (by simp))
    | int j=>obtain ⟨t',rfl⟩:=ry;exact eq_int (fin_bl I q dec_int)
    | str j=>obtain ⟨t',rfl⟩:=ry;exact PySem.EqMixed.eq_int_str (fin_bl I q (by simp))
    | _=>exact absurd (show false=true from hs) Bool.false_ne_true
  | str i =>
    obtain ⟨t,rfl⟩:=rx
    cases y with
    | non=>cases ry;exact PySem.EqNone.eq_str_none (fin_bl I q (by simp))
    | bl j=>cases ry;exact PySem.EqMixed.eq_str_bool (fin_bl I q (by simp))
    | int j=>obtain ⟨t',rfl⟩:=ry;exact PySem.EqMixed.eq_str_int (fin_bl I q (by simp))
    | str j=>obtain ⟨t',rfl⟩:=ry;exact eq_str (fin_bl I q dec_str)
    | _=>exact absurd (show false=true from hs) Bool.false_ne_true
  | byt i =>
    obtain ⟨t,rfl⟩:=rx
    cases y with
    | byt j=>obtain ⟨t',rfl⟩:=ry;exact PySem.W.eq_bytes (fin_bl I q dec_byt)
    | _=>exact absurd (show false=true from hs) Bool.false_ne_true
  | _=>cases y <;> exact absurd (show false=true from hs) Bool.false_ne_true
theorem op_ne:OpR X (compareOp .NotEq) rNe:=by
  intro pins s σ H x y v u Q I rx ry h
  obtain ⟨hs,q⟩:=h
  cases x with
  | non =>
    cases rx
    cases y with
    | non=>cases ry;exact PySem.EqNone.ne_none_none (fin_bl I q (by simp))
    | bl j=>cases ry;exact PySem.EqNone.ne_none_bool (fin_bl I q (by simp))
    | int j=>obtain ⟨t',rfl⟩:=ry;exact PySem.EqNone.ne_none_int (fin_bl I q (by simp))
    | str j=>obtain ⟨t',rfl⟩:=ry;exact PySem.EqNone.ne_none_str (fin_bl I q (by simp))
    | _=>exact absurd (show false=true from hs) Bool.false_ne_true
  | bl i =>
    cases rx
    cases y with
    | non=>cases ry;exact PySem.EqNone.ne_bool_none (fin_bl I q (by simp))
    | bl j=>cases ry;exact ne_bool (fin_bl I q (congrArg not dec_bl))
    | str j=>obtain ⟨t',rfl⟩:=ry;exact PySem.EqMixed.ne_bool_str (fin_bl I q (by simp))
    | _=>exact absurd (show false=true from hs) Bool.false_ne_true
  | int i =>
    obtain ⟨t,rfl⟩:=rx
    cases y with
    | non=>cases ry;exact PySem.EqNone.ne_int_none (fin_bl I q (by simp))
    | int j=>obtain ⟨t',rfl⟩:=ry;exact ne_int (fin_bl I q (congrArg not dec_int))
    | str j=>obtain ⟨t',rfl⟩:=ry;exact PySem.EqMixed.ne_int_str (fin_bl I q (by simp))
    | _=>exact absurd (show false=true from hs) Bool.false_ne_true
  | str i =>
    obtain ⟨t,rfl⟩:=rx
    cases y with
    | non=>cases ry;exact PySem.EqNone.ne_str_none (fin_bl I q (by simp))
    | bl j=>cases ry;exact PySem.EqMixed.ne_str_bool (fin_bl I q (by simp))
    | int j=>obtain ⟨t',rfl⟩:=ry;exact PySem.EqMixed.ne_str_int (fin_bl I q (by simp))
    | str j=>obtain ⟨t',rfl⟩:=ry;exact ne_str (fin_bl I q (congrArg not dec_str))
    | _=>exact absurd (show false=true from hs) Bool.false_ne_true
  | byt i =>
    obtain ⟨t,rfl⟩:=rx
    cases y with
    | byt j=>obtain ⟨t',rfl⟩:=ry;exact PySem.W.ne_bytes (fin_bl I q (congrArg not dec_byt))
    | _=>exact absurd (show false=true from hs) Bool.false_ne_true
  | _=>cases y <;> exact absurd (show false=true from hs) Bool.false_ne_true
theorem op_lt:OpR X (compareOp .Lt) (rI0 fun i j=>.bl (decide (i < j))):=opB0 fun _ _ _ _ _ _ _ q=>lt_int q
theorem op_le:OpR X (compareOp .LtE) (rI0 fun i j=>.bl (decide (i≤j))):=opB0 fun _ _ _ _ _ _ _ q=>le_int q
theorem op_gt:OpR X (compareOp .Gt) (rI0 fun i j=>.bl (decide (j < i))):=opB0 fun _ _ _ _ _ _ _ q=>gt_int q
theorem op_ge:OpR X (compareOp .GtE) (rI0 fun i j=>.bl (decide (j≤i))):=opB0 fun _ _ _ _ _ _ _ q=>ge_int q
theorem op_notN:OpR X (compareOp .IsNot) (fun x y H Q=>y=.non∧Q (.bl (!decide (x=.non))) H):=by
  intro pins s σ H x y v u Q I rx ry h
  obtain ⟨rfl,q⟩:=h
  cases ry
  refine isnot_none_gen (fin_bl I q ?_)
  cases x <;> first
    | (cases rx;rfl)
    | (obtain ⟨t,rfl⟩:=rx;rfl)
theorem nomark (b:Expr) {op:CmpOp} (h:op≠.In:=by decide) (h2:op≠.NotIn:=by decide):behindInMarks op b=false:=by
  have e1:(op == CmpOp.In)=false:=by cases op <;> first | rfl | exact absurd rfl h
  have e2:(op == CmpOp.NotIn)=false:=by cases op <;> first | rfl | exact absurd rfl h2
  cases b <;> simp [behindInMarks,e1,e2]
theorem pe_cmpR {op:CmpOp} {r:R2} (ho:OpR X (compareOp op) r) (ha:PE X a ta) (hb:PE X b tb) (hm:behindInMarks op b=false):PE X (.Compare a [op] [b] pos) (tOp r ta tb):=by
  intro pins s σ H Q I h
  exact wpAny_Compare1 (binT ha hb I h fun v u s2 x y H2 I2 rx ry q=>ho pins s2 σ H2 x y v u Q I2 rx ry q) hm
noncomputable def tTest (t:TE):TT:=fun σ H Q=>t σ H fun x H'=>∃ k,x=.bl k∧Q k H'
theorem pt_cmpR {op:CmpOp} {r:R2} (ho:OpR X (compareOp op) r) (ha:PE X a ta) (hb:PE X b tb) (hm:behindInMarks op b=false):PT X (.Compare a [op] [b] pos) (tTest (tOp r ta tb)):=by
  intro pins s σ H Q I h
  refine wpAny_isTrue_Compare1 (thn (ha pins s σ H _ I h) fun v s1 ⟨x,H1,I1,r1,q1⟩=>thn (hb pins s1 σ H1 _ I1 q1) fun u s2 ⟨y,H2,I2,r2,q2⟩ =>
    thn (ho pins s2 σ H2 x y v u _ I2 r1 r2 q2) fun c s3 ⟨z,H3,I3,r3,k,e,q3⟩=>?_) hm
  subst e
  cases r3
  exact wpAny_truthy_bool ⟨H3,I3,q3⟩
noncomputable def tChain (r r':R2) (ta tb tc:TE):TE:=fun σ H Q=>ta σ H fun x H1=>tb σ H1 fun y H2=>r x y H2 fun z H3=>∃ k,z=.bl k∧
  (if k=true then tc σ H3 fun w' H4=>r' y w' H4 Q else Q (.bl false) H3)
theorem pe_chain {op op':CmpOp} {r r':R2} (ho:OpR X (compareOp op) r) (ho':OpR X (compareOp op') r') (ha:PE X a ta) (hb:PE X b tb) (hc:PE X c tc)
    (hm:lastMarks [op,op'] [b,c]=false:=by with_unfolding_all rfl):PE X (.Compare a [op,op'] [b,c] pos) (tChain r r' ta tb tc):=by
  intro pins s σ H Q I h
  refine Compare_chain (thn (ha pins s σ H _ I h) fun v s1 ⟨x,H1,I1,r1,q1⟩=>chain_link (thn (hb pins s1 σ H1 _ I1 q1) fun u s2 ⟨y,H2,I2,r2,q2⟩ =>
    thn (ho pins s2 σ H2 x y v u _ I2 r1 r2 q2) fun d s3 ⟨z,H3,I3,r3,k,e,q3⟩=>?_)) hm
  subst e
  cases r3
  refine wpAny_truthy_bool ?_
  cases k with
  | false=>exact ite_ff ⟨.bl false,H3,I3,rfl,q3⟩
  | true=>exact ite_tt (chain_last (thn (hc pins s3 σ H3 _ I3 q3) fun w' s4 ⟨z',H4,I4,r4,q4⟩=>ho' pins s4 σ H4 y z' u w' Q I4 r2 r4 q4))
theorem pt_chain {op op':CmpOp} {r r':R2} (ho:OpR X (compareOp op) r) (ho':OpR X (compareOp op') r') (ha:PE X a ta) (hb:PE X b tb) (hc:PE X c tc)
    (hm:lastMarks [op,op'] [b,c]=false:=by with_unfolding_all rfl):PT X (.Compare a [op,op'] [b,c] pos) (tTest (tChain r r' ta tb tc)):=by
  intro pins s σ H Q I h
  refine isTrue_chain (thn (ha pins s σ H _ I h) fun v s1 ⟨x,H1,I1,r1,q1⟩=>test_link (thn (hb pins s1 σ H1 _ I1 q1) fun u s2 ⟨y,H2,I2,r2,q2⟩ =>
    thn (ho pins s2 σ H2 x y v u _ I2 r1 r2 q2) fun d s3 ⟨z,H3,I3,r3,k,e,q3⟩=>?_)) hm
  subst e
  cases r3
  refine wpAny_truthy_bool ?_
  cases k with
  | false =>
    obtain ⟨k',e',q'⟩:=q3
    cases e'
    exact ite_ff ⟨H3,I3,q'⟩
  | true =>
    refine ite_tt (test_last (thn (hc pins s3 σ H3 _ I3 q3) fun w' s4 zz=>?_))
    obtain ⟨z',H4,I4,r4,q4⟩:=zz
    refine thn (ho' pins s4 σ H4 y z' u w' _ I4 r2 r4 q4) fun d' s5 zz=>?_
    obtain ⟨z2,H5,I5,r5,k2,e2,q5⟩:=zz
    subst e2
    cases r5
    exact wpAny_truthy_bool ⟨H5,I5,q5⟩
noncomputable def TruV (K:PySem.W.Frag) (x:V) (H:Hp) (k:Bool):Prop :=
  match x with
  | .non=>k=false
  | .bl b=>k=b
  | .int i=>k=(i != 0)
  | .str y=>y.length≤sizeLine∧k=((y.length:Int) != 0)
  | .byt y=>y.size≤sizeLine∧k=((y.size:Int) != 0)
  | .ref p=>(∃ xs,SqL K H p xs∧k = !xs.isEmpty)∨(∃ xs,SqT K H p xs∧k = !xs.isEmpty)∨∃ kvs,H p=some (.dK kvs)∧k = !kvs.isEmpty
  | _=>False
theorem isEmpty_kv {κ:Type} {kvs:List (κ×V)} {vs:List (κ×Value)} (r:KV kvs vs):(!vs.isEmpty) = !kvs.isEmpty:=by
  cases r <;> rfl
theorem isEmpty_of {xs:List V} {its:List Value} (r:Vals xs its):(!its.toArray.isEmpty) = !xs.isEmpty:=by
  cases r <;> simp
theorem line63:(sizeLine:Nat) < 2 ^ 63:=by rw [sizeLine_eq];decide
theorem tru_ok:TruR X (fun x H Q=>∃ k,TruV X.K x H k∧Q k H):=by
  intro pins s σ H x v Q I rx h
  obtain ⟨k,e,q⟩:=h
  have hl:=line63
  have hs:sizeLine=16777216:=sizeLine_eq
  cases x with
  | non =>
    cases rx
    have e':k=false:=e
    subst e'
    exact truthy_none ⟨H,I,q⟩
  | bl b =>
    cases rx
    have e':k=b:=e
    subst e'
    exact wpAny_truthy_bool ⟨H,I,q⟩
  | int i =>
    obtain ⟨t,rfl⟩:=rx
    have e':k=(i != 0):=e
    subst e'
    exact PySem.P.truthy_int ⟨H,I,q⟩
  | str y =>
    obtain ⟨t,rfl⟩:=rx
    obtain ⟨hy,e'⟩:y.length≤sizeLine∧k=((y.length:Int) != 0):=e
    subst e'
    exact PySem.P.truthy_str (by omega) ⟨H,I.tok _,q⟩
  | byt y =>
    obtain ⟨t,rfl⟩:=rx
    obtain ⟨hy,e'⟩:y.size≤sizeLine∧k=((y.size:Int) != 0):=e
    subst e'
    exact PySem.W.truthy_bytes (by omega) ⟨H,I.tok _,q⟩
  | ref p =>
    cases rx
    have e':(∃ xs,SqL X.K H p xs∧k = !xs.isEmpty)∨(∃ xs,SqT X.K H p xs∧k = !xs.isEmpty)∨∃ kvs,H p=some (.dK kvs)∧k = !kvs.isEmpty:=e
    rcases e' with ⟨xs,hx,e'⟩ | ⟨xs,hx,e'⟩ | ⟨kvs,hx,e'⟩
    · subst e'
      obtain ⟨its,r,pl,hz⟩:=I.list hx
      have hlen:=r.length
      exact wpAny_truthy_list pl.isList (by simp only [List.size_toArray];omega) ⟨H,I.tok _,by rw [isEmpty_of r];exact q⟩
    · subst e'
      obtain ⟨its,r,pl,hz⟩:=I.tuple hx
      have hlen:=r.length
      exact truthy_tuple pl (by simp only [List.size_toArray];omega) ⟨H,I.tok _,by rw [isEmpty_of r];exact q⟩
    · subst e'
      obtain ⟨hz,hS,vs,r,m⟩:kvs.length≤sizeLine∧(p == sysModules)=false∧∃ vs,KV kvs vs∧s.heap.DictOf (mixKind X.prog X.w) p vs:=I.hok p _ hx
      have hlen:kvs.length=vs.length:=Paired.length r
      exact wpAny_truthy_dict hS m (by omega) ⟨H,I.tok _,by rw [isEmpty_kv r];exact q⟩
  | _=>exact (show False from e).elim
theorem pt_truth (ha:PE X a ta) (he:∀ whole,isTrue a X.env whole=(do let v ← whole;standAt a.pos;holding [v] (truthy v))) :
    PT X a (fun σ H Q=>ta σ H fun x H'=>∃ k,TruV X.K x H' k∧Q k H'):=by
  intro pins s σ H Q I h
  refine isTrue_plain (thn (ha pins s σ H _ I h) fun v s1 zz=>?_) (he _)
  obtain ⟨x,H1,I1,r1,q1⟩:=zz
  exact tru_ok pins s1 σ H1 x v Q I1 r1 q1
theorem vals1 {x:V} {us:List Value} (r:Vals [x] us):∃ u,us=[u]∧RelV x u:=by
  cases r with
  | cons r1 r2=>cases r2;exact ⟨_,rfl,r1⟩
theorem vals2 {x y:V} {us:List Value} (r:Vals [x,y] us):∃ u w',us=[u,w']∧RelV x u∧RelV y w':=by
  cases r with
  | cons r1 r2 =>
    cases r2 with
    | cons r3 r4=>cases r4;exact ⟨_,_,rfl,r1,r3⟩
theorem call_abs:CallR X (.builtin "abs") (fun xs H Q=>∃ i,xs=[.int i]∧Q (.int (if i < 0 then -i else i)) H):=by
  intro pins s σ H xs us Q I r h
  obtain ⟨i,rfl,q⟩:=h
  obtain ⟨u,rfl,t,rfl⟩:=vals1 r
  exact call_abs_int fun u tk=>⟨.int (if i < 0 then -i else i),H,I.tok _,⟨_,rfl⟩,q⟩
theorem call_max2 (hc:X.calm=true):CallR X (.builtin "max") (fun xs H Q=>∃ i j,xs=[.int i,.int j]∧Q (.int (if j > i then j else i)) H):=by
  intro pins s σ H xs us Q I r h
  obtain ⟨i,j,rfl,q⟩:=h
  obtain ⟨u,w',rfl,⟨t,rfl⟩,⟨t',rfl⟩⟩:=vals2 r
  refine max_two_ints (I.ok.hd hc) fun h' tk k=>⟨_,H,I.kept k,?_,q⟩
  by_cases hj:j > i
  · rw [if_pos hj,if_pos hj];exact ⟨_,rfl⟩
  · rw [if_neg hj,if_neg hj];exact ⟨_,rfl⟩
theorem call_min2 (hc:X.calm=true):CallR X (.builtin "min") (fun xs H Q=>∃ i j,xs=[.int i,.int j]∧Q (.int (if j < i then j else i)) H):=by
  intro pins s σ H xs us Q I r h
  obtain ⟨i,j,rfl,q⟩:=h
  obtain ⟨u,w',rfl,⟨t,rfl⟩,⟨t',rfl⟩⟩:=vals2 r
  refine min_two_ints (I.ok.hd hc) fun h' tk k=>⟨_,H,I.kept k,?_,q⟩
  by_cases hj:j < i
  · rw [if_pos hj,if_pos hj];exact ⟨_,rfl⟩
  · rw [if_neg hj,if_neg hj];exact ⟨_,rfl⟩
noncomputable def LenV (K:PySem.W.Frag) (x:V) (H:Hp) (n:Nat):Prop :=
  match x with
  | .str y=>y.length≤sizeLine∧n=y.length
  | .byt y=>y.size≤sizeLine∧n=y.size
  | .ref p=>(∃ xs,SqL K H p xs∧n=xs.length)∨∃ xs,SqT K H p xs∧n=xs.length
  | _=>False
theorem call_len:CallR X (.builtin "len") (fun xs H Q=>∃ x n,xs=[x]∧LenV X.K x H n∧Q (.int n) H):=by
  intro pins s σ H xs us Q I r h
  obtain ⟨x,n,rfl,e,q⟩:=h
  obtain ⟨u,rfl,rx⟩:=vals1 r
  have hl:=line63
  have hs:sizeLine=16777216:=sizeLine_eq
  cases x with
  | str y =>
    obtain ⟨t,rfl⟩:=rx
    obtain ⟨hy,e'⟩:y.length≤sizeLine∧n=y.length:=e
    subst e'
    exact len_str (by omega) ⟨.int _,H,I.tok _,⟨_,rfl⟩,q⟩
  | byt y =>
    obtain ⟨t,rfl⟩:=rx
    obtain ⟨hy,e'⟩:y.size≤sizeLine∧n=y.size:=e
    subst e'
    exact PySem.W.len_bytes (by omega) ⟨.int _,H,I.tok _,⟨_,rfl⟩,q⟩
  | ref p =>
    cases rx
    have e':(∃ xs,SqL X.K H p xs∧n=xs.length)∨∃ xs,SqT X.K H p xs∧n=xs.length:=e
    rcases e' with ⟨xs,hx,e'⟩ | ⟨xs,hx,e'⟩
    · subst e'
      obtain ⟨its,r',pl,hz⟩:=I.list hx
      have hlen:=r'.length
      exact Calls.call_len_list pl.isList (by simp only [List.size_toArray];omega) ⟨.int xs.length,H,I.tok _,⟨_,by simp only [List.size_toArray];rw [hlen]⟩,q⟩
    · subst e'
      obtain ⟨its,r',pl,hz⟩:=I.tuple hx
      have hlen:=r'.length
      exact len_tuple pl (by simp only [List.size_toArray];omega) ⟨.int xs.length,H,I.tok _,⟨_,by simp only [List.size_toArray];rw [hlen]⟩,q⟩
  | _=>exact (show False from e).elim
end
end L2
namespace L2
open PySem PySem.Spec PyProof.Rows
structure ObjM (h:Heap) (x dx C:Addr) (mA:Str→Option Value):Prop where
  obj:h.get? x=some (PySem.W.instObj C dx)
  ns:h.Ns1 dx mA
  ne:dx≠x
theorem lookIn_ns {h:Heap} {dx:Addr} {mA:Str→Option Value} (n:h.Ns1 dx mA):∃ od,h.get? dx=some od∧∀ name,PySem.W.lookIn name od=some (mA name):=by
  obtain ⟨o,es,ep,ho,hd,hk,_,hm⟩:=n
  refine ⟨o,ho,fun name=>?_⟩
  have e:=hm name
  unfold nsFind findBy at e
  rw [← Array.find?_toList] at e
  unfold PySem.W.lookIn
  rw [hd]
  dsimp only
  split
  · rename_i y q
    rw [q] at e
    exact congrArg some e
  · rename_i q
    rw [q] at e
    have a:es.toList.any (·.refKey)=false:=by
      rw [List.any_eq_false]
      intro y hy
      obtain ⟨z,t,hkey⟩:=hk y (Array.mem_toList_iff.mp hy)
      simp [DictEntry.refKey,hkey]
    have a':¬es.toList.any (·.refKey)=true:=by rw [a];exact Bool.false_ne_true
    rw [if_neg a']
    exact congrArg some e
theorem ObjM.look {h:Heap} {x dx C:Addr} {mA:Str→Option Value} (I:ObjM h x dx C mA):∃ od,PySem.W.InstAt h x (PySem.W.instObj C dx) C (some od)∧∀ name,PySem.W.lookIn name od=some (mA name) :=
  let ⟨od,ho,hl⟩:=lookIn_ns I.ns
  ⟨od,⟨I.obj,rfl,rfl,ho⟩,hl⟩
section
variable {prog:Program} {w:World} {A:Around} {E:Value→Shared→Prop} {s:Shared} {K:PySem.W.Frag} {x dx C f:Addr} {mA:Str→Option Value} {name:Str} {v:Value}
end
theorem RelO.some_of {v:V} {o:Option Value} (r:RelO (some v) o):∃ u,o=some u∧RelV v u:=by
  cases o with
  | none=>exact (show False from r).elim
  | some u=>exact ⟨u,rfl,r⟩
section
variable {P:Program} {w:World} {H H':Hp} {h h':Heap} {a C dx:Addr} {fs fs':List (Str×V)}
theorem ins_get (hok:HOk P w H h) (e:H a=some (.ins C dx fs)):∃ mA,ObjM h a dx C mA∧(∀ f,RelO (fs.lookup f) (mA f))∧PySem.Within mA (fs.map (·.1))∧fs.length≤1000∧H dx=some (.own a):=by
  obtain ⟨d,z,ne,ob,mA,n,r,q⟩:=(show ObjOk P w H h a (.ins C dx fs) from hok a _ e)
  exact ⟨mA,⟨ob,n,ne⟩,r,q,z,d⟩
end
structure Cls (K:PySem.W.Frag) (C:Addr):Prop where
  pg:PySem.W.plainGet K C Str.empty=true
  hd:PySem.W.hasDictIn K C=true
  po:PySem.W.plainOver K C=true
  sa:PySem.W.findIn K (.ref C) "__setattr__"=some (some (.builtin "object.__setattr__"))
theorem Cls.get {K:PySem.W.Frag} {C:Addr} (c:Cls K C) (f:Str):PySem.W.plainGet K C f=true:=c.pg
section
variable {X:Cx} {pins:List (Addr×Obj)} {σ:St} {H:Hp} {s:Shared} {a C dx:Addr} {fs:List (Str×V)} {f:Str} {v:V} {A:Around} {E:Value→Shared→Prop}
end
section
variable {X:Cx} {o e value:Expr} {f:Str} {pos pos' tpos:Pos} {ta tv:TE}
end
section
variable {X:Cx} {pins:List (Addr×Obj)} {σ:St} {H:Hp} {s:Shared} {A:Around} {E:Value→Shared→Prop} {Q:Value→Shared→Prop} {c:Value} {b:Bool}
inductive TyOf (K:PySem.W.Frag) (H:Hp):V→Value→Prop where
  | non:TyOf K H .non (.type "NoneType")
  | bl (x:Bool):TyOf K H (.bl x) (.type "bool")
  | int (i:Int):TyOf K H (.int i) (.type "int")
  | str (x:Str):TyOf K H (.str x) (.type "str")
  | flt (x:UInt64):TyOf K H (.flt x) (.type "float")
  | lst {a:Addr} {xs:List V} (e:H a=some (.lst xs)):TyOf K H (.ref a) (.type "list")
  | frz {a:Addr} {o:Obj} {xs:List V} (e:H a=some (.frz o (.lst xs))):TyOf K H (.ref a) (.type "list")
  | tup {a:Addr} {xs:List V} (e:H a=some (.tup xs)):TyOf K H (.ref a) (.type "tuple")
  | dK {a:Addr} {kvs:List (Key×V)} (e:H a=some (.dK kvs)):TyOf K H (.ref a) (.type "dict")
  | dT {a:Addr} {kvs:List (List Key×V)} (e:H a=some (.dT kvs)):TyOf K H (.ref a) (.type "dict")
  | ins {a C dx:Addr} {fs:List (Str×V)} (e:H a=some (.ins C dx fs)) (cl:Cls K C) (ha:PySem.W.findIn K (.ref C) "__class__"=some (some (.builtin "object.__class__")))
      (hn:PySem.W.specialIn K (.builtin "object.__class__") "__get__"=some (some (.builtin "getset_descriptor.__get__"))) (htk:PySem.W.takesIn K (.builtin "object.__class__")=some true)
      (hm:PySem.W.mroIn K C (.type "object")=some true):TyOf K H (.ref a) (.ref C)
theorem isinst_ok {x:V} {u t:Value} (I:Inv X pins σ H s) (rx:RelV x u) (ty:TyOf X.K H x t) (e:PySem.W.kitOne X.K t c=some b) (h:∀ tk,Q (.bool b) {s with toks:=tk}) :
    wpAny (model X.prog X.w) A (call (.builtin "isinstance") [u,c]) Q E s:=by
  cases ty with
  | non=>cases (show u=Value.none from rx);exact PySem.W.kia_one PySem.W.kitx_none I.kIn True.intro e (fun z=>nomatch z) h
  | bl y=>cases (show u=Value.bool y from rx);exact PySem.W.kia_one PySem.W.kitx_bool I.kIn True.intro e (fun z=>nomatch z) h
  | int i=>obtain ⟨t,q⟩:=(show ∃ t,u=Value.int i t from rx);cases q;exact PySem.W.kia_one PySem.W.kitx_int I.kIn True.intro e (fun z=>nomatch z) h
  | str y=>obtain ⟨t,q⟩:=(show ∃ t,u=Value.str y t from rx);cases q;exact PySem.W.kia_one PySem.W.kitx_str I.kIn True.intro e (fun z=>nomatch z) h
  | flt y=>obtain ⟨t,q⟩:=(show ∃ t,u=Value.float y t from rx);cases q;exact PySem.W.kia_one PySem.W.kitx_float I.kIn True.intro e (fun z=>nomatch z) h
  | @lst a xs ea =>
    cases (show u=Value.ref a from rx)
    obtain ⟨_,_,n,_,h1⟩:=(show ObjOk X.prog X.w H s.heap a (.lst xs) from I.hok a _ ea)
    exact PySem.W.kia_one PySem.W.kitx_list I.kIn ⟨_,h1,rfl⟩ e (fun z=>nomatch z) h
  | @frz a ob xs ea =>
    cases (show u=Value.ref a from rx)
    obtain ⟨_,_,_,n,_,h1⟩:=(show ObjOk X.prog X.w H s.heap a (.frz ob (.lst xs)) from I.hok a _ ea)
    exact PySem.W.kia_one PySem.W.kitx_list I.kIn ⟨_,h1,rfl⟩ e (fun z=>nomatch z) h
  | @tup a xs ea =>
    cases (show u=Value.ref a from rx)
    obtain ⟨_,_,_,p⟩:=(show ObjOk X.prog X.w H s.heap a (.tup xs) from I.hok a _ ea)
    obtain ⟨o,h1,h2,_⟩:=p
    exact PySem.W.kia_one PySem.W.kitx_tuple I.kIn ⟨o,h1,h2⟩ e (fun z=>nomatch z) h
  | @dK a kvs ea =>
    cases (show u=Value.ref a from rx)
    obtain ⟨_,_,vs,_,p⟩:=(show ObjOk X.prog X.w H s.heap a (.dK kvs) from I.hok a _ ea)
    obtain ⟨o,es,ep,h1,h2,_⟩:=p
    exact PySem.W.kia_one PySem.W.kitx_dict I.kIn ⟨o,h1,h2.1⟩ e (fun z=>nomatch z) h
  | @dT a kvs ea =>
    cases (show u=Value.ref a from rx)
    obtain ⟨_,_,xs,_,o,es,ep,h1,h2,_⟩:=(show ObjOk X.prog X.w H s.heap a (.dT kvs) from I.hok a _ ea)
    exact PySem.W.kia_one PySem.W.kitx_dict I.kIn ⟨o,h1,h2.1⟩ e (fun z=>nomatch z) h
  | @ins a C dx fs ea cl ha hn htk hm =>
    cases (show u=Value.ref a from rx)
    obtain ⟨mA,O,_⟩:=ins_get I.hok ea
    obtain ⟨od,J,_⟩:=O.look
    exact PySem.W.kia_one (PySem.W.kitx_own (cl.get _) cl.hd ha hn htk hm) I.kIn J e (fun z=>nomatch z) h
end
end L2
namespace L2
open PySem PySem.Spec PyProof.Rows
structure Room (k:Nat) (A:Around):Prop where
  hd:A.handled=none
  dp:A.depth+3*k+5 < recursionLimit
  un:A.units+16*k+200 < cLine
theorem Room.mono {j k:Nat} {A:Around} (r:Room k A) (h:j≤k):Room j A:=⟨r.hd,by have:=r.dp;omega,by have:=r.un;omega⟩
theorem Room.deeper {k:Nat} {A:Around} (r:Room (k+1) A) (env:Env):Room k (A.deeper env) :=
  ⟨r.hd,by have:=r.dp;show A.depth+1+3*k+5 < _;omega,by have:=r.un;show A.units+3+16*k+200 < _;omega⟩
theorem Room.depth {k:Nat} {A:Around} (r:Room k A):A.depth < recursionLimit:=by have:=r.dp;omega
theorem Room.units {k:Nat} {A:Around} (r:Room k A):A.units+64 < cLine:=by have:=r.un;omega
noncomputable def tNil:TA:=fun _ H Q=>Q [] H
noncomputable def tCons (ta:TE) (tr:TA):TA:=fun σ H Q=>ta σ H fun x H1=>tr σ H1 fun xs H2=>Q (x::xs) H2
section
variable {X:Cx} {e:Expr} {es:List Expr} {te:TE} {t:TA} {pos:Pos}
theorem pa_nil:PA X [] tNil:=fun _ _ _ _ H Q I h=>Calls.spliced_nil ⟨[],H,I,.nil,h⟩
theorem pa_cons (ha:PE X e te) (hr:PA X es t) (hs:starEach (e::es) X.env=(false,eval e X.env)::starEach es X.env:=by rfl):PA X (e::es) (tCons te t):=by
  intro pos pins s σ H Q I h
  rw [hs]
  show wpAny _ _ (spliced ((false,eval e X.env)::backTo pos (starEach es X.env))) _ _ s
  refine Calls.spliced_cons (thn (ha pins s σ H _ I h) fun u s1 zz=>?_)
  obtain ⟨x,H1,I1,r1,q1⟩:=zz
  refine thn (hr pos pins s1 σ H1 _ I1 q1) fun us s2 zz=>?_
  obtain ⟨xs,H2,I2,r2,q2⟩:=zz
  exact ⟨x::xs,H2,I2,.cons r1 r2,q2⟩
noncomputable def tTup (t:TA):TE:=fun σ H Q=>t σ H fun xs H1=>xs.length≤sizeLine∧∀ p,H1 p=none→Q (.ref p) (upd H1 p (.tup xs))
noncomputable def tLst (t:TA):TE:=fun σ H Q=>t σ H fun xs H1=>xs.length≤sizeLine∧∀ p,H1 p=none→Q (.ref p) (upd H1 p (.lst xs))
theorem pe_tup {x1} (h:PA X es t):PE X (.Tuple es x1 pos) (tTup t):=by
  intro pins s σ H Q I hq
  refine wpAny_Tuple_spliced (thn (h pos pins s σ H _ I hq) fun us s1 zz=>?_)
  obtain ⟨xs,H1,I1,r,z,q⟩:=zz
  refine ⟨by rw [← r.length];exact z,?_⟩
  have hf:H1 s1.heap.objs.size=none:=I1.hok.fresh (Nat.le_refl _)
  refine ⟨.ref s1.heap.objs.size,upd H1 s1.heap.objs.size (.tup xs),I1.laid (t':=s1.toks) (fun b u e=>Heap.get?_push_of_some _ e) (Nat.le_refl _) ?_,rfl,q _ hf⟩
  exact ⟨z,us,r,⟨_,Heap.get?_push_size _ rfl,rfl,_,rfl⟩⟩
theorem pe_lst (h:PA X es t):PE X (.List es pos) (tLst t):=by
  intro pins s σ H Q I hq
  refine wpAny_List_spliced (thn (h pos pins s σ H _ I hq) fun us s1 zz=>?_)
  obtain ⟨xs,H1,I1,r,z,q⟩:=zz
  refine ⟨by rw [← r.length];exact z,?_⟩
  have hf:H1 s1.heap.objs.size=none:=I1.hok.fresh (Nat.le_refl _)
  refine ⟨.ref s1.heap.objs.size,upd H1 s1.heap.objs.size (.lst xs),I1.laid (t':=s1.toks) (fun b u e=>Heap.get?_push_of_some _ e) (Nat.le_refl _) ?_,rfl,q _ hf⟩
  exact ⟨z,us,0,r,Heap.get?_push_size _ rfl⟩
end
noncomputable abbrev Sp:=List V→Hp→VK→XK→Prop
noncomputable abbrev CXT:=List Env→Hp→Shared→XK→Value→Shared→Prop
structure Env0 (P:Program) (w:World) (K:PySem.W.Frag) (mg:Str→Option Value) (base:Heap) (A:Around) (outer:List Env) (s:Shared) (H:Hp):Prop where
  frames:A.frames=some outer
  mod:Mod K mg base
  bs:∀ b o,base.get? b=some o→s.heap.get? b=some o∧H b=none
  bsz:base.objs.size≤s.heap.objs.size
  funs:s.heap.FunFrames base outer
  frf:∀ b∈frs outer,H b=none
  hok:HOk P w H s.heap
  bare:AllBare s.gens
noncomputable def CE (outer:List Env) (P:Program) (w:World) (H:Hp) (s:Shared) (Q:VK) (u:Value) (s':Shared):Prop :=
  ∃ v H',s'.os=s.os∧AllBare s'.gens∧Un (frs outer) [] H H' s.heap s'.heap∧HOk P w H' s'.heap∧RelV v u∧Q v H'
noncomputable def CR (CX:CXT) (outer:List Env) (P:Program) (w:World) (H:Hp) (s:Shared) (Q:VK) (E:XK) (r:Result) (s':Shared):Prop :=
  match r with
  | .ok (.ret u)=>CE outer P w H s Q u s'
  | .ok _=>False
  | .error e=>CX outer H s E e s'
structure FnOk (P:Program) (w:World) (K:PySem.W.Frag) (mg:Str→Option Value) (base:Heap) (CX:CXT) (k:Nat) (f:Addr) (fd:FuncData) (ps:List Str) (sp:Sp):Prop where
  len:∀ vs H Q E,sp vs H Q E→vs.length=ps.length
  run:∀(A:Around) (outer:List Env) (s:Shared) (H:Hp) (args:Args) (us:List Value) (vs:List V) (Q:VK) (E:XK),Room k A→Env0 P w K mg base A outer s H→BindsTo s fd args (ps.zip us)→Vals vs us→sp vs H Q E→
    codeAny (model P w) A (.call (.ref f) args) (CR CX outer P w H s Q E) s
section
variable {X:Cx} {pins:List (Addr×Obj)} {σ:St} {H:Hp} {s s':Shared}
theorem Inv.env0 (I:Inv X pins σ H s):Env0 X.prog X.w X.K X.mg X.base X.A X.stack s H :=
  ⟨I.ok.frames,I.ok.mod,I.bs,Nat.le_trans I.ok.bsz I.sz,I.stack,I.stkFree,I.hok,I.bare⟩
theorem Inv.after {Q:VK} {u:Value} (I:Inv X pins σ H s) (h:CE X.stack X.prog X.w H s Q u s'):EP X pins σ Q u s':=by
  obtain ⟨v,H',os,bare,un,hok,r,q⟩:=h
  obtain ⟨hh,g,d,t,os'⟩:=s'
  obtain rfl:os'=s.os:=os
  exact ⟨v,H',I.call (h':=hh) (g':=g) (d':=d) (t':=t) (ch:=[]) un hok bare (fun b z=>absurd z (by simp)),r,q⟩
end
noncomputable def tCall (sp:Sp) (dvs:List V) (E:XK) (t:TA):TE:=fun σ H Q=>t σ H fun vs H1=>sp (vs++dvs) H1 Q E
noncomputable def Binds (K:PySem.W.Frag) (fd:FuncData) (ps:List Str) (ds:List Value):Prop :=
  ∀(s:Shared) (us:List Value),K.In s.heap→(us++ds).length=ps.length→BindsTo s fd ⟨us,[]⟩ (ps.zip (us++ds))
theorem Binds.all {K:PySem.W.Frag} {fd:FuncData} {ps:List Str} (h:∀ us:List Value,us.length=ps.length→bindArgs fd ⟨us,[]⟩=pure (ps.zip us)):Binds K fd ps []:=fun s us _ hl=>by
  rw [List.append_nil] at hl ⊢
  exact .of_eq (h us hl)
noncomputable def Passes (CX:CXT) (X:Cx) (E:XK):Prop:=∀(pins:List (Addr×Obj)) (σ:St) (H:Hp) (s:Shared) (e:Value) (s':Shared),Inv X pins σ H s→CX X.stack H s E e s'→X.xe e s'
section
variable {X:Cx} {CX:CXT} {k:Nat} {f C:Addr} {fd:FuncData} {ps:List Str} {sp:Sp} {dvs:List V} {ds:List Value} {E:XK} {x m:Str} {p pos apos:Pos} {e o:Expr} {es:List Expr} {ta:TE} {t:TA}
theorem run_fn {pins:List (Addr×Obj)} {σ:St} {H:Hp} {s:Shared} {Q:VK} {us:List Value} {vs:List V} (F:FnOk X.prog X.w X.K X.mg X.base CX k f fd ps sp) (hr:Room k X.A) (hb:Binds X.K fd ps ds) (hd:Vals dvs ds) (hx:Passes CX X E)
    (I:Inv X pins σ H s) (r:Vals vs us) (h:sp (vs++dvs) H Q E):wpAny (model X.prog X.w) X.A (call (.ref f) us) (EP X pins σ Q) X.xe s:=by
  have r2:Vals (vs++dvs) (us++ds):=r.append hd
  have hl:(us++ds).length=ps.length:=by rw [← r2.length];exact F.len _ _ _ _ h
  refine wpAny_call (codeAny_mono (F.run X.A X.stack s H ⟨us,[]⟩ (us++ds) (vs++dvs) Q E hr I.env0 (hb s us I.kIn hl) r2 h) fun r s' hq=>?_)
  cases r with
  | error e=>exact hx pins σ H s e s' I hq
  | ok fl =>
    cases fl with
    | ret u=>exact I.after hq
    | next=>exact False.elim hq
    | brk=>exact False.elim hq
    | cont=>exact False.elim hq
theorem pe_call (F:FnOk X.prog X.w X.K X.mg X.base CX k f fd ps sp) (hr:Room k X.A) (hg:Gl X x) (hm:X.mg x=some (.ref f)) (hk:PySem.W.keepIn X.K (.ref f)=true) (hb:Binds X.K fd ps ds) (hd:Vals dvs ds) (hx:Passes CX X E)
    (ha:PA X (e::es) t) (hdb:(x == ("__debug__":Str))=false:=by decide) (he:starEach (e::es) X.env=(false,eval e X.env)::starEach es X.env:=by rfl) (hpl:(backTo pos (starEach es X.env)).any (·.1)=false:=by rfl) :
    PE X (.Call (.Name x p) (e::es) [] pos) (tCall sp dvs E t):=by
  intro pins s σ H Q I h
  refine wpAny_Call_Name_kw (ld_glob I hg hm ?_ hdb)
  refine PySem.W.callWith_K (h₀:=X.base) I.ok.mod.kin hk (thn (ha pos pins s σ H _ I h) fun us s1 zz=>?_) he hpl
  obtain ⟨vs,H1,I1,r,q⟩:=zz
  refine ⟨I1.kIn,?_⟩
  exact run_fn F hr hb hd hx I1 r q
end
section
variable {X:Cx} {CX:CXT} {k:Nat} {f C:Addr} {fd:FuncData} {ps ks:List Str} {sp:Sp} {E:XK} {x m:Str} {p pos apos kpos:Pos} {e o:Expr} {es:List Expr} {kws:List Keyword} {te ta:TE} {t tk:TA} {nm:Option Str}
variable {g:List Value→List Value→List Value} {gV:List V→List V→List V}
end
structure FnScope (N P:List Str) (sc:Scope):Prop where
  kind:sc.kind=.function
  co:sc.isCoroutine=false
  gen:sc.isGenerator=false
  nd:N.Nodup
  pre:N.take P.length=P
  par:∀ x∈P,sc.names.lookup x=some .local∨sc.names.lookup x=some .cell
  nofree:∀ y∈sc.names,y.2≠.free
theorem bindL_out {kindOf:Str→Option NameKind} {x:Str}:∀{binds:List (Str×Value)} {m:Str→Option Value},(∀ v,(x,v) ∉ binds)→bindL kindOf binds m x=m x
  | [],_,_=>rfl
  | (n,v)::r,m,h=>by
    unfold bindL
    rw [bindL_out fun w hw=>h w (List.mem_cons_of_mem _ hw)]
    split
    · have:x≠n:=by rintro rfl;exact h v List.mem_cons_self
      simp [this]
    · rfl
theorem bindC_out {kindOf:Str→Option NameKind} {x:Str}:∀{binds:List (Str×Value)} {m:Str→Option Value},(∀ v,(x,v) ∉ binds)→bindC kindOf binds m x=m x
  | [],_,_=>rfl
  | (n,v)::r,m,h=>by
    unfold bindC
    rw [bindC_out fun w hw=>h w (List.mem_cons_of_mem _ hw)]
    split
    · rfl
    · have:x≠n:=by rintro rfl;exact h v List.mem_cons_self
      simp [this]
theorem bindL_get {kindOf:Str→Option NameKind} {x:Str} {v:Value}:∀{P:List Str} {vs:List Value} {i:Nat} {m:Str→Option Value},P.Nodup→P[i]?=some x→vs[i]?=some v→kindOf x=some .local→
    bindL kindOf (P.zip vs) m x=some v
  | [],_,_,_,_,h,_,_=>by simp at h
  | _::_,[],_,_,_,_,h,_=>by simp at h
  | p::P,w::vs,0,m,nd,h1,h2,hk=>by
    simp at h1 h2;subst h1;subst h2
    show bindL kindOf ((p,w)::P.zip vs) m p=_
    unfold bindL
    rw [bindL_out fun v hv=>(List.nodup_cons.mp nd).1 (List.of_mem_zip hv).1,if_pos hk]
    simp
  | p::P,w::vs,i+1,m,nd,h1,h2,hk=>by
    show bindL kindOf ((p,w)::P.zip vs) m x=_
    unfold bindL
    exact bindL_get (i:=i) (List.nodup_cons.mp nd).2 (by simpa using h1) (by simpa using h2) hk
theorem bindC_get {kindOf:Str→Option NameKind} {x:Str} {v:Value}:∀{P:List Str} {vs:List Value} {i:Nat} {m:Str→Option Value},P.Nodup→P[i]?=some x→vs[i]?=some v→kindOf x≠some .local→
    bindC kindOf (P.zip vs) m x=some v
  | [],_,_,_,_,h,_,_=>by simp at h
  | _::_,[],_,_,_,_,h,_=>by simp at h
  | p::P,w::vs,0,m,nd,h1,h2,hk=>by
    simp at h1 h2;subst h1;subst h2
    show bindC kindOf ((p,w)::P.zip vs) m p=_
    unfold bindC
    rw [bindC_out fun v hv=>(List.nodup_cons.mp nd).1 (List.of_mem_zip hv).1,if_neg hk]
    simp
  | p::P,w::vs,i+1,m,nd,h1,h2,hk=>by
    show bindC kindOf ((p,w)::P.zip vs) m x=_
    unfold bindC
    exact bindC_get (i:=i) (List.nodup_cons.mp nd).2 (by simpa using h1) (by simpa using h2) hk
noncomputable def start (N:List Str) (vs:List V):St:=vs.map some++List.replicate (N.length - vs.length) none
noncomputable def cxOf (CX:CXT) (P:Program) (w:World) (K:PySem.W.Frag) (mg:Str→Option Value) (base:Heap) (N:List Str) (qual:Str) (scope:Scope) (f:Addr) (cd:Value) (A:Around) (outer:List Env) (s:Shared) (H:Hp) (E:XK):Cx where
  prog:=P
  w:=w
  K:=K
  mg:=mg
  base:=base
  A:=A.deeper (envOfC qual scope s.heap.objs.size f cd)
  N:=N
  s₀:=s
  H₀:=H
  env:=envOfC qual scope s.heap.objs.size f cd
  outer:=outer
  stack:=envOfC qual scope s.heap.objs.size f cd::outer
  ex:=[]
  calm:=true
  fn:=fun _=>true
  pn:=[]
  xe:=fun e s'=>wpAny (model P w) (A.deeper (envOfC qual scope s.heap.objs.size f cd)) (leaving (envOfC qual scope s.heap.objs.size f cd) e) (fun _ s''=>CX outer H s E e s'') (fun e' s''=>CX outer H s E e' s'') s'
theorem cell_has {sc:Scope} {n:Nat} {x:Str} (h:sc.names.lookup x=some .cell):∃ c,(cellsFrom n sc.names []).lookup x=some c:=by
  have q:=PySem.W.cellsFrom_some sc.names n [] (.inl h)
  exact Option.isSome_iff_exists.mp q
theorem inv_start {CX:CXT} {P:Program} {w:World} {K:PySem.W.Frag} {mg:Str→Option Value} {base:Heap} {N ps:List Str} {qual:Str} {scope:Scope} {f:Addr} {cd:Value} {A:Around} {outer:List Env} {s s1:Shared} {H:Hp} {E:XK} {us:List Value} {vs:List V}
    (S:FnScope N ps scope) (hd:A.handled=none) (e0:Env0 P w K mg base A outer s H) (hl:vs.length=ps.length) (r:Vals vs us)
    (x:InCallC s s.heap.objs.size (bindL (envOfC qual scope s.heap.objs.size f cd).kindOf (ps.zip us) fun _=>none) (cellsFrom (s.heap.objs.size+1) scope.names []) (bindC (envOfC qual scope s.heap.objs.size f cd).kindOf (ps.zip us) fun _=>none) s1) :
    Inv (cxOf CX P w K mg base N qual scope f cd A outer s H E) [] (start N vs) H s1:=by
  have hpl:ps.length≤N.length:=by have:=congrArg List.length S.pre;rw [List.length_take] at this;omega
  obtain ⟨h1,tk,rfl,hk⟩:=x.done
  have noA:∀ b:Addr,b ∉ (cxOf CX P w K mg base N qual scope f cd A outer s H E).ex:=fun b z=>absurd (show b∈([]:List Addr) from z) (by simp)
  refine ⟨⟨e0.mod,S.kind,rfl,rfl,Nat.le_refl _,fun y z c h1 h2=>?_,fun y hy=>?_,fun y c _ h=>?_,fun _=>hd,Around.frames_deeper e0.frames,.inr ⟨rfl,rfl⟩,fun b z=>absurd z (noA b),e0.bs,e0.bsz,fun b _ _=>noA b,fun b z=>absurd z (noA b),e0.funs,e0.frf⟩,
    rfl,e0.bare,Un.kept hk,⟨_,x.toInCall.ns,fun i y v h1 h2 h3=>?_⟩,fun y c h=>⟨_,x.cell y c h⟩,e0.hok.fresh (Nat.le_refl _),fun y c h=>?_,fun p hp=>absurd (show p∈([]:List (Addr×Obj)) from hp) (by simp),e0.hok.kept hk,?_⟩
  · exact name_of_addr x.apart (PySem.mem_of_lookup h1) (PySem.mem_of_lookup h2)
  · have hy:scope.names.lookup y=some .cell∨scope.names.lookup y=some .free:=hy
    rcases hy with hy | hy
    · exact cell_has hy
    · exact absurd rfl (S.nofree _ (PySem.mem_of_lookup hy))
  · exact Nat.le_of_lt (x.above y c (PySem.mem_of_lookup h))
  · have hi:i < vs.length:=by
      unfold start at h2
      by_cases hi:i < vs.length
      · exact hi
      · rw [List.getElem?_append_right (by simpa using hi)] at h2
        rw [List.getElem?_replicate] at h2
        split at h2 <;> cases h2
    have ha:vs[i]?=some v:=by
      unfold start at h2
      rw [List.getElem?_append_left (by simpa using hi),List.getElem?_map] at h2
      cases e:vs[i]? with
      | none=>rw [e] at h2;cases h2
      | some a=>rw [e] at h2;cases h2;rfl
    obtain ⟨u,hu,rv⟩:=r.get ha
    have hp:ps[i]?=some y:=by
      rw [← S.pre,List.getElem?_take_of_lt (by omega)];exact h1
    have ndP:ps.Nodup:=by rw [← S.pre];exact S.nd.sublist (List.take_sublist _ _)
    refine ⟨u,rv,?_⟩
    rcases S.par y (List.mem_of_getElem? hp) with k | k
    · exact .inl ⟨k,bindL_get ndP hp hu k⟩
    · obtain ⟨c,e⟩:=cell_has (n:=s.heap.objs.size+1) k
      refine .inr ⟨.inl k,c,e,?_⟩
      have q:=x.cell y c e
      rw [bindC_get ndP hp hu (by show scope.names.lookup y≠_;rw [k];decide)] at q
      exact q
  · exact e0.hok.fresh (Nat.le_of_lt (x.above y c (PySem.mem_of_lookup h)))
  · unfold start
    show _=N.length
    rw [List.length_append,List.length_map,List.length_replicate]
    omega
theorem fn_of {CX:CXT} {P:Program} {w:World} {K:PySem.W.Frag} {mg:Str→Option Value} {base:Heap} {k:Nat} {f:Addr} {name qual:Str} {params:Arguments} {body:List Stmt} {scope:Scope} {dV kV doc pm cdv ct oc:Value} {an od:Option Addr}
    {osl:Array (Option Value)} {N ps:List Str} {sp:Sp} (lk:K.lookup f=some ⟨oc,od,.func (PySem.W.fnOf name qual params body scope dV kV doc pm an cdv ct),osl⟩) (hcd:PySem.W.codeIn K cdv qual=true) (S:FnScope N ps scope)
    (len:∀ vs H Q E,sp vs H Q E→vs.length=ps.length)
    (hbody:∀(A:Around) (outer:List Env) (s:Shared) (H:Hp) (vs:List V) (Q:VK) (E:XK),Room k (A.deeper (envOfC qual scope s.heap.objs.size f cdv))→sp vs H Q E→
      ∃ t,PSs (cxOf CX P w K mg base N qual scope f cdv A outer s H E) body t∧t {nx:=fun _ H'=>Q .non H',rt:=Q} (start N vs) H) :
    FnOk P w K mg base CX (k+1) f (PySem.W.fnOf name qual params body scope dV kV doc pm an cdv ct) ps sp:=by
  refine ⟨len,fun A outer s H args us vs Q E hr e0 hb r hsp=>?_⟩
  have hl:=len _ _ _ _ hsp
  have KX:K.In s.heap:=e0.mod.kin.keeps fun b o e=>(e0.bs b o e).1
  have lim:s.heap.NoLimit:=e0.mod.nolimit.keeps fun b o e=>(e0.bs b o e).1
  have hkind:∀ y∈ps.zip us,scope.names.lookup y.1=some .local∨(scope.names.lookup y.1=some .cell∧((cellsFrom (s.heap.objs.size+1) scope.names []).lookup y.1).isSome=true):=fun ⟨n,v⟩ hy=>by
    rcases S.par n (List.of_mem_zip hy).1 with q | q
    · exact .inl q
    · exact .inr ⟨q,PySem.W.cellsFrom_some _ _ _ (.inl q)⟩
  refine codeAny_call_function hr.depth (KX _ _ lk) rfl S.co S.gen rfl (PySem.W.codeRec_of KX hcd) (hb _ _ _ _ ?_)
  refine wpAny_newFunctionEnv_cells S.kind hkind fun env he s1 x=>?_
  subst he
  refine ⟨lim.keeps x.toInCall.keep,codeAny_func ?_⟩
  obtain ⟨t,ht,hq⟩:=hbody A outer s H vs Q E (hr.deeper _) hsp
  have I:Inv (cxOf CX P w K mg base N qual scope f cdv A outer s H E) [] (start N vs) H s1:=inv_start S hr.hd e0 hl r x
  refine wpAny_mono (ht [] s1 (start N vs) H _ I hq) (fun fl s' hs=>?_) fun e s' hs=>hs
  have fin:∀{σ':St} {H':Hp} {v:V} {u:Value},Inv (cxOf CX P w K mg base N qual scope f cdv A outer s H E) [] σ' H' s'→RelV v u→Q v H'→CE outer P w H s Q u s' :=
    fun {σ' H' v u} J rv q=>⟨v,H',J.os,J.bare,J.base,J.hok,rv,q⟩
  cases fl with
  | ret u =>
    obtain ⟨v,σ',H',J,rv,q⟩:=hs
    exact fin J rv q
  | next =>
    obtain ⟨σ',H',J,q⟩:=hs
    exact fin (v:=V.non) (u:=Value.none) J rfl q
  | brk =>
    obtain ⟨_,_,_,q⟩:=hs
    exact False.elim q
  | cont =>
    obtain ⟨_,_,_,q⟩:=hs
    exact False.elim q
end L2
namespace L2
open PySem PySem.Spec PyProof.Rows
section
variable {X:Cx} {x:Str} {p pos:Pos} {e:Expr} {es:List Expr} {t:TA} {id T:String} {r:List V→Hp→VK→Prop}
noncomputable def tCB (r:List V→Hp→VK→Prop) (t:TA):TE:=fun σ H Q=>t σ H fun vs H1=>r vs H1 Q
theorem pe_callB (hc:CallR X (.builtin id) r) (hg:Gl X x) (hm:X.mg x=none) (hv:bootBuiltins x=some (.builtin id)) (ha:PA X (e::es) t) (hn:x≠"__name__":=by decide) (hdb:(x == ("__debug__":Str))=false:=by decide)
    (he:starEach (e::es) X.env=(false,eval e X.env)::starEach es X.env:=by rfl) (hpl:(backTo pos (starEach es X.env)).any (·.1)=false:=by rfl):PE X (.Call (.Name x p) (e::es) [] pos) (tCB r t):=by
  intro pins s σ H Q I h
  refine wpAny_Call_Name_kw (ld_blt I hg hm hv ?_ hn hdb)
  refine PyProof.Rows.callWith_builtin1 (thn (ha pos pins s σ H _ I h) fun us s1 zz=>?_) he hpl
  obtain ⟨vs,H1,I1,r1,q1⟩:=zz
  exact hc pins s1 σ H1 vs us Q I1 r1 q1
theorem pe_callTy (hc:CallR X (.type T) r) (hg:Gl X x) (hm:X.mg x=none) (hv:bootBuiltins x=some (.type T)) (ha:PA X (e::es) t) (hn:x≠"__name__":=by decide) (hdb:(x == ("__debug__":Str))=false:=by decide)
    (he:starEach (e::es) X.env=(false,eval e X.env)::starEach es X.env:=by rfl) (hpl:(backTo pos (starEach es X.env)).any (·.1)=false:=by rfl):PE X (.Call (.Name x p) (e::es) [] pos) (tCB r t):=by
  intro pins s σ H Q I h
  refine wpAny_Call_Name_kw (ld_blt I hg hm hv ?_ hn hdb)
  refine PyProof.Rows.callWith_type1 (thn (ha pos pins s σ H _ I h) fun us s1 zz=>?_) he hpl
  obtain ⟨vs,H1,I1,r1,q1⟩:=zz
  exact hc pins s1 σ H1 vs us Q I1 r1 q1
end
end L2
namespace HT
open PySem PyProof.Rows
section
open PySem.SeqAt
open PySem.AutoSeq1 (wpAny_loadPart')
open PySem.MeetsSeq PySem.MeetsSeq2 PySem.MeetsSeq3
end
section
variable {prog:Program} {w:World} {A:Around} {E:Value→Shared→Prop} {s:Shared}
theorem cat_tup {t b:Addr} {vs ws:List Value} {Q:Value→Shared→Prop} (ht:IsTup s.heap t vs.toArray) (hb:IsTup s.heap b ws.toArray) (hv:vs≠[])
    (h1:ws=[]→Q (.ref t) s) (h2:ws≠[]→Q (.ref s.heap.objs.size) {s with heap:=s.heap.push {cls:=.type "tuple",data:=.seq (vs++ws).toArray} })
    (hsz:vs.length+ws.length≤sizeLine):wpAny (model prog w) A (binaryOp .Add (.ref t) (.ref b)) Q E s:=by
  obtain ⟨⟨cls,dd,data,sl⟩,ho,hc,n,hd⟩:=id ht
  obtain ⟨⟨cls2,dd2,data2,sl2⟩,ho2,hc2,n2,hd2⟩:=id hb
  simp only at hc hd hc2 hd2
  subst hc hd hc2 hd2
  have e:vs.toArray++ws.toArray=(vs++ws).toArray:=by simp
  by_cases hw:ws=[]
  · exact concat_meets ⟨_,ho,rfl⟩ ⟨_,ho2,rfl⟩ noFill_tuple_add seq_tuple_add PySem.F.slot_tuple_add PySem.F.entry_tuple_add (PySem.F.args_tuple_add_2 _ _)
      (tuple_addW1 t b vs.toArray ws.toArray n n2 dd dd2 sl sl2 (by simpa using hv) (by simp [hw])) ⟨ho,ho2,h1 hw⟩
  · refine concat_meets ⟨_,ho,rfl⟩ ⟨_,ho2,rfl⟩ noFill_tuple_add seq_tuple_add PySem.F.slot_tuple_add PySem.F.entry_tuple_add (PySem.F.args_tuple_add_2 _ _)
      (tuple_addW2 t b vs.toArray ws.toArray n n2 dd dd2 sl sl2 (by simpa using hv) (by simpa using hw) (by rw [List.size_toArray,List.size_toArray];exact hsz)) ⟨ho,ho2,?_⟩
    rw [e]
    exact h2 hw
noncomputable def sIx (n d:Nat):Option Int→Nat
  | none=>d
  | some v=>if v < 0 then (v+(n:Int)).toNat else min v.toNat n
theorem sIx_none (n d:Nat):sIx n d none=d:=rfl
theorem sIx_nat (n d k:Nat):sIx n d (some (k:Int))=min k n:=by
  show (if (k:Int) < 0 then ((k:Int)+(n:Int)).toNat else min (k:Int).toNat n)=min k n
  rw [if_neg (by omega),Int.toNat_natCast]
theorem sIx_le (n d:Nat) (hd:d≤n) (o:Option Int):sIx n d o≤n:=by
  cases o with
  | none=>exact hd
  | some v =>
    show (if v < 0 then (v+(n:Int)).toNat else min v.toNat n)≤n
    by_cases hv:v < 0
    · rw [if_pos hv];omega
    · rw [if_neg hv];exact Nat.min_le_right _ _
theorem clip_eq (v:Int) (n d:Nat):(if v < 0 then max (v+(n:Int)) 0 else min v (n:Int))=((sIx n d (some v):Nat):Int):=by
  show (if v < 0 then max (v+(n:Int)) 0 else min v (n:Int))=(((if v < 0 then (v+(n:Int)).toNat else min v.toNat n):Nat):Int)
  by_cases hv:v < 0
  · simp only [if_pos hv];omega
  · simp only [if_neg hv];omega
theorem adjust_gen (lo hi:Option Int) (n:Nat):Builtin.Slice.sliceAdjust lo hi 1 (n:Int)=(((sIx n 0 lo:Nat):Int),((sIx n n hi:Nat):Int)):=by
  have h1:¬ ((1:Int) < 0):=by omega
  unfold Builtin.Slice.sliceAdjust
  simp only [h1,if_false]
  refine Prod.ext ?_ ?_
  · cases lo with
    | none=>rfl
    | some v=>exact clip_eq v n 0
  · cases hi with
    | none=>rfl
    | some v=>exact clip_eq v n n
theorem places_gen (i j:Nat):Builtin.Slice.slicePlaces (i:Int) (j:Int) 1=j - i:=by
  unfold Builtin.Slice.slicePlaces
  have h1:(1:Int) > 0:=by omega
  simp only [h1,if_true,Int.ediv_one]
  split <;> omega
theorem slicePart_ {v:Value} {o:Option Int} {Q:Option Int→Shared→Prop} (p:IsPart v o) (h:Q o s):wpAny (model prog w) A (Builtin.Slice.slicePartIndex v) Q E s:=by
  cases p with
  | none=>exact slicePart_none h
  | int i t=>exact slicePart_int h
theorem sliceApplied_gen {sl:Addr} {vl vu:Value} {lo hi:Option Int} {n:Nat} {Q:Int×Int×Nat→Shared→Prop} (hs:s.heap.IsSliceOf sl vl vu .none) (pl:IsPart vl lo) (pu:IsPart vu hi)
    (h:Q (((sIx n 0 lo:Nat):Int),1,sIx n n hi - sIx n 0 lo) s):wpAny (model prog w) A (Builtin.Slice.sliceApplied (.ref sl) (pure (n:Int))) Q E s:=by
  obtain ⟨os,hos,hcs,hds⟩:=id hs
  unfold Builtin.Slice.sliceApplied Builtin.Slice.sliceFields
  refine wpAny_bind (wpAny_bind (wpAny_field hos hds (x:=vl) rfl (wpAny_bind (wpAny_field hos hds (x:=vu) rfl (wpAny_bind (wpAny_field hos hds (x:=.none) rfl (wpAny_pure ?_)))))))
  refine wpAny_bind (slicePart_none ?_)
  show wpAny _ _ (if ((1:Int) == 0)=true then _ else _) _ _ s
  rw [if_neg (by decide)]
  refine wpAny_bind (slicePart_ pl (wpAny_bind (slicePart_ pu (wpAny_bind (wpAny_pure ?_)))))
  show wpAny _ _ (match Builtin.Slice.sliceAdjust lo hi 1 (n:Int) with | (lo,hi)=>pure (lo,(1:Int),Builtin.Slice.slicePlaces lo hi 1)) _ _ s
  rw [adjust_gen lo hi n]
  show wpAny _ _ (pure (((sIx n 0 lo:Nat):Int),(1:Int),Builtin.Slice.slicePlaces ((sIx n 0 lo:Nat):Int) ((sIx n n hi:Nat):Int) 1)) _ _ s
  rw [places_gen]
  exact wpAny_pure h
theorem pick_gen (xs:Array Value) (i k:Nat):((List.range k).filterMap fun (m:Nat)=>xs[((i:Int)+(m:Int)*1).toNat]?).toArray=((xs.toList.drop i).take k).toArray:=by
  have e:(fun (m:Nat)=>xs[((i:Int)+(m:Int)*1).toNat]?)=fun m=>xs[i+m]?:=by
    funext m
    have:((i:Int)+(m:Int)*1).toNat=i+m:=by omega
    rw [this]
  rw [e]
  have:=pick_run xs i k
  rw [List.filterMap_map] at this
  have e2:((fun x=>xs[x]?) ∘ fun x=>i+x)=fun m=>xs[i+m]?:=rfl
  rw [e2] at this
  rw [this]
theorem getItem_tuple_cut {t sl:Addr} {items:Array Value} {vl vu:Value} {lo hi:Option Int} {Q:Value→Shared→Prop} (ht:IsTup s.heap t items) (hs:s.heap.IsSliceOf sl vl vu .none) (pl:IsPart vl lo) (pu:IsPart vu hi)
    (hw:¬ (sIx items.size 0 lo=0∧sIx items.size items.size hi=items.size))
    (h:Q (.ref s.heap.objs.size) {s with heap:=s.heap.push {cls:=.type "tuple",data:=.seq ((items.toList.drop (sIx items.size 0 lo)).take (sIx items.size items.size hi - sIx items.size 0 lo)).toArray} })
    (hsz:items.size≤sizeLine):wpAny (model prog w) A (getItem (.ref t) (.ref sl)) Q E s:=by
  have htake:sizeOk (.seq ((items.toList.drop (sIx items.size 0 lo)).take (sIx items.size items.size hi - sIx items.size 0 lo)).toArray):=by
    show ((items.toList.drop (sIx items.size 0 lo)).take (sIx items.size items.size hi - sIx items.size 0 lo)).toArray.size≤sizeLine
    rw [List.size_toArray,List.length_take,List.length_drop,Array.length_toList]
    omega
  have hj:sIx items.size items.size hi≤items.size:=sIx_le _ _ (Nat.le_refl _) hi
  obtain ⟨os,hos,hcs,hds⟩:=id hs
  have hTs:s.TypeIs (.ref sl) "slice":=⟨os,hos,hcs⟩
  unfold getItem
  try with_reducible refine wpAny_holding ?_
  first | refine wpAny_bind (wpAny_pure ?_) | skip
  refine wpAny_bind (wpAny_sequenceKey ht.typeIs (by decide) ?_)
  refine wpAny_bind (wpAny_callSpecial?_slot (name:=Str.ofString "__getitem__") ht.typeIs PyProof.Rows.slot_tuple_getitem
    (wpAny_call_entry PyProof.Rows.slot_tuple_getitem ht.typeIs entry_tuple_getitem ?_ (args_tuple_getitem _ _)))
  show wpAny _ _ (Builtin.Tuple.tupleItemsOf (.ref t) >>= _) _ _ s
  refine wpAny_bind (tupleItemsOf_ ht ?_)
  refine wpAny_bind (wpAny_typeOf hTs ?_)
  rw [if_pos (by decide)]
  refine wpAny_bind (sliceApplied_gen hs pl pu ?_)
  have hno:¬ ((((sIx items.size 0 lo:Nat):Int) == 0 && (1:Int) == 1 && (sIx items.size items.size hi - sIx items.size 0 lo) == items.size)=true):=by
    intro q
    rw [Bool.and_eq_true,Bool.and_eq_true] at q
    have q1:((sIx items.size 0 lo:Nat):Int)=0:=eq_of_beq q.1.1
    have q2:sIx items.size items.size hi - sIx items.size 0 lo=items.size:=eq_of_beq q.2
    exact hw ⟨by omega,by omega⟩
  show wpAny _ _ (if (((sIx items.size 0 lo:Nat):Int) == 0 && (1:Int) == 1 && (sIx items.size items.size hi - sIx items.size 0 lo) == items.size)=true then _ else _) _ _ s
  rw [if_neg hno,pick_gen]
  first
    | exact wpAny_bind (m:=Builtin.Tuple.tupleExact _) (wpAny_newObj_type (wpAny_pure ⟨_,rfl,wpAny_pure h⟩) htake)
    | exact wpAny_bind (m:=Builtin.Tuple.tupleExact _) (wpAny_newObj_type (wpAny_bind (wpAny_pure (wpAny_pure ⟨_,rfl,wpAny_pure h⟩))) htake)
    | exact wpAny_bind (wpAny_bind (m:=Builtin.Tuple.tupleExact _) (wpAny_newObj_type (wpAny_pure (wpAny_pure ⟨_,rfl,wpAny_pure h⟩)) htake))
    | exact wpAny_bind (wpAny_bind (m:=Builtin.Tuple.tupleExact _) (wpAny_newObj_type (wpAny_pure ⟨_,rfl,wpAny_pure h⟩) htake))
end
end HT
namespace L2
open PySem PySem.Spec PyProof.Rows
noncomputable abbrev TO:=St→Hp→(Option Int→Hp→Prop)→Prop
noncomputable def PO (X:Cx) (e:Option Expr) (t:TO):Prop :=
  ∀(pins:List (Addr×Obj)) (s:Shared) (σ:St) (H:Hp) (Q:Option Int→Hp→Prop),Inv X pins σ H s→t σ H Q→
    wpAny (model X.prog X.w) X.A (evalPart e X.env) (fun u s'=>∃ o H',Inv X pins σ H' s'∧IsPart u o∧Q o H') X.xe s
noncomputable def tNoPart:TO:=fun _ H Q=>Q none H
noncomputable def tPart (t:TE):TO:=fun σ H Q=>t σ H fun x H1=>∃ i,x=.int i∧Q (some i) H1
theorem intsAre_of {ns:List Int}:∀{us:List Value},Vals (ns.map V.int) us→IntsAre us ns:=by
  induction ns with
  | nil=>intro us r;rw [List.map_nil] at r;cases r;exact .nil
  | cons n ns ih =>
    intro us r
    rw [List.map_cons] at r
    cases r with
    | cons r1 r2 =>
      obtain ⟨t,e⟩:=r1
      subst e
      exact .cons n t (ih r2)
section
variable {X:Cx} {e:Expr} {te:TE} {lo hi:Option Expr} {tl th:TO} {pos p2:Pos}
theorem po_none:PO X none tNoPart:=by
  intro pins s σ H Q I h
  rw [evalPart_none]
  exact wpAny_pure ⟨none,H,I,.none,h⟩
theorem po_some (h:PE X e te):PO X (some e) (tPart te):=by
  intro pins s σ H Q I hw
  rw [evalPart_some]
  refine thn (h pins s σ H _ I hw) fun u s1 zz=>?_
  obtain ⟨x,H1,I1,r1,q1⟩:=zz
  obtain ⟨i,rfl,q⟩:=q1
  obtain ⟨t,rfl⟩:=r1
  exact ⟨some i,H1,I1,.int i t,q⟩
noncomputable def SlR (X:Cx) (r:V→Option Int→Option Int→Hp→VK→Prop):Prop :=
  ∀(pins:List (Addr×Obj)) (s:Shared) (σ:St) (H:Hp) (x:V) (v vl vu:Value) (lo hi:Option Int) (sl:Addr) (Q:VK),Inv X pins σ H s→RelV x v→s.heap.IsSliceOf sl vl vu .none→IsPart vl lo→IsPart vu hi→r x lo hi H Q→
    ∃ T id,typeLookup (.type T) "__getitem__"=pure (some (.builtin id))∧s.TypeIs v T∧wpAny (model X.prog X.w) X.A (getItem v (.ref sl)) (EP X pins σ Q) X.xe s
noncomputable def tSl (r:V→Option Int→Option Int→Hp→VK→Prop) (te:TE) (tl th:TO):TE:=fun σ H Q=>te σ H fun x H1=>tl σ H1 fun l H2=>th σ H2 fun u H3=>r x l u H3 Q
theorem pe_slice {r:V→Option Int→Option Int→Hp→VK→Prop} (hr:SlR X r) (he:PE X e te) (hl:PO X lo tl) (hu:PO X hi th):PE X (.Subscript e (.Slice lo hi none p2) pos) (tSl r te tl th):=by
  intro pins s σ H Q I h
  refine Subscript_ (thn (he pins s σ H _ I h) fun v s1 zz=>?_)
  obtain ⟨x,H1,I1,r1,q1⟩:=zz
  refine wpAny_Slice (thn (hl pins s1 σ H1 _ I1 q1) fun vl s2 zz=>?_)
  obtain ⟨l,H2,I2,pl,q2⟩:=zz
  refine thn (hu pins s2 σ H2 _ I2 q2) fun vu s3 zz=>?_
  obtain ⟨u,H3,I3,pu,q3⟩:=zz
  rw [evalPart_none]
  refine wpAny_pure ?_
  have I4:Inv X pins σ H3 {s3 with heap:=s3.heap.push {cls:=.type "slice",data:=.fields #[vl,vu,.none] } }:=I3.kept (t':=s3.toks) fun b ob q=>Heap.get?_push_of_some _ q
  obtain ⟨T,id,hT,ht,hg⟩:=hr pins {s3 with heap:=s3.heap.push {cls:=.type "slice",data:=.fields #[vl,vu,.none] } } σ H3 x v vl vu l u s3.heap.objs.size Q I4 r1 (Heap.IsSliceOf.new ..) pl pu q3
  show wpAny (model X.prog X.w) X.A (subscriptTail e (.Slice lo hi none p2) v (.ref s3.heap.objs.size)) (EP X pins σ Q) X.xe {s3 with heap:=s3.heap.push {cls:=.type "slice",data:=.fields #[vl,vu,.none] } }
  exact tail_any (ops:=[.ref s3.heap.objs.size,v]) ht hT hg (by with_unfolding_all rfl)
noncomputable def cutV (xs:List V) (lo hi:Option Int):List V:=(xs.drop (HT.sIx xs.length 0 lo)).take (HT.sIx xs.length xs.length hi - HT.sIx xs.length 0 lo)
theorem cutV_length (xs:List V) (lo hi:Option Int):(cutV xs lo hi).length≤xs.length:=by
  unfold cutV
  rw [List.length_take,List.length_drop]
  omega
noncomputable def rSlT (K:PySem.W.Frag):V→Option Int→Option Int→Hp→VK→Prop:=fun x lo hi H Q=>∃ a xs,x=.ref a∧SqT K H a xs∧
  ¬ (HT.sIx xs.length 0 lo=0∧HT.sIx xs.length xs.length hi=xs.length)∧∀ p,H p=none→Q (.ref p) (upd H p (.tup (cutV xs lo hi)))
theorem sl_tup:SlR X (rSlT X.K):=by
  intro pins s σ H x v vl vu lo hi sl Q I rx hs pl pu h
  obtain ⟨a,xs,rfl,hx,hw,q⟩:=h
  cases rx
  obtain ⟨its,r,ht,hz⟩:=I.tuple hx
  have hlen:its.toArray.size=xs.length:=by rw [List.size_toArray];exact r.length.symm
  refine ⟨"tuple",_,PyProof.Rows.slot_tuple_getitem.lookup,ht.typeIs,?_⟩
  refine HT.getItem_tuple_cut ht hs pl pu (by rw [hlen];exact hw) ?_ (by rw [hlen];exact hz)
  rw [hlen]
  refine ⟨.ref s.heap.objs.size,_,I.laid (t':=s.toks) (o:=.tup (cutV xs lo hi)) (fun b ob q=>Heap.get?_push_of_some _ q) (Nat.le_refl _) ?_,rfl,q _ (I.hok.fresh (Nat.le_refl _))⟩
  exact ⟨Nat.le_trans (cutV_length xs lo hi) hz,_,(r.drop (HT.sIx xs.length 0 lo)).take (HT.sIx xs.length xs.length hi - HT.sIx xs.length 0 lo),IsTup.new _ _⟩
noncomputable def rCatT (K:PySem.W.Frag):R2:=fun x y H Q=>∃ a b xs ys,x=.ref a∧y=.ref b∧SqT K H a xs∧SqT K H b ys∧xs≠[]∧xs.length+ys.length≤sizeLine∧
  (ys=[]→Q (.ref a) H)∧(ys≠[]→∀ p,H p=none→Q (.ref p) (upd H p (.tup (xs++ys))))
theorem Vals.nil_iff {xs:List V} {us:List Value} (r:Vals xs us):us=[]↔xs=[]:=by
  cases r with
  | nil=>simp
  | cons _ _=>simp
theorem op_catT:OpR X (binaryOp .Add) (rCatT X.K):=by
  intro pins s σ H x y v u Q I rx ry h
  obtain ⟨a,b,xs,ys,rfl,rfl,ha,hb,hx,hz,q1,q2⟩:=h
  cases rx
  cases ry
  obtain ⟨its,r1,p1,_⟩:=I.tuple ha
  obtain ⟨its2,r2,p2,_⟩:=I.tuple hb
  refine HT.cat_tup p1 p2 (fun z=>hx (r1.nil_iff.mp z)) (fun z=>⟨.ref a,H,I,rfl,q1 (r2.nil_iff.mp z)⟩) (fun z=>?_) (by rw [← r1.length,← r2.length];exact hz)
  refine ⟨.ref s.heap.objs.size,_,I.laid (t':=s.toks) (o:=.tup (xs++ys)) (fun b ob q=>Heap.get?_push_of_some _ q) (Nat.le_refl _) ?_,rfl,q2 (fun w=>z (r2.nil_iff.mpr w)) _ (I.hok.fresh (Nat.le_refl _))⟩
  exact ⟨by rw [List.length_append];exact hz,_,r1.append r2,IsTup.new _ _⟩
end
end L2
namespace L2
open PySem PySem.Spec PyProof.Rows
noncomputable def ixN (n:Nat) (i:Int):Option Nat:=if 0≤i then (if i < n then some i.toNat else none) else if -(n:Int)≤i then some (i+n).toNat else none
noncomputable def atI {α:Type} (xs:List α) (i:Int):Option α:=(ixN xs.length i).bind fun j=>xs[j]?
theorem ixN_seq {n:Nat} {i:Int} {j:Nat} (h:ixN n i=some j):seqIndex? i n=some j∧j < n∧-(n:Int)≤i∧i < n:=by
  unfold ixN at h
  by_cases h0:0≤i
  · rw [if_pos h0] at h
    by_cases h1:i < n
    · rw [if_pos h1] at h
      have e:i.toNat=j:=Option.some.inj h
      exact ⟨by rw [seqIndex_of h0 h1,e],by omega,by omega,h1⟩
    · rw [if_neg h1] at h;cases h
  · rw [if_neg h0] at h
    by_cases h1:-(n:Int)≤i
    · rw [if_pos h1] at h
      have e:(i+n).toNat=j:=Option.some.inj h
      exact ⟨by rw [seqIndex_neg (by omega) h1,e],by omega,h1,by omega⟩
    · rw [if_neg h1] at h;cases h
theorem atI_get {α:Type} {xs:List α} {i:Int} {v:α} (h:atI xs i=some v):∃ j,seqIndex? i xs.length=some j∧xs[j]?=some v∧j < xs.length∧-(xs.length:Int)≤i∧i < xs.length:=by
  unfold atI at h
  cases e:ixN xs.length i with
  | none=>rw [e] at h;cases h
  | some j =>
    rw [e] at h
    obtain ⟨h1,h2,h3,h4⟩:=ixN_seq e
    exact ⟨j,h1,h,h2,h3,h4⟩
theorem atI_nat {α:Type} {xs:List α} {j:Nat} {v:α} (h:xs[j]?=some v):atI xs (j:Int)=some v:=by
  have hj:j < xs.length:=(List.getElem?_eq_some_iff.mp h).1
  have e:ixN xs.length (j:Int)=some j:=by
    unfold ixN
    rw [if_pos (by omega),if_pos (by omega)];simp
  unfold atI;rw [e];exact h
noncomputable def PlainIx (b:Expr):Prop:=∀ o i,subscripted b false o i=operate [o,i] (getItem o i)
noncomputable def IxR (X:Cx) (r:R2):Prop :=
  ∀(value slice:Expr) (pins:List (Addr×Obj)) (s:Shared) (σ:St) (H:Hp) (x y:V) (v u:Value) (Q:VK),Inv X pins σ H s→RelV x v→RelV y u→r x y H Q→
    subscripted slice false v u=operate [v,u] (getItem v u)→wpAny (model X.prog X.w) X.A (subscriptTail value slice v u) (EP X pins σ Q) X.xe s
noncomputable def MtR (X:Cx) (id:String) (r:V→List V→Hp→VK→Prop):Prop :=
  ∀(pins:List (Addr×Obj)) (s:Shared) (σ:St) (H:Hp) (x:V) (xs:List V) (v:Value) (us:List Value) (Q:VK),Inv X pins σ H s→RelV x v→Vals xs us→r x xs H Q→
    wpAny (model X.prog X.w) X.A (call (.builtin id) (v::us)) (EP X pins σ Q) X.xe s
section
variable {X:Cx} {a b:Expr} {ta tb:TE} {pos:Pos}
theorem pe_ix {r:R2} (hr:IxR X r) (ha:PE X a ta) (hb:PE X b tb) (hs:PlainIx b):PE X (.Subscript a b pos) (tOp r ta tb):=by
  intro pins s σ H Q I h
  exact Subscript_ (binT ha hb I h fun v u s2 x y H2 I2 rx ry q=>hr a b pins s2 σ H2 x y v u Q I2 rx ry q (hs _ _))
noncomputable def rIxL (K:PySem.W.Frag):R2:=fun x y H Q=>∃ p xs i v,x=.ref p∧y=.int i∧SqL K H p xs∧atI xs i=some v∧Q v H
noncomputable def rIxT (K:PySem.W.Frag):R2:=fun x y H Q=>∃ p xs i v,x=.ref p∧y=.int i∧SqT K H p xs∧atI xs i=some v∧Q v H
theorem ix_list:IxR X (rIxL X.K):=by
  intro value slice pins s σ H x y v u Q I rx ry h hs
  obtain ⟨p,xs,i,z,rfl,rfl,hq,he,q⟩:=h
  cases rx
  obtain ⟨t,rfl⟩:=ry
  obtain ⟨its,r,pl,hz⟩:=I.list hq
  obtain ⟨j,h1,h2,h3,h4,h5⟩:=atI_get he
  obtain ⟨w,ew,rw'⟩:=r.get h2
  have hl:=r.length
  have hn:=line63
  have fin:EP X pins σ Q w s:=⟨z,H,I,rw',q⟩
  by_cases h0:0≤i
  · have hj:i.toNat=j:=by
      rw [seqIndex_of h0 h5] at h1
      exact Option.some.inj h1
    exact item_listR pl.isList h0 (by omega) (by rw [hj];simpa using ew) fin hs
  · have hj:(i+(its.toArray.size:Int)).toNat=j:=by
      rw [seqIndex_neg (by omega) h4] at h1
      rw [List.size_toArray,← hl]
      exact Option.some.inj h1
    exact subscriptTail_builtinR (x:=w) pl.isList.typeIs slot_list_getitem.lookup
      (wpAny_getItem_list_neg (Q:=fun r s'=>r=w∧EP X pins σ Q r s') pl.isList (by omega) (by rw [List.size_toArray] <;> omega) (by omega) (by rw [hj];simpa using ew) ⟨rfl,fin⟩) hs
theorem ix_tup:IxR X (rIxT X.K):=by
  intro value slice pins s σ H x y v u Q I rx ry h hs
  obtain ⟨p,xs,i,z,rfl,rfl,hq,he,q⟩:=h
  cases rx
  obtain ⟨t,rfl⟩:=ry
  obtain ⟨its,r,pl,hz⟩:=I.tuple hq
  obtain ⟨j,h1,h2,h3,h4,h5⟩:=atI_get he
  obtain ⟨w,ew,rw'⟩:=r.get h2
  have hl:=r.length
  have hn:=line63
  have fin:EP X pins σ Q w s:=⟨z,H,I,rw',q⟩
  exact subscriptTail_builtinR (x:=w) pl.typeIs slot_tuple_getitem.lookup
    (getItem_tuple (j:=j) (Q:=fun r s'=>r=w∧EP X pins σ Q r s') pl (by omega) (by omega) (by rw [List.size_toArray,← hl];exact h1) (by simpa using ew) ⟨rfl,fin⟩) hs
theorem mapSeq_set (its:List Value) (n j:Nat) (u:Value):Obj.mapSeq (·.setIfInBounds j u) {cls:=.type "list",data:=.seq its.toArray n}={cls:=.type "list",data:=.seq (its.set j u).toArray n}:=by
  simp [Obj.mapSeq]
theorem Inv.lst {pins:List (Addr×Obj)} {σ:St} {H:Hp} {s:Shared} {p:Addr} {xs:List V} (I:Inv X pins σ H s) (h:H p=some (.lst xs)) :
    ∃(its:List Value) (n:Nat),Vals xs its∧s.heap.get? p=some {cls:=.type "list",data:=.seq its.toArray n}∧xs.length≤sizeLine:=by
  obtain ⟨z,its,n,r,e⟩:=I.hok p _ h
  exact ⟨its,n,r,e,z⟩
theorem Inv.lstUpd {pins:List (Addr×Obj)} {σ:St} {H:Hp} {s:Shared} {p:Addr} {xs ys:List V} {its its':List Value} {n n':Nat} {f:Obj→Obj} (I:Inv X pins σ H s) (h:H p=some (.lst xs))
    (ho:s.heap.get? p=some {cls:=.type "list",data:=.seq its.toArray n}) (hf:f {cls:=.type "list",data:=.seq its.toArray n}={cls:=.type "list",data:=.seq its'.toArray n' }) (r:Vals ys its') (hz:ys.length≤sizeLine) (t:Nat) :
    Inv X pins σ (upd H p (.lst ys)) {s with heap:=s.heap.update p f,toks:=t}:=by
  have e:(s.heap.update p f).get? p=some {cls:=.type "list",data:=.seq its'.toArray n' }:=by
    rw [Heap.get?_update_self f ho (by rw [hf] <;> rfl),hf]
  refine I.write (x:=p) (e:=p) (by rw [h];trivial) (.inl rfl) (fun b u hb q=>(Heap.get?_update_other _ _ (Ne.symm hb)).trans q) ⟨_,e⟩ ?_
  exact ⟨hz,its',n',r,e⟩
noncomputable def rSetL:V→V→V→Hp→(Hp→Prop)→Prop:=fun o i v H Q=>∃ p xs k j,o=.ref p∧i=.int k∧H p=some (.lst xs)∧ixN xs.length k=some j∧Q (upd H p (.lst (xs.set j v)))
theorem set_list:PSet X rSetL:=by
  intro pins s σ H o i v ov iv u Q I ro ri rv h
  obtain ⟨p,xs,k,j,rfl,rfl,hp,hj,q⟩:=h
  cases ro
  obtain ⟨t,rfl⟩:=ri
  obtain ⟨its,n,r,ho,hz⟩:=I.lst hp
  obtain ⟨h1,h2,h3,h4⟩:=ixN_seq hj
  have hl:=r.length
  have hn:=line63
  have I':Inv X pins σ (upd H p (.lst (xs.set j v))) {s with heap:=s.heap.update p (Obj.mapSeq (·.setIfInBounds j u)) } :=
    I.lstUpd hp ho (mapSeq_set its n j u) (r.set rv j) (by rw [List.length_set];exact hz) s.toks
  by_cases h0:0≤k
  · have hk:k.toNat=j:=by
      rw [seqIndex_of h0 h4] at h1
      exact Option.some.inj h1
    exact PySem.W.ki_setAt ho h0 (by omega) (by rw [List.size_toArray,← hl];exact h4) (by rw [hk];exact ⟨_,I',q⟩)
  · have hk:(k+(its.toArray.size:Int)).toNat=j:=by
      rw [seqIndex_neg (by omega) h3] at h1
      rw [List.size_toArray,← hl]
      exact Option.some.inj h1
    exact PySem.W.ki_setBack ho (by omega) (by rw [List.size_toArray,← hl];exact h3) (by omega) (by rw [hk];exact ⟨_,I',q⟩)
theorem slice_bounds (lo hi:Option Int) (n:Nat):(sliceBounds lo hi none n).1=((HT.sIx n 0 lo:Nat):Int)∧(sliceBounds lo hi none n).2.1=((HT.sIx n n hi:Nat):Int)∧(sliceBounds lo hi none n).2.2=1:=by
  refine ⟨?_,?_,rfl⟩
  · cases lo with
    | none=>simp [sliceBounds,HT.sIx]
    | some i =>
      simp only [sliceBounds,HT.sIx,Option.getD_none,show (1:Int) > 0 by decide,if_true]
      by_cases h:i < 0
      · simp only [h,if_true] <;> omega
      · simp only [h,if_false] <;> omega
  · cases hi with
    | none=>simp [sliceBounds,HT.sIx]
    | some i =>
      simp only [sliceBounds,HT.sIx,Option.getD_none,show (1:Int) > 0 by decide,if_true]
      by_cases h:i < 0
      · simp only [h,if_true] <;> omega
      · simp only [h,if_false] <;> omega
theorem slicePick_cut (its:List Value) (lo hi:Option Int):slicePick its.toArray lo hi none=((its.drop (HT.sIx its.length 0 lo)).take (HT.sIx its.length its.length hi - HT.sIx its.length 0 lo)).toArray:=by
  obtain ⟨h1,h2,h3⟩:=slice_bounds lo hi its.toArray.size
  unfold slicePick
  rw [h1,h2,h3]
  simp only [sliceRange_one,pick_run,List.size_toArray] <;> rfl
noncomputable def rSlL (K:PySem.W.Frag):V→Option Int→Option Int→Hp→VK→Prop:=fun x lo hi H Q=>∃ a xs,x=.ref a∧SqL K H a xs∧∀ p,H p=none→Q (.ref p) (upd H p (.lst (cutV xs lo hi)))
theorem sl_list:SlR X (rSlL X.K):=by
  intro pins s σ H x v vl vu lo hi sl Q I rx hs pl pu h
  obtain ⟨a,xs,rfl,hx,q⟩:=h
  cases rx
  obtain ⟨its,r,ht,hz⟩:=I.list hx
  have hlen:=r.length
  refine ⟨"list",_,slot_list_getitem.lookup,ht.isList.typeIs,?_⟩
  refine wpAny_getItem_list_slice ht.isList hs pl pu .none (by simp) ?_ (by rw [List.size_toArray] <;> omega)
  rw [slicePick_cut,← hlen]
  refine ⟨.ref s.heap.objs.size,_,I.laid (t':=s.toks) (o:=.lst (cutV xs lo hi)) (fun b ob q=>Heap.get?_push_of_some _ q) (Nat.le_refl _) ?_,rfl,q _ (I.hok.fresh (Nat.le_refl _))⟩
  exact ⟨Nat.le_trans (cutV_length xs lo hi) hz,_,0,(r.drop (HT.sIx xs.length 0 lo)).take (HT.sIx xs.length xs.length hi - HT.sIx xs.length 0 lo),Heap.get?_push_size _ rfl⟩
noncomputable def flatV:V→Bool
  | .non=>true
  | .bl _=>true
  | .int _=>true
  | .str _=>true
  | _=>false
noncomputable def eqV:V→V→Bool
  | .non,.non=>true
  | .bl a,.bl b=>a == b
  | .bl a,.int b=>(if a then 1 else 0) == b
  | .int a,.bl b=>a == (if b then 1 else 0)
  | .int a,.int b=>a == b
  | .str a,.str b=>a == b
  | _,_=>false
theorem eqAt_V {A:Around} {s:Shared} {y x:V} {u v:Value} (ry:RelV y u) (rx:RelV x v) (fy:flatV y=true) (fx:flatV x=true):SeqAt.EqAt A s u v (eqV y x):=by
  cases y with
  | non =>
    cases ry
    cases x with
    | non=>cases rx;exact SeqAt.EqAt.same _
    | bl b=>cases rx;exact SeqAt.EqAt.none_bool b
    | int b=>obtain ⟨t,rfl⟩:=rx;exact SeqAt.EqAt.none_int b t
    | str b=>obtain ⟨t,rfl⟩:=rx;exact SeqAt.EqAt.none_str b t
    | _=>exact absurd (show false=true from fx) Bool.false_ne_true
  | bl a =>
    cases ry
    cases x with
    | non=>cases rx;exact SeqAt.EqAt.bool_none a
    | bl b=>cases rx;exact SeqAt.EqAt.bool_bool a b
    | int b=>obtain ⟨t,rfl⟩:=rx;exact SeqAt.EqAt.bool_int a b t
    | str b=>obtain ⟨t,rfl⟩:=rx;exact SeqAt.EqAt.bool_str a b t
    | _=>exact absurd (show false=true from fx) Bool.false_ne_true
  | int a =>
    obtain ⟨t',rfl⟩:=ry
    cases x with
    | non=>cases rx;exact SeqAt.EqAt.int_none a t'
    | bl b=>cases rx;exact SeqAt.EqAt.int_bool a t' b
    | int b=>obtain ⟨t,rfl⟩:=rx;exact SeqAt.EqAt.int_int a t' b t
    | str b=>obtain ⟨t,rfl⟩:=rx;exact SeqAt.EqAt.int_str a t' b t
    | _=>exact absurd (show false=true from fx) Bool.false_ne_true
  | str a =>
    obtain ⟨t',rfl⟩:=ry
    cases x with
    | non=>cases rx;exact SeqAt.EqAt.str_none a t'
    | bl b=>cases rx;exact SeqAt.EqAt.str_bool a t' b
    | int b=>obtain ⟨t,rfl⟩:=rx;exact SeqAt.EqAt.str_int a t' b t
    | str b=>obtain ⟨t,rfl⟩:=rx;exact SeqAt.EqAt.str_str a t' b t
    | _=>exact absurd (show false=true from fx) Bool.false_ne_true
  | _=>exact absurd (show false=true from fy) Bool.false_ne_true
noncomputable def eqU (x:V) (u:Value):Bool:=match u with
  | .none=>eqV .non x
  | .bool b=>eqV (.bl b) x
  | .int i _=>eqV (.int i) x
  | .str z _=>eqV (.str z) x
  | _=>false
theorem eqU_of {x y:V} {u:Value} (r:RelV y u) (f:flatV y=true):eqU x u=eqV y x:=by
  cases y with
  | non=>cases r;rfl
  | bl b=>cases r;rfl
  | int i=>obtain ⟨t,rfl⟩:=r;rfl
  | str z=>obtain ⟨t,rfl⟩:=r;rfl
  | _=>exact absurd (show false=true from f) Bool.false_ne_true
theorem any_eqU {x:V}:∀{xs:List V} {us:List Value},Vals xs us→xs.all flatV=true→us.any (eqU x)=xs.any fun y=>eqV y x
  | _,_,.nil,_=>rfl
  | y::xs,u::us,.cons r t,f=>by
    rw [List.all_cons,Bool.and_eq_true] at f
    rw [List.any_cons,List.any_cons,eqU_of r f.1,any_eqU t f.2]
theorem mem_eqAt {A:Around} {s:Shared} {x:V} {v:Value} (rx:RelV x v) (fx:flatV x=true):∀{xs:List V} {us:List Value},Vals xs us→xs.all flatV=true→∀ u∈us,SeqAt.EqAt A s u v (eqU x u)
  | _,_,.nil,_=>fun u hu=>by cases hu
  | y::xs,u::us,.cons r t,f=>fun u' hu=>by
    rw [List.all_cons,Bool.and_eq_true] at f
    rcases List.mem_cons.mp hu with rfl | hu
    · rw [eqU_of r f.1];exact eqAt_V r rx f.1 fx
    · exact mem_eqAt rx fx t f.2 u' hu
noncomputable def inV (x:V) (xs:List V):Bool:=xs.any fun y=>eqV y x
noncomputable def rIn (K:PySem.W.Frag) (neg:Bool):R2:=fun x y H Q=>∃ p xs,y=.ref p∧(SqL K H p xs∨SqT K H p xs)∧flatV x=true∧xs.all flatV=true∧Q (.bl (if neg then !inV x xs else inV x xs)) H
theorem op_notIn_seq:OpR X (compareOp .NotIn) (rIn X.K true):=by
  intro pins s σ H x y v u Q I rx ry h
  obtain ⟨p,xs,rfl,hq,fx,fs,q⟩:=h
  cases ry
  rcases hq with hq | hq
  · obtain ⟨its,r,pl,hz⟩:=I.list hq
    refine SeqAt.notIn_listAt (eqU x) pl.isList (fun w hw=>mem_eqAt rx fx r fs w (by simpa using hw)) ⟨.bl _,H,I,rfl,?_⟩
    rw [show its.toArray.any (eqU x)=its.any (eqU x) by simp,any_eqU r fs]
    exact q
  · obtain ⟨its,r,pl,hz⟩:=I.tuple hq
    refine SeqAt.notIn_tupleAt (eqU x) pl (fun w hw=>mem_eqAt rx fx r fs w (by simpa using hw)) ⟨.bl _,H,I,rfl,?_⟩
    rw [show its.toArray.any (eqU x)=its.any (eqU x) by simp,any_eqU r fs]
    exact q
theorem call_list_of:CallR X (.type "list") (fun xs H Q=>∃ p ys,xs=[.ref p]∧(SqL X.K H p ys∨SqT X.K H p ys)∧∀ l,H l=none→Q (.ref l) (upd H l (.lst ys))):=by
  intro pins s σ H xs us Q I r h
  obtain ⟨p,ys,rfl,hq,q⟩:=h
  obtain ⟨u,rfl,rx⟩:=vals1 r
  cases rx
  have fin:∀(its:List Value),Vals ys its→ys.length≤sizeLine→∀(h':Heap) (c':Nat),(∀ b o',s.heap.get? b=some o'→h'.get? b=some o')→
      h'.get? s.heap.objs.size=some {cls:=.type "list",dict:=none,data:=.seq its.toArray c',slots:=#[] }→EP X pins σ Q (.ref s.heap.objs.size) {s with heap:=h' }:=fun its r' hz h' c' kp e =>
    ⟨.ref s.heap.objs.size,_,I.laid (t':=s.toks) kp (Nat.le_refl _) (show ObjOk X.prog X.w _ h' _ (.lst ys) from ⟨hz,its,c',r',e⟩),rfl,q _ (I.hok.fresh (Nat.le_refl _))⟩
  rcases hq with hq | hq
  · obtain ⟨its,r',pl,hz⟩:=I.list hq
    have hlen:=r'.length
    obtain ⟨o,ho,hc,n,hd⟩:=pl.isList
    exact call_list_seq p (.inl rfl) ho hc hd (fun h' c' kp e=>fin its r' hz h' c' kp e) (by simp only [List.size_toArray] <;> omega)
  · obtain ⟨its,r',pl,hz⟩:=I.tuple hq
    have hlen:=r'.length
    obtain ⟨o,ho,hc,n,hd⟩:=pl
    exact call_list_seq p (.inr rfl) ho hc hd (fun h' c' kp e=>fin its r' hz h' c' kp e) (by simp only [List.size_toArray] <;> omega)
theorem call_tuple_of:CallR X (.type "tuple") (fun xs H Q=>∃ p ys,xs=[.ref p]∧((SqL X.K H p ys∧∀ l,H l=none→Q (.ref l) (upd H l (.tup ys)))∨(SqT X.K H p ys∧Q (.ref p) H))):=by
  intro pins s σ H xs us Q I r h
  obtain ⟨p,ys,rfl,h⟩:=h
  obtain ⟨u,rfl,rx⟩:=vals1 r
  cases rx
  rcases h with ⟨hq,q⟩ | ⟨hq,q⟩
  · obtain ⟨its,r',pl,hz⟩:=I.list hq
    have hlen:=r'.length
    refine call_tuple_list pl.isList (fun h' kp=>?_) (by simp only [List.size_toArray] <;> omega)
    have I1:Inv X pins σ H {s with heap:=h' }:=I.kept (t':=s.toks) kp
    have I2:Inv X pins σ (upd H h'.objs.size (.tup ys)) {s with heap:=h'.push {cls:=.type "tuple",data:=.seq its.toArray} } :=
      I1.laid (t':=s.toks) (fun b o e=>Heap.get?_push_of_some _ e) (Nat.le_refl _) (show ObjOk X.prog X.w _ _ _ (.tup ys) from ⟨hz,its,r',IsTup.new _ _⟩)
    exact ⟨.ref h'.objs.size,_,I2,rfl,q _ (I1.hok.fresh (Nat.le_refl _))⟩
  · obtain ⟨its,r',pl,hz⟩:=I.tuple hq
    exact call_tuple_same pl ⟨.ref p,H,I,rfl,q⟩
noncomputable def tyV (K:PySem.W.Frag) (T:String) (x:V) (H:Hp):Prop:=match x with
  | .str _=>T="str"
  | .int _=>T="int"
  | .ref p=>(T="list"∧∃ xs,SqL K H p xs)∨(T="tuple"∧∃ o,K.lookup p=some o∧o.cls=.type "tuple"∧o.dict=none)∨
      (T="dict"∧((∃ kvs,H p=some (.dK kvs))∨∃ kvs,H p=some (.dT kvs)))∨(T="set"∧∃ S n,H p=some (.set S n))
  | _=>False
theorem tyV_is {pins:List (Addr×Obj)} {σ:St} {H:Hp} {s:Shared} {T:String} {x:V} {v:Value} (I:Inv X pins σ H s) (r:RelV x v) (ty:tyV X.K T x H) :
    s.TypeIs v T∧∀ a,v=.ref a→∃ ob,s.heap.get? a=some ob∧ob.dict=none:=by
  cases x with
  | str z =>
    obtain ⟨t,rfl⟩:=r
    cases (show T="str" from ty)
    exact ⟨typeIs_str s z t,fun _ e=>nomatch e⟩
  | int i =>
    obtain ⟨t,rfl⟩:=r
    cases (show T="int" from ty)
    exact ⟨typeIs_int s i t,fun _ e=>nomatch e⟩
  | ref p =>
    cases r
    rcases ty with ⟨rfl,xs,hq⟩ | ⟨rfl,o,hk,hc,hd⟩ | ⟨rfl,hk⟩ | ⟨rfl,S,n,hk⟩
    · obtain ⟨its,_,pl,_⟩:=I.list hq
      refine ⟨pl.isList.typeIs,fun a e=>?_⟩
      cases e
      obtain ⟨o,n,e,c,hd,_⟩:=pl
      exact ⟨o,e,hd⟩
    · refine ⟨⟨o,I.kIn p o hk,hc⟩,fun a e=>?_⟩
      cases e
      exact ⟨o,I.kIn _ o hk,hd⟩
    · have z:∃ o,s.heap.get? p=some o∧o.ExactDict:=by
        rcases hk with ⟨kvs,hk⟩ | ⟨kvs,hk⟩
        · obtain ⟨_,_,_,_,o,_,_,e,ex,_⟩:=I.hok p _ hk
          exact ⟨o,e,ex⟩
        · obtain ⟨_,_,_,_,o,_,_,e,ex,_⟩:=I.hok p _ hk
          exact ⟨o,e,ex⟩
      obtain ⟨o,e,ex⟩:=z
      refine ⟨⟨o,e,ex.1⟩,fun a e2=>?_⟩
      cases e2
      exact ⟨o,e,ex.2.1⟩
    · obtain ⟨o,_,_,_,e,ex,_⟩:=I.hok p _ hk
      refine ⟨⟨o,e,ex.1⟩,fun a e2=>?_⟩
      cases e2
      exact ⟨o,e,ex.2.1⟩
  | _=>exact False.elim ty
noncomputable def tBM0 (K:PySem.W.Frag) (T:String) (r:V→List V→Hp→VK→Prop) (to:TE):TE:=fun σ H Q=>to σ H fun x H1=>tyV K T x H1∧r x [] H1 Q
noncomputable def tBM (K:PySem.W.Frag) (T:String) (r:V→List V→Hp→VK→Prop) (to:TE) (t:TA):TE:=fun σ H Q=>to σ H fun x H1=>tyV K T x H1∧t σ H1 fun xs H2=>r x xs H2 Q
variable {o e:Expr} {es:List Expr} {to:TE} {t:TA} {name:Str} {apos cpos:Pos} {T id:String} {r:V→List V→Hp→VK→Prop}
theorem pe_bm0 (pa:PlainAttrs T) (slot:Slot T name id) (hty:typeOf (.builtin id)=pure (.type "method_descriptor")) (hm:MtR X id r) (ho:PE X o to)
    (hbase:attributeBase o name X.env (eval o X.env)=eval o X.env:=by rfl) (hline:(apos.endLine == cpos.line)=true:=by rfl):PE X (.Call (.Attribute o name apos) [] [] cpos) (tBM0 X.K T r to):=by
  intro pins s σ H Q I h
  refine wpAny_Call_method0_late hbase hline (thn (ho pins s σ H _ I h) fun v s1 zz=>?_)
  obtain ⟨x,H1,I1,r1,ty,q1⟩:=zz
  obtain ⟨h1,h2⟩:=tyV_is I1 r1 ty
  exact ⟨T,id,pa,slot,hty,h1,h2,Calls.callWith_builtin rfl (PySem.evalArgs_none (hm pins s1 σ H1 x [] v [] Q I1 r1 .nil q1))⟩
theorem pe_bm (pa:PlainAttrs T) (slot:Slot T name id) (hty:typeOf (.builtin id)=pure (.type "method_descriptor")) (hm:MtR X id r) (ho:PE X o to) (ha:PA X (e::es) t)
    (hbase:attributeBase o name X.env (eval o X.env)=eval o X.env:=by rfl)
    (hfew:((backTo cpos (starEach (e::es) X.env)).all (fun x=>!x.1) && (backToKw cpos (keywordEach [] X.env)).all (fun x=>x.1.isSome)
      && decide ((e::es).length+([]:List Keyword).length+(if ([]:List Keyword).isEmpty then 0 else 1) < 30))=true:=by rfl)
    (hline:(apos.endLine == cpos.line)=true:=by rfl) (hs:starEach (e::es) X.env=(false,eval e X.env)::starEach es X.env:=by rfl) (hplain:(backTo cpos (starEach es X.env)).any (·.1)=false:=by rfl) :
    PE X (.Call (.Attribute o name apos) (e::es) [] cpos) (tBM X.K T r to t):=by
  intro pins s σ H Q I h
  refine wpAny_Call_method_late hbase hfew hline rfl (thn (ho pins s σ H _ I h) fun v s1 zz=>?_)
  obtain ⟨x,H1,I1,r1,ty,q1⟩:=zz
  obtain ⟨h1,h2⟩:=tyV_is I1 r1 ty
  refine ⟨T,id,pa,slot,hty,h1,h2,?_⟩
  have hA:=ha cpos pins s1 σ H1 _ I1 q1
  rw [hs] at hA ⊢
  refine Calls.callWith_builtin (by show (false || (backTo cpos (starEach es X.env)).any (·.1))=false;rw [hplain] <;> rfl) (Calls.evalArgs_plain ?_)
  refine thn hA fun us s2 zz=>?_
  obtain ⟨vs,H2,I2,r2,q2⟩:=zz
  exact hm pins s2 σ H2 x vs v us Q I2 r1 r2 q2
end
end L2
namespace L2
open PySem PySem.Spec PyProof.Rows
noncomputable def MtM (X:Cx) (id:String) (r:V→List V→Hp→VK→Prop):Prop :=
  ∀(pins:List (Addr×Obj)) (s:Shared) (σ:St) (H:Hp) (x:V) (xs:List V) (v:Value) (us:List Value) (Q:VK),Inv X pins σ H s→RelV x v→Vals xs us→r x xs H Q→
    wpAny (model X.prog X.w) X.A (call (.builtin id) (v::us)) (EP X pins σ Q) X.xe s
theorem Vals.one:∀{x:V} {us:List Value},Vals [x] us→∃ u,us=[u]∧RelV x u
  | _,_,.cons r .nil=>⟨_,rfl,r⟩
theorem Vals.zero:∀{us:List Value},Vals [] us→us=[]
  | _,.nil=>rfl
theorem Vals.dropLast {xs:List V} {us:List Value} (h:Vals xs us):Vals xs.dropLast us.dropLast:=by
  induction h with
  | nil=>exact .nil
  | cons r t ih =>
    cases t with
    | nil=>exact .nil
    | cons q t'=>exact .cons r ih
theorem erase_last {α:Type} (l:List α):l.eraseIdx (l.length - 1)=l.dropLast:=by
  induction l with
  | nil=>rfl
  | cons a r ih =>
    cases r with
    | nil=>rfl
    | cons b r =>
      have e:(a::b::r).length - 1=((b::r).length - 1)+1:=by
        have h1:(a::b::r).length=r.length+2:=rfl
        have h2:(b::r).length=r.length+1:=rfl
        omega
      rw [e,List.eraseIdx_cons_succ,ih]
      all_goals rfl
section
variable {X:Cx} {pins:List (Addr×Obj)} {σ:St} {H:Hp} {s:Shared} {l b:Addr} {xs ys zs:List V}
theorem Inv.lset {its its':List Value} {n:Nat} {f:Array Value→Array Value} {t':Nat} (I:Inv X pins σ H s) (hH:H l=some (.lst xs))
    (e:s.heap.get? l=some {cls:=.type "list",data:=.seq its.toArray n}) (hf:f its.toArray=its'.toArray) (hv:Vals ys its') (hz:ys.length≤sizeLine) :
    Inv X pins σ (upd H l (.lst ys)) {s with heap:=s.heap.update l (Obj.mapSeq f),toks:=t' }:=by
  have q:=PySem.IsL.update e f
  rw [hf] at q
  refine I.write (x:=l) (e:=l) (by rw [hH];exact trivial) (.inl rfl) (fun b' u hb hu=>(Heap.get?_update_other s.heap (Obj.mapSeq f) (Ne.symm hb)).trans hu) ⟨_,q⟩ ?_
  exact ⟨hz,its',_,hv,q⟩
theorem Inv.lnew {its:List Value} {t':Nat} (I:Inv X pins σ H s) (hv:Vals ys its) (hz:ys.length≤sizeLine) :
    Inv X pins σ (upd H s.heap.objs.size (.lst ys)) {s with heap:=s.heap.push {cls:=.type "list",data:=.seq its.toArray},toks:=t' } :=
  I.laid (fun _ _ q=>Heap.get?_push_of_some _ q) (Nat.le_refl _) ⟨hz,its,0,hv,Heap.get?_push_size _ rfl⟩
theorem Inv.lstM (I:Inv X pins σ H s) (hH:H l=some (.lst xs)):xs.length≤sizeLine∧∃(its:List Value) (n:Nat),Vals xs its∧xs.length=its.length∧s.heap.get? l=some {cls:=.type "list",data:=.seq its.toArray n}:=by
  obtain ⟨z,its,n,r,e⟩:=I.hok l _ hH
  exact ⟨z,its,n,r,r.length,e⟩
theorem notLongL {n:Nat} (h:n≤sizeLine):Builtin.List.listTooLong n=false:=by
  unfold Builtin.List.listTooLong
  exact decide_eq_false (by omega)
end
section
variable {X:Cx}
noncomputable def rAppend:V→List V→Hp→VK→Prop:=fun x vs H Q=>∃ l xs y,x=.ref l∧vs=[y]∧H l=some (.lst xs)∧xs.length < sizeLine∧Q .non (upd H l (.lst (xs++[y])))
theorem mt_append:MtM X "list.append" rAppend:=by
  intro pins s σ H x vs v us Q I rx rv h
  obtain ⟨l,xs,y,rfl,rfl,hH,hz,q⟩:=h
  cases rx
  obtain ⟨u,rfl,ru⟩:=rv.one
  obtain ⟨z,its,n,r,hl,e⟩:=I.lstM hH
  refine call_meets F.slot_list_append ⟨_,e,rfl⟩ F.entry_list_append (F.args_list_append_2 _ _) (PySem.list_append l its.toArray n u (by rw [List.size_toArray];omega)) ⟨e,?_⟩
  refine ⟨.non,_,I.lset (its':=its++[u]) hH e (by simp) (r.append (.cons ru .nil)) ?_,rfl,q⟩
  rw [List.length_append,List.length_singleton]
  omega
noncomputable def rExtend:V→List V→Hp→VK→Prop:=fun x vs H Q=>∃ l b xs zs,x=.ref l∧vs=[.ref b]∧H l=some (.lst xs)∧H b=some (.lst zs)∧xs.length+zs.length≤sizeLine∧Q .non (upd H l (.lst (xs++zs)))
theorem mt_extend:MtM X "list.extend" rExtend:=by
  intro pins s σ H x vs v us Q I rx rv h
  obtain ⟨l,b,xs,zs,rfl,rfl,hH,hB,hz,q⟩:=h
  cases rx
  obtain ⟨u,rfl,ru⟩:=rv.one
  cases ru
  obtain ⟨z,its,n,r,hl,e⟩:=I.lstM hH
  obtain ⟨z2,its2,n2,r2,hl2,e2⟩:=I.lstM hB
  have hsz:its.toArray.size+its2.toArray.size≤sizeLine:=by rw [List.size_toArray,List.size_toArray];omega
  have hlong:¬ (!its.toArray.isEmpty && Builtin.List.listTooLong (its.toArray.size+its2.toArray.size))=true:=by
    rw [notLongL hsz,Bool.and_false]
    exact Bool.false_ne_true
  refine call_meets F.slot_list_extend ⟨_,e,rfl⟩ F.entry_list_extend (F.args_list_extend_2 _ _)
    (AutoSeq1.list_extend_list_list_0 l its.toArray n b its2.toArray n2 hlong (by rw [List.size_toArray];omega) (by omega)) ⟨e,e2,?_⟩
  refine ⟨.non,_,I.lset (its':=its++its2) hH e (by simp) (r.append r2) ?_,rfl,q⟩
  rw [List.length_append]
  omega
noncomputable def rPop:V→List V→Hp→VK→Prop:=fun x vs H Q=>∃ l xs y,x=.ref l∧vs=[]∧H l=some (.lst xs)∧xs[xs.length - 1]?=some y∧Q y (upd H l (.lst xs.dropLast))
theorem mt_pop:MtM X "list.pop" rPop:=by
  intro pins s σ H x vs v us Q I rx rv h
  obtain ⟨l,xs,y,rfl,rfl,hH,hy,q⟩:=h
  cases rx
  have hus:=rv.zero
  subst hus
  obtain ⟨z,its,n,r,hl,e⟩:=I.lstM hH
  obtain ⟨u,hu,ru⟩:=r.get hy
  have hy':its.toArray[its.toArray.size - 1]?=some u:=by
    show its.toArray[its.length - 1]?=some u
    rw [← Array.getElem?_toList,← hl]
    exact hu
  refine call_meets F.slot_list_pop ⟨_,e,rfl⟩ F.entry_list_pop (F.args_list_pop_1 _) (MeetsSeq.list_pop_last l its.toArray n u hy' (by rw [List.size_toArray];omega)) ⟨e,?_⟩
  refine ⟨y,_,I.lset (its':=its.dropLast) hH e ?_ r.dropLast ?_,ru,q⟩
  · show its.toArray.eraseIdxIfInBounds (its.toArray.size - 1)=its.dropLast.toArray
    rw [List.size_toArray,List.eraseIdxIfInBounds_toArray,erase_last]
  · rw [List.length_dropLast]
    omega
end
section
variable {prog:Program} {w:World} {A:Around} {E:Value→Shared→Prop} {s:Shared}
set_option maxRecDepth 100000 in
end
section
variable {X:Cx}
end
end L2
namespace Att
open PySem PySem.W PySem.Calls PyProof.Rows
theorem ints_of_wellAll {P:Params} {h:Heap}:∀(ns:List Int) (vs:List Value),WellAll P h vs (ns.map WData.int)→IntsAre vs ns:=by
  intro ns
  induction ns with
  | nil =>
    intro vs w
    rw [List.map_nil] at w
    cases w
    exact .nil
  | cons n ns ih =>
    intro vs w
    rw [List.map_cons] at w
    cases w with
    | cons a b =>
      cases a
      exact .cons _ _ (ih _ b)
theorem script_of {l:OpenLaw} {n:Nat} (hn:l.most=some n) {P:Params} {h:Heap} {args:List WData} {vals:List Value}
    (hpre:l.row.toRowW.claim.pre args=true) (hwl:WellAll P h vals args) :
    ∃ a vs ns,vals=[Value.ref a]∧args=[WData.list (ns.map WData.int)]∧h.get? a=some {cls:=.type "list",data:=.seq vs.toArray}∧IntsAre vs ns∧ns.length≤n:=by
  have hsh:WShape.hasAll [] args [.list .int]=true:=(pre_splitW hpre).1
  have hc:l.pre.holds [] {args:=args}=true:=(pre_splitW hpre).2
  obtain ⟨d,r,rfl,h1,h2⟩:=hasAllW_cons hsh
  obtain rfl:=hasAllW_nil h2
  obtain ⟨xs,rfl,h3⟩:=hasW_list h1
  obtain ⟨ns,rfl⟩:=items_int h3
  have hlen:ns.length≤n:=by
    unfold OpenLaw.pre at hc
    have h4:(WTm.not (.lt (.lit (.int (n:Int))) (.len (.arg 0)))).holds [] {args:=[.list (ns.map .int)] }=true:=by
      have h4:=(holds_andW hc).1
      rw [hn] at h4
      exact h4
    have h5:=condW_of h4 (w_not (w_lt w_lit (w_len_list (w_arg rfl))))
    rw [List.length_map] at h5
    refine Nat.le_of_not_lt fun q=>?_
    have q':(n:Int) < ((ns.length:Nat):Int):=by omega
    first
      | (rw [decide_eq_true q'] at h5;exact absurd h5 (by decide))
      | (simp at h5;omega)
  cases hwl with
  | cons w1 w2 =>
    cases w2
    cases w1 with
    | list ho hall=>exact ⟨_,_,ns,rfl,rfl,ho,ints_of_wellAll ns _ hall,hlen⟩
theorem post_true (l:OpenLaw) (args:List WData):l.row.toRowW.claim.post args (.bool true) args=true :=
  postW_of (r:=l.row.toRowW) (X:=(true == true))
    (show WShape.has [] (.bool true) .bool=true by first | rfl | decide | simp [WShape.has,WShape.arms,WShape.armsAll])
    (show (WTm.eq .res (.lit (.bool true))).value [] {args:=args,res:=some (.bool true),after:=args}=some (.bool (true == true)) from w_eq_bool (w_res rfl) w_lit) rfl
section
variable {prog:Program} {w:World} {A:Around} {E:Value→Shared→Prop} {s:Shared} {K:Frag}
end
end Att
namespace L2
open PySem PySem.Spec PyProof.Rows
theorem vals_ints:∀{vs:List Value} {ns:List Int},IntsAre vs ns→Vals (ns.map V.int) vs
  | _,_,.nil=>.nil
  | _,_,.cons n t h=>.cons ⟨t,rfl⟩ (vals_ints h)
noncomputable def Only (H:Hp):Prop:=∀ b,H b=none∨∃ o xs,H b=some (.frz o (.lst xs))
theorem law_call {P:Program} {w:World} {K:PySem.W.Frag} {mg mb:Str→Option Value} {CX:CXT} {k:Nat} {fa a:Addr} {fd:FuncData} {x:Str} {sp:Sp} {s₁:Shared} {vs:List Value} {ns:List Int}
    (KX:K.In s₁.heap) (hns:s₁.heap.Ns mainGlobals mg) (hb:s₁.heap.Ns builtinsNs mb) (hbb:∀ x:Str,x≠"__name__"→mb x=bootBuiltins x) (hlim:s₁.heap.NoLimit) (hg:s₁.gens=#[])
    (ha:s₁.heap.get? a=some {cls:=.type "list",data:=.seq vs.toArray}) (hi:IntsAre vs ns) (hl:ns.length≤sizeLine) (hr:Room k callerA)
    (F:∀ base:Heap,K.In base→base.Ns mainGlobals mg→FnOk P w K mg base CX k fa fd [x] sp) (hbind:∀(s:Shared) (u:Value),BindsTo s fd ⟨[u],[]⟩ [(x,u)])
    (hsp:∀ H:Hp,Only H→SqL K H a (ns.map V.int)→sp [.ref a] H (fun v _=>v=.bl true) fun _ _ _=>False)
    (hCX:∀ H e s',CX [] H s₁ (fun _ _ _=>False) e s'→False) :
    codeAny (model P w) callerA (.call (.ref fa) ⟨[.ref a],[]⟩) (fun r s'=>r=.ok (.ret (.bool true))∧OldK s₁.heap s'.heap∧s'.os=s₁.os∧AllBare s'.gens) s₁:=by
  have rv:=vals_ints hi
  have lenV:=hi.length
  have core:∀ H:Hp,Only H→SqL K H a (ns.map V.int)→HOk P w H s₁.heap→(∀ b,H b≠none→b=a)→(H a≠none→K.lookup a=none)→
      codeAny (model P w) callerA (.call (.ref fa) ⟨[.ref a],[]⟩) (fun r s'=>r=.ok (.ret (.bool true))∧OldK s₁.heap s'.heap∧s'.os=s₁.os∧AllBare s'.gens) s₁:=by
    intro H hO hS hok hA hK
    have base_of:∀{b:Addr} {o:Obj},s₁.heap.get? b=some o→H b=none→(hidT s₁.heap H).get? b=some o:=fun e n=>hidT_get e n
    have noA:∀{b:Addr} {o:Obj} {es:Array DictEntry} {ep:Nat},s₁.heap.get? b=some o→o.data=.dict es ep→H b=none:=fun {b o es ep} e d=>by
      cases q:H b with
      | none=>rfl
      | some u =>
        have e':b=a:=hA b (by rw [q];simp)
        subst e'
        rw [ha] at e;cases e
        have d':Data.seq vs.toArray _=Data.dict es ep:=d
        cases d'
    have nsK:∀{b:Addr} {m:Str→Option Value},s₁.heap.Ns b m→(hidT s₁.heap H).Ns b m:=fun {b m} ⟨o,es,ep,e,d,r⟩=>⟨o,es,ep,base_of e (noA e d),d,r⟩
    have hKb:K.In (hidT s₁.heap H):=fun b o e=>base_of (KX b o e) (by
      cases q:H b with
      | none=>rfl
      | some u =>
        have e':b=a:=hA b (by rw [q];simp)
        subst e'
        rw [hK (by rw [q];simp)] at e;cases e)
    have hM:Mod K mg (hidT s₁.heap H):=⟨hKb,nsK hns,⟨mb,nsK hb,hbb⟩,let ⟨mc,h1,h2⟩:=hlim;⟨mc,nsK h1,h2⟩⟩
    have e0:Env0 P w K mg (hidT s₁.heap H) callerA [] s₁ H:=⟨rfl,hM,fun b o e=>of_hidT e,Nat.le_of_eq (hidT_size _ _),trivial,fun b hb=>absurd (show b∈([]:List Addr) from hb) (by simp),hok,.of_eq hg⟩
    refine codeAny_mono ((F _ hKb (nsK hns)).run callerA [] s₁ H ⟨[.ref a],[]⟩ [.ref a] [.ref a] _ _ hr e0 (hbind s₁ (.ref a)) (.cons rfl .nil) (hsp H hO hS)) fun r s' h=>?_
    cases r with
    | error e=>exact (hCX H e s' h).elim
    | ok fl =>
      cases fl with
      | next=>exact False.elim h
      | brk=>exact False.elim h
      | cont=>exact False.elim h
      | ret u =>
        obtain ⟨v,H',os,bare,un,hok',r',q⟩:=h
        have q':v=.bl true:=q
        subst q'
        obtain rfl:u=Value.bool true:=r'
        refine ⟨rfl,OldK.of_keep fun b o e=>?_,os,bare⟩
        cases q:H b with
        | none=>exact un.keep b o e q (by intro z;exact absurd (show b∈([]:List Addr) from z) (by simp)) (by simp)
        | some u =>
          rcases hO b with z | ⟨ob,xs,z⟩
          · rw [q] at z;cases z
          · have z2:=un.frzs b ob _ z
            obtain ⟨e1,_⟩:=hok b _ z
            obtain ⟨e2,_⟩:=hok' b _ z2
            rw [e] at e1;cases e1
            exact e2
  cases hk:K.lookup a with
  | some o =>
    have e:=KX a o hk
    rw [ha] at e
    cases e
    refine core (fun _=>none) (fun _=>.inl rfl) (.inr ⟨_,vs.toArray,_,hk,rfl,rfl,rfl,by rw [List.size_toArray,lenV];exact hl,by simpa using rv⟩) (fun b u z=>by have z':(none:Option HO)=some u:=z;cases z') (fun b z=>absurd rfl z) fun z=>absurd rfl z
  | none =>
    refine core (fun b=>if b=a then some (.frz {cls:=.type "list",data:=.seq vs.toArray} (.lst (ns.map V.int))) else none) (fun b=>?_) (.inl (.inr ⟨{cls:=.type "list",data:=.seq vs.toArray},if_pos rfl⟩)) (fun b u z=>?_) (fun b z=>?_) fun _=>hk
    · by_cases hb:b=a
      · exact .inr ⟨_,_,if_pos hb⟩
      · exact .inl (if_neg hb)
    · by_cases hb:b=a
      · have z':=(if_pos hb).symm.trans z
        cases z'
        subst hb
        exact ⟨ha,by rw [List.length_map];exact hl,vs,_,rv,ha⟩
      · have z':=(if_neg hb).symm.trans z
        cases z'
    · by_cases hb:b=a
      · exact hb
      · exact absurd (if_neg hb) z
end L2
namespace L2
open PySem PySem.Spec PyProof.Rows
noncomputable abbrev KOf {K:PySem.W.Frag} {h:Heap} (_:K.In h):PySem.W.Frag:=K
end L2
namespace L2
open PySem PySem.Spec PyProof.Rows
noncomputable def defArgs (s:Stmt):Arguments:=match s with
  | .FunctionDef _ a _ _ _ _ _ _ _ _=>a
  | _=>{posonlyargs:=[],args:=[],vararg:=none,kwonlyargs:=[],kw_defaults:=[],kwarg:=none,defaults:=[] }
noncomputable def defBody (s:Stmt):List Stmt:=match s with
  | .FunctionDef _ _ b _ _ _ _ _ _ _=>b
  | _=>[]
noncomputable def defScope (s:Stmt):Scope:=match s with
  | .FunctionDef _ _ _ _ _ _ sc _ _ _=>sc
  | _=>{kind:=.function,names:=[],isGenerator:=false,isCoroutine:=false}
noncomputable abbrev CX0:CXT:=fun _ _ _ _ _ _=>False
noncomputable abbrev E0:XK:=fun _ _ _=>False
theorem pass0 {X:Cx}:Passes CX0 X E0:=fun _ _ _ _ _ _ _ h=>h.elim
structure Fun (K:PySem.W.Frag) (x qual:Str) (st:Stmt) (f:Addr) (fd:FuncData):Prop where
  ex:∃(oc:Value) (od:Option Addr) (kV doc pm:Value) (an:Option Addr) (cdv ct:Value) (osl:Array (Option Value)),
    fd=PySem.W.fnOf x qual (defArgs st) (defBody st) (defScope st) .none kV doc pm an cdv ct∧K.lookup f=some ⟨oc,od,.func fd,osl⟩∧PySem.W.codeIn K cdv qual=true
  kp:PySem.W.keepIn K (.ref f)=true
section
variable {P:Program} {w:World} {K:PySem.W.Frag} {mg:Str→Option Value} {base:Heap}
theorem Fun.ok {x qual:Str} {st:Stmt} {f:Addr} {fd:FuncData} {N ps:List Str} {k:Nat} {sp:Sp} (F:Fun K x qual st f fd) (S:FnScope N ps (defScope st)) (len:∀ vs H Q E,sp vs H Q E→vs.length=ps.length)
    (hbody:∀(cdv:Value) (A:Around) (outer:List Env) (s:Shared) (H:Hp) (vs:List V) (Q:VK) (E:XK),Room k (A.deeper (envOfC qual (defScope st) s.heap.objs.size f cdv))→sp vs H Q E→
      ∃ t,PSs (cxOf CX0 P w K mg base N qual (defScope st) f cdv A outer s H E).nox (defBody st) t∧t {nx:=fun _ H'=>Q .non H',rt:=Q} (start N vs) H):FnOk P w K mg base CX0 (k+1) f fd ps sp:=by
  obtain ⟨oc,od,kV,doc,pm,an,cdv,ct,osl,rfl,lk,hcd⟩:=F.ex
  refine fn_of lk hcd S len fun A outer s H vs Q E hr hsp=>?_
  obtain ⟨t,h,q⟩:=hbody cdv A outer s H vs Q E hr hsp
  exact ⟨t,h.nox,q⟩
theorem Fun.binds {x qual:Str} {st:Stmt} {f:Addr} {fd:FuncData} {ps:List Str} (F:Fun K x qual st f fd)
    (h:∀(kV doc pm:Value) (an:Option Addr) (cdv ct:Value) (us:List Value),us.length=ps.length→bindArgs (PySem.W.fnOf x qual (defArgs st) (defBody st) (defScope st) .none kV doc pm an cdv ct) ⟨us,[]⟩=pure (ps.zip us)):Binds K fd ps []:=by
  obtain ⟨oc,od,kV,doc,pm,an,cdv,ct,osl,rfl,lk,hcd⟩:=F.ex
  exact .all (h kV doc pm an cdv ct)
theorem fun_mk {x qual:Str} {st:Stmt} {f:Addr} {oc:Value} {od an:Option Addr} {osl:Array (Option Value)} {kV doc pm cdv ct:Value} (l:K.lookup f=some ⟨oc,od,.func (PySem.W.fnOf x qual (defArgs st) (defBody st) (defScope st) .none kV doc pm an cdv ct),osl⟩)
    (c:PySem.W.codeIn K cdv qual=true) (k:PySem.W.keepIn K (.ref f)=true):Fun K x qual st f (PySem.W.fnOf x qual (defArgs st) (defBody st) (defScope st) .none kV doc pm an cdv ct):=⟨⟨oc,od,kV,doc,pm,an,cdv,ct,osl,rfl,l,c⟩,k⟩
end
theorem hu_of {A:Around} {k:Nat} (hr:Room k A):A.units+1 < cLine:=Nat.lt_of_le_of_lt (Nat.add_le_add_left (by decide:1≤64) _) hr.units
theorem small1000 {n:Nat} (h:n≤1000):n < sizeLine:=Nat.lt_of_le_of_lt h (by decide)
section
variable {X:Cx}
theorem pv (i:Nat) {x:Str} {pos:Pos} (hN:X.N[i]?=some x:=by rfl) (hv:Vis X.env.scope x:=by first | exact Or.inl rfl | exact Or.inr (Or.inl rfl) | exact Or.inr (Or.inr rfl)) (hd:(x == ("__debug__":Str))=false:=by decide)
    (hcd:(x == ("__classdict__":Str))=false:=by decide):PE X (.Name x pos) (tVar i):=pe_var hN hv hd hcd
end
theorem iteF {A B:Prop} (h:B):if false=true then A else B:=by
  rw [if_neg Bool.false_ne_true]
  exact h
theorem iteT {A B:Prop} (h:A):if true=true then A else B:=by
  rw [if_pos rfl]
  exact h
theorem ite2 {c A B:Prop} [Decidable c] (h1:c→A) (h2:¬c→B):if c then A else B:=by
  by_cases h:c
  · rw [if_pos h]
    exact h1 h
  · rw [if_neg h]
    exact h2 h
theorem iteNS {c A B:Prop} [Decidable c] (hc:c) (h:B):if (!decide c)=true then A else B:=by
  rw [decide_eq_true hc]
  exact iteF h
noncomputable def Same (H H':Hp):Prop:=∀ b o,H b=some o→H' b=some o
theorem Same.refl (H:Hp):Same H H:=fun _ _ h=>h
theorem Same.trans {H H1 H2:Hp} (a:Same H H1) (b:Same H1 H2):Same H H2:=fun c o h=>b c o (a c o h)
theorem Same.free {H H':Hp} (e:Same H H') {l:Addr} (h:H' l=Option.none):H l=Option.none:=by
  cases q:H l with
  | none=>rfl
  | some o =>
    rw [e l o q] at h
    cases h
theorem Same.seq {K:PySem.W.Frag} {H H':Hp} {a:Addr} {xs:List V} (e:Same H H') (h:SqL K H a xs):SqL K H' a xs:=by
  rcases h with (h | ⟨o,h⟩) | h
  · exact .inl (.inl (e _ _ h))
  · exact .inl (.inr ⟨o,e _ _ h⟩)
  · exact .inr h
end L2
set_option maxHeartbeats 4000000
namespace L2
open PySem PySem.Spec PyProof.Rows
noncomputable def cxComp (X:Cx) (scope:Scope) (cl:List (Str×Addr)) (N:List Str) (s:Shared) (H:Hp) (fp:List Addr):Cx :=
  {prog:=X.prog,w:=X.w,K:=X.K,mg:=X.mg,base:=X.base,A:=X.A,N:=N,s₀:=s,H₀:=H,env:=compEnvC scope cl s.heap.objs.size X.env,
    outer:=X.stack,stack:=X.stack,ex:=fp,fn:=fun _=>false,calm:=X.calm,pn:=[],xe:=fun _ _=>False}
noncomputable def cNames (X:Cx) (x:Str) (js:List Nat):List Str:=x::js.map fun j=>X.N.getD j ""
noncomputable def cVals (js:List Nat) (σ:St):St:=js.map fun j=>(σ[j]?).getD none
structure FreeAt (X:Cx) (scope:Scope) (js:List Nat):Prop where
  all:∀ j∈js,∃ y,X.N[j]?=some y∧(X.env.kindOf y=some .cell∨X.env.kindOf y=some .free)∧(y,NameKind.free)∈scope.names∧
    ((relabel scope X.env).names.lookup y=some .cell∨(relabel scope X.env).names.lookup y=some .free)
theorem fa_nil {X:Cx} {scope:Scope}:FreeAt X scope []:=⟨fun _ h=>nomatch h⟩
theorem fa_cons {X:Cx} {scope:Scope} {j:Nat} {js:List Nat} {y:Str} (h1:X.N[j]?=some y) (h2:X.env.kindOf y=some .cell∨X.env.kindOf y=some .free) (h3:(y,NameKind.free)∈scope.names)
    (h4:(relabel scope X.env).names.lookup y=some .cell∨(relabel scope X.env).names.lookup y=some .free) (r:FreeAt X scope js):FreeAt X scope (j::js) :=
  ⟨fun k hk=>by
    rcases List.mem_cons.mp hk with e | e
    · subst e;exact ⟨y,h1,h2,h3,h4⟩
    · exact r.all k e⟩
theorem lookup_relabel {env:Env}:∀{names:List (Str×NameKind)} {y:Str} {k:NameKind},
    (names.map fun (n,k)=>if (k == NameKind.free && env.scope.kind == .function && env.kindOf n == some .cell) then (n,NameKind.cell) else (n,k)).lookup y=some k→
    ∃ k',(y,k')∈names∧(k'=k∨(k=.cell∧k'=.free))
  | [],_,_,h=>by simp at h
  | (n,k0)::r,y,k,h=>by
    by_cases hc:(k0 == NameKind.free && env.scope.kind == .function && env.kindOf n == some .cell)=true
    · rw [List.map_cons] at h
      dsimp only at h
      rw [if_pos hc] at h
      simp only [List.lookup_cons] at h
      have hf:k0=.free:=by
        rw [Bool.and_eq_true,Bool.and_eq_true] at hc
        exact beq_iff_eq.mp hc.1.1
      cases hx:y == n with
      | true =>
        rw [hx] at h
        have e:=beq_iff_eq.mp hx
        subst e
        have e2:=Option.some.inj h
        exact ⟨k0,List.mem_cons_self,.inr ⟨e2.symm,hf⟩⟩
      | false =>
        rw [hx] at h
        obtain ⟨k',m,q⟩:=lookup_relabel h
        exact ⟨k',List.mem_cons_of_mem _ m,q⟩
    · rw [List.map_cons] at h
      dsimp only at h
      rw [if_neg hc] at h
      simp only [List.lookup_cons] at h
      cases hx:y == n with
      | true =>
        rw [hx] at h
        have e:=beq_iff_eq.mp hx
        subst e
        have e2:=Option.some.inj h
        exact ⟨k0,List.mem_cons_self,.inl e2⟩
      | false =>
        rw [hx] at h
        obtain ⟨k',m,q⟩:=lookup_relabel h
        exact ⟨k',List.mem_cons_of_mem _ m,q⟩
section
variable {X:Cx} {pins:List (Addr×Obj)} {σ:St} {H:Hp} {s:Shared} {scope:Scope} {cl:List (Str×Addr)} {x:Str} {js:List Nat} {fp:List Addr}
theorem comp_ok (I:Inv X pins σ H s) (hk:scope.kind=.function) (hcell:∀ y∈scope.names,y.2≠.cell)
    (hcl1:∀ y c,cl.lookup y=some c→X.env.cells.lookup y=some c) (hcl2:∀ y,(y,NameKind.free)∈scope.names→∃ c,cl.lookup y=some c)
    (hf:∀ b∈fp,FpOk X pins H b) (hlt:∀ b∈fp,b < s.heap.objs.size):(cxComp X scope cl (cNames X x js) s H fp).Ok where
  mod:=I.ok.mod
  kind:=hk
  glob:=I.ok.glob
  blt:=I.ok.blt
  above:=Nat.le_refl _
  inj:=fun y z c h1 h2=>I.ok.inj y z c (hcl1 y c h1) (hcl1 z c h2)
  has:=fun y hy=>by
    have hy':(relabel scope X.env).names.lookup y=some .cell∨(relabel scope X.env).names.lookup y=some .free:=hy
    rcases hy' with h | h
    · obtain ⟨k',m,q⟩:=lookup_relabel h
      rcases q with q | ⟨_,q⟩
      · exact absurd q (hcell _ m)
      · subst q;exact hcl2 y m
    · obtain ⟨k',m,q⟩:=lookup_relabel h
      rcases q with q | ⟨q,_⟩
      · subst q;exact hcl2 y m
      · cases q
  cab:=fun y c h _=>by cases h
  hd:=I.ok.hd
  frames:=I.ok.frames
  stk:=.inl rfl
  exf:=fun b hb=>⟨Nat.ne_of_lt (hlt b hb),fun y c h=>(hf b hb).2.2.2.2.1 y c (hcl1 y c h)⟩
  bs:=I.bs
  bsz:=Nat.le_trans I.ok.bsz I.sz
  noex:=fun b o e hb=>by
    rcases (hf b hb).2.2.2.1 with z | z
    · exact I.ok.noex b o e z
    · exact absurd (Nat.lt_of_lt_of_le (Heap.lt_size e) (Nat.le_trans I.ok.bsz z)) (Nat.lt_irrefl _)
  exfs:=fun b hb hz=>(List.mem_cons.mp (I.stkSub b hz)).elim (hf b hb).2.1 (hf b hb).2.2.1
  funs:=I.stack
  frf:=I.stkFree
theorem comp_start {h₁:Heap} {tk:Nat} (I:Inv X pins σ H s) (hk:scope.kind=.function) (hcell:∀ y∈scope.names,y.2≠.cell)
    (hcl1:∀ y c,cl.lookup y=some c→X.env.cells.lookup y=some c) (hcl2:∀ y,(y,NameKind.free)∈scope.names→∃ c,cl.lookup y=some c) (hjs:FreeAt X scope js)
    (hf:∀ b∈fp,FpOk X pins H b) (hlt:∀ b∈fp,b < s.heap.objs.size) {m:Str→Option Value} (hn:h₁.Ns s.heap.objs.size m) (hkeep:∀ b o,s.heap.get? b=some o→h₁.get? b=some o) :
    Inv (cxComp X scope cl (cNames X x js) s H fp) [] (none::cVals js σ) H {s with heap:=h₁,toks:=tk} where
  ok:=comp_ok I hk hcell hcl1 hcl2 hf hlt
  os:=rfl
  bare:=I.bare
  base:=Un.kept hkeep
  loc:=by
    refine ⟨m,hn,fun i y v h1 h2 h3=>?_⟩
    cases i with
    | zero =>
      have z:(some none:Option (Option V))=some (some v):=h2
      cases z
    | succ k =>
      have h1':(js.map fun j=>X.N.getD j "")[k]?=some y:=h1
      have h2':(js.map fun j=>(σ[j]?).getD none)[k]?=some (some v):=h2
      rw [List.getElem?_map] at h1' h2'
      cases hj:js[k]? with
      | none=>rw [hj] at h1';cases h1'
      | some j =>
        rw [hj] at h1' h2'
        have e1:X.N.getD j ""=y:=Option.some.inj h1'
        have e2:(σ[j]?).getD none=some v:=Option.some.inj h2'
        obtain ⟨y',n1,n2,n3,n4⟩:=hjs.all j (List.mem_of_getElem? hj)
        have e3:y'=y:=by rw [← e1,List.getD_eq_getElem?_getD,n1];rfl
        subst e3
        have e4:σ[j]?=some (some v):=by
          cases q:σ[j]? with
          | none=>rw [q] at e2;cases e2
          | some a=>rw [q] at e2;exact congrArg some e2
        obtain ⟨m0,_,hl⟩:=I.loc
        obtain ⟨u,r,l⟩:=hl j y' v n1 e4 (n2.elim (fun z=>Or.inr (Or.inl z)) fun z=>Or.inr (Or.inr z))
        refine ⟨u,r,.inr ⟨n4,?_⟩⟩
        rcases l with ⟨l,_⟩ | ⟨_,c,hc,hi⟩
        · exfalso
          rcases n2 with z | z <;> (rw [z] at l;cases l)
        · obtain ⟨c',hc'⟩:=hcl2 y' n3
          have e5:=hcl1 y' c' hc'
          rw [hc] at e5
          have e6:=Option.some.inj e5
          subst e6
          obtain ⟨o,ho,hd⟩:=hi
          exact ⟨c,hc',o,hkeep c o ho,hd⟩
  cell:=fun y c h=>by
    obtain ⟨v,o,ho,hd⟩:=I.cell y c (hcl1 y c h)
    exact ⟨v,o,hkeep c o ho,hd⟩
  free:=I.hok.fresh (Nat.le_refl _)
  freeC:=fun y c h=>I.freeC y c (hcl1 y c h)
  pin:=fun p hp=>absurd (show p∈([]:List (Addr×Obj)) from hp) (by simp)
  hok:=I.hok.kept hkeep
  len:=by
    show (none::cVals js σ).length=(cNames X x js).length
    simp [cVals,cNames]
end
noncomputable def PIf (X:Cx) (ifs:List Expr) (t:TT):Prop :=
  ∀(pins:List (Addr×Obj)) (s:Shared) (σ:St) (H:Hp) (Q:Bool→Hp→Prop),Inv X pins σ H s→t σ H Q→
    wpAny (model X.prog X.w) X.A (forIn ifs true fun c r=>if r=true then do let ok ← isTrue c X.env (eval c X.env);pure (ForInStep.yield ok) else pure (ForInStep.yield r)) (TP X pins σ Q) X.xe s
noncomputable def tNoIf:TT:=fun _ H Q=>Q true H
theorem pif_nil {X:Cx}:PIf X [] tNoIf:=fun _ _ _ H _ I h=>wpAny_tests_nil ⟨H,I,h⟩
theorem pif_one {X:Cx} {c:Expr} {t:TT} (h:PT X c t):PIf X [c] t:=fun pins s σ H Q I q=>wpAny_tests_one (h pins s σ H Q I q)
noncomputable def tComp (wi:TI) (tc:TT) (te:TE) (js:List Nat):TE:=fun σ H Q=>wi σ H fun J H1=>∀ D,H1 D=none→
  ∃ W:Nat→Nat→Hp→Prop,(∃ m,W 0 m (upd H1 D (.lst [])))∧∀ i m H2,W i m H2→(J.stop i H2∧Q (.ref D) H2)∨
    (J.go i H2∧∀ v H3,J.yld i H2 v H3→tc (some v::cVals js σ) H3 fun b H4=>if b=true then te (some v::cVals js σ) H4 fun y H5 =>
      ∃ ys,H5 D=some (.lst ys)∧ys.length < sizeLine∧∃ m',m' < m∧W (i+1) m' (upd H5 D (.lst (ys++[y]))) else ∃ m',m' < m∧W (i+1) m' H4)
section
variable {X:Cx} {elt iter:Expr} {x:Str} {px pos:Pos} {ifs:List Expr} {scope:Scope} {cl:List (Str×Addr)} {wi:TI} {tc:TT} {te:TE} {js:List Nat}
theorem comp_core {use:Option (Value→Sem Unit)} {Qv:Value→Shared→Prop} {pins:List (Addr×Obj)} {s:Shared} {σ:St} {H:Hp} {Q:VK}
    (hc:X.calm=true) (hi:PI X (.Name x px) iter wi) (hk:scope.kind=.function) (hcell:∀ y∈scope.names,y.2≠.cell) (hx:(relabel scope X.env).names.lookup x=some .local)
    (hcl1:∀ y c,cl.lookup y=some c→X.env.cells.lookup y=some c) (hcl2:∀ y,(y,NameKind.free)∈scope.names→∃ c,cl.lookup y=some c) (hjs:FreeAt X scope js) (hnd:(cNames X x js).Nodup)
    (ht:∀ s' H' fp,PIf (cxComp X scope cl (cNames X x js) s' H' fp) ifs tc) (he:∀ s' H' fp,PE (cxComp X scope cl (cNames X x js) s' H' fp) elt te)
    (I:Inv X pins σ H s) (h:tComp wi tc te js σ H Q)
    (fin:∀(D C:Addr) (H':Hp) (s':Shared),Inv X pins σ H' s'→FpOk X pins H' C→(∃ m,s'.heap.Ns C m)→Q (.ref D) H'→compPost (model X.prog X.w) X.A X.xe use Qv (.ref D) C (.ok .next) s') :
    wpAny (model X.prog X.w) X.A (eval iter X.env) (fun xv s₁=>wpAny (model X.prog X.w) X.A (pyIter xv) (fun it s₂=>wpAny (model X.prog X.w) X.A (newList []) (fun acc s₃ =>
      wpAny (model X.prog X.w) X.A (newFunctionEnv scope X.env.globals cl [] X.env.qual none .none (some X.env)) (fun cenv s₄ =>
        codeAny (model X.prog X.w) X.A (.compStart (.ListComp elt [⟨.Name x px,iter,ifs,0⟩] scope pos) 0 it acc {cenv with scope:=relabel scope X.env})
          (compPost (model X.prog X.w) X.A X.xe use Qv acc cenv.locals) s₄) X.xe s₃) X.xe s₂) X.xe s₁) X.xe s:=by
  refine thn (hi pins s σ H _ I h) fun v s1 h1=>thn h1 fun itv s2 h2=>?_
  obtain ⟨it,fp,tn,J,H2,e,I2,T,st2,f2,hW⟩:=h2
  subst e
  obtain ⟨W,⟨m0,w0⟩,turn⟩:=hW s2.heap.objs.size (I2.hok.fresh (Nat.le_refl _))
  have hlt2:∀ b∈fp,b < s2.heap.objs.size:=fun b hb=>let ⟨_,e,_⟩:=T.obj _ _ st2 b hb;Heap.lt_size e
  have I3:Inv X pins σ (upd H2 s2.heap.objs.size (.lst [])) {s2 with heap:=s2.heap.push {cls:=.type "list",data:=.seq ([]:List Value).toArray} } :=
    I2.lnew (t':=s2.toks) (its:=[]) .nil (Nat.zero_le _)
  refine wpAny_newObj_type ?_
  have k23:∀ b o,s2.heap.get? b=some o→(s2.heap.push {cls:=.type "list",data:=.seq ([]:List Value).toArray}).get? b=some o:=fun b o e=>Heap.get?_push_of_some _ e
  have sz3:(s2.heap.push {cls:=.type "list",data:=.seq ([]:List Value).toArray}).objs.size=s2.heap.objs.size+1:=Heap.size_push ..
  generalize hs3:({s2 with heap:=s2.heap.push {cls:=.type "list",data:=.seq ([]:List Value).toArray} }:Shared)=s3 at I3
  have hs3':s3.heap=s2.heap.push {cls:=.type "list",data:=.seq ([]:List Value).toArray}:=by rw [← hs3]
  have hlt3:∀ b∈fp,b < s3.heap.objs.size:=fun b hb=>by rw [hs3',sz3];exact Nat.lt_succ_of_lt (hlt2 b hb)
  have f3:∀ b∈fp,FpOk X pins (upd H2 s2.heap.objs.size (.lst [])) b:=fun b hb=>⟨by rw [upd_ne (Nat.ne_of_lt (hlt2 b hb))];exact (f2 b hb).1,(f2 b hb).2⟩
  refine wpAny_newFunctionEnv hcell (by intro y hy;simp at hy) (fun h₁ hns hsb=>?_) hk
  have k34:∀ b o,s3.heap.get? b=some o→h₁.get? b=some o:=fun b o e=>hsb.extBut b o (Nat.ne_of_lt (Heap.lt_size e)) (Heap.get?_push_of_some _ e)
  have I4:=comp_start (x:=x) (js:=js) (tk:=s3.toks+([]:List (Str×Value)).length) I3 hk hcell hcl1 hcl2 hjs f3 hlt3 hns k34
  have st4:tn 0 h₁:=T.keep 0 _ _ st2 fun b hb o e=>k34 b o (by rw [hs3'];exact k23 b o e)
  have stat:∀{H':Hp},(∀ b∈fp,H' b=none)→∀ b∈fp,FpOk (cxComp X scope cl (cNames X x js) s3 (upd H2 s2.heap.objs.size (.lst [])) fp) [] H' b:=fun hn b hb =>
    ⟨hn b hb,Nat.ne_of_lt (hlt3 b hb),fun hz=>(List.mem_cons.mp (I3.stkSub b hz)).elim (f2 b hb).2.1 (f2 b hb).2.2.1,.inl hb,fun y c q=>(f2 b hb).2.2.2.2.1 y c (hcl1 y c q),fun p hp=>absurd (show p∈([]:List (Addr×Obj)) from hp) (by simp)⟩
  have back:∀{σ':St} {H':Hp} {s':Shared},Inv (cxComp X scope cl (cNames X x js) s3 (upd H2 s2.heap.objs.size (.lst [])) fp) [] σ' H' s'→Inv X pins σ H' s':=fun {σ' H' s'} J' =>
    I3.call' (ch:=fp) J'.os J'.base J'.hok J'.bare fun b hb=>⟨(f2 b hb).2.2.2.1,(f2 b hb).2.1,(f2 b hb).2.2.2.2.1,(f2 b hb).2.2.2.2.2⟩
  have loop:codeAny (model X.prog X.w) X.A (.compLoop (.ListComp elt [⟨.Name x px,iter,ifs,0⟩] scope pos) 0 (.ref it) (.ref s2.heap.objs.size) (compEnvC scope cl s3.heap.objs.size X.env))
      (compPost (model X.prog X.w) X.A X.xe use Qv (.ref s2.heap.objs.size) s3.heap.objs.size) {s3 with heap:=h₁,toks:=s3.toks+([]:List (Str×Value)).length}:=by
    refine codeAny_compLoop_tests (fun n s'=>∃ i o H',Inv (cxComp X scope cl (cNames X x js) s3 (upd H2 s2.heap.objs.size (.lst [])) fp) [] (o::cVals js σ) H' s'∧tn i s'.heap∧(∀ b∈fp,H' b=none)∧W i n H') ?_ m0
      ⟨0,none,_,I4,st4,fun b hb=>(f3 b hb).1,w0⟩
    rintro n s5 ⟨i,o,H5,I5,st5,fr5,w5⟩
    rcases turn i n H5 w5 with ⟨stop,q⟩ | ⟨go,step⟩
    · refine thn (T.done (cxComp X scope cl (cNames X x js) s3 (upd H2 s2.heap.objs.size (.lst [])) fp) rfl rfl rfl hc i [] s5 _ H5 _ I5 (stat fr5) st5 stop) fun r s6 zz=>?_
      obtain ⟨hr,I6⟩:=zz
      subst hr
      exact fin _ _ H5 s6 (back I6) (I3.fpOk (Nat.le_refl _) I6.free) (let ⟨m,hm,_⟩:=I6.loc;⟨m,hm⟩) q
    · refine thn (T.item (cxComp X scope cl (cNames X x js) s3 (upd H2 s2.heap.objs.size (.lst [])) fp) rfl rfl rfl hc i [] s5 _ H5 _ I5 (stat fr5) st5 go) fun r s6 zz=>?_
      obtain ⟨u,hr,h6⟩:=zz
      subst hr
      show wpAny _ _ (assign (.Name x px) _ u) _ _ s6
      intro Γ p hΓ
      have h6':=h6 Γ p hΓ
      obtain ⟨v,H6,I6,r6,y6,st6,fr6⟩:=h6'
      refine (?_:wpAny _ _ _ _ _ s6) Γ p hΓ
      have I6':=I6.pinned (stat fr6) (T.obj _ _ st6)
      have hg:PG (cxComp X scope cl (cNames X x js) s3 (upd H2 s2.heap.objs.size (.lst [])) fp) (.Name x px) (gName 0):=pg_name (i:=0) hnd rfl (Or.inl hx) (.inr hx)
      refine wpAny_mono (hg _ s6 _ H6 v u (fun σ' H'=>σ'=some v::cVals js σ∧H'=H6) I6' r6 ⟨rfl,rfl⟩) (fun _ s7 q7=>?_) (fun _ _ f=>False.elim f)
      obtain ⟨σ7,H7,I7,e7,e8⟩:=q7
      subst e7 e8
      refine wpAny_mono (ht s3 _ fp _ s7 _ H7 _ I7 (step v H7 y6)) (fun ok s8 q8=>?_) (fun _ _ f=>False.elim f)
      obtain ⟨H8,I8,q8⟩:=q8
      have again:∀{s9:Shared} {σ9:St} {H9:Hp} {m':Nat},Inv (cxComp X scope cl (cNames X x js) s3 (upd H2 s2.heap.objs.size (.lst [])) fp) ([]++pinsAt fp s6.heap) (some v::cVals js σ) H9 s9→m' < n→W (i+1) m' H9→
          ∃ m,m < n∧∃ i o H',Inv (cxComp X scope cl (cNames X x js) s3 (upd H2 s2.heap.objs.size (.lst [])) fp) [] (o::cVals js σ) H' s9∧tn i s9.heap∧(∀ b∈fp,H' b=none)∧W i m H':=fun {s9 σ9 H9 m'} I9 hm w9=>by
        refine ⟨m',hm,i+1,some v,H9,I9.unpinned,T.keep _ _ _ st6 fun b hb o e=>(I9.pin (b,o) (List.mem_append_right _ (List.mem_append_right _ (mem_pinsAt hb e)))).1,fun b hb=>?_,w9⟩
        obtain ⟨o,e,d⟩:=T.obj _ _ st6 b hb
        exact (I9.pin (b,o) (List.mem_append_right _ (List.mem_append_right _ (mem_pinsAt hb e)))).2.1
      cases ok with
      | false =>
        rw [if_neg Bool.false_ne_true] at q8 ⊢
        obtain ⟨m',hm,w9⟩:=q8
        exact again (σ9:=[]) I8 hm w9
      | true =>
        rw [if_pos rfl] at q8 ⊢
        refine wpAny_mono (he s3 _ fp _ s8 _ H8 _ I8 q8) (fun y s9 q9=>?_) (fun _ _ f=>False.elim f)
        obtain ⟨yv,H9,I9,r9,ys,hD,hl,m',hm,w9⟩:=q9
        refine wpAny_mono (mt_append (X:=cxComp X scope cl (cNames X x js) s3 (upd H2 s2.heap.objs.size (.lst [])) fp) _ s9 _ H9 (.ref s2.heap.objs.size) [yv] (.ref s2.heap.objs.size) [y] (fun _ H'=>H'=upd H9 s2.heap.objs.size (.lst (ys++[yv]))) I9 rfl (.cons r9 .nil) ⟨_,ys,yv,rfl,rfl,hD,hl,rfl⟩) (fun _ s10 q10=>?_) (fun _ _ f=>False.elim f)
        obtain ⟨_,H10,I10,_,e10⟩:=q10
        subst e10
        exact again (σ9:=[]) I10 hm w9
  exact codeAny_compStart_list loop (T.self _ 0 _ _ _ st4 loop)
theorem pe_comp (hc:X.calm=true) (hi:PI X (.Name x px) iter wi) (hk:scope.kind=.function) (hcell:∀ y∈scope.names,y.2≠.cell) (hnames:∀ y∈scope.names,y.2=.local→scope.names.lookup y.1=some .local) (hx:(relabel scope X.env).names.lookup x=some .local)
    (hclos:closureFor scope X.env=pure cl) (hcl1:∀ y c,cl.lookup y=some c→X.env.cells.lookup y=some c) (hcl2:∀ y,(y,NameKind.free)∈scope.names→∃ c,cl.lookup y=some c) (hjs:FreeAt X scope js) (hnd:(cNames X x js).Nodup)
    (ht:∀ s' H' fp,PIf (cxComp X scope cl (cNames X x js) s' H' fp) ifs tc) (he:∀ s' H' fp,PE (cxComp X scope cl (cNames X x js) s' H' fp) elt te)
    (hs:∀ x,foldedSetIterable iter X.env x=pure x:=by intro _;rfl):PE X (.ListComp elt [⟨.Name x px,iter,ifs,0⟩] scope pos) (tComp wi tc te js):=by
  intro pins s σ H Q I h
  rw [eval_ListComp]
  refine wpAny_comprehension_free (use:=none) rfl hs hclos hk hnames (comp_core hc hi hk hcell hx hcl1 hcl2 hjs hnd ht he I h fun D C H' s' I' fC hC q=>?_)
  obtain ⟨m,hm⟩:=hC
  refine ⟨m,hm,fun h' sb=>?_⟩
  obtain ⟨f0,f1,f2,f3,f4,f5⟩:=fC
  exact ⟨.ref D,H',I'.turned (t':=s'.toks) (fun b o hb e=>(sb.2 b hb).trans e) f0 f1 f3 f4 f5,rfl,q⟩
noncomputable def tAsgC (i:Nat) (te:TE):TS:=fun D σ H=>te σ H fun v H1=>D.nx (σ.set i (some v)) H1
theorem ps_setC {y:Str} {i:Nat} {py spos:Pos} (hN:X.N.Nodup) (hy:X.N[i]?=some y) (hyl:Loc X.env.scope y) (hyf:X.fn y=true∨X.env.scope.names.lookup y=some .local)
    (hsw:swapsWith (.ListComp elt [⟨.Name x px,iter,ifs,0⟩] scope pos) (some (.Name y py)) spos.line X.env=pure true)
    (hc:X.calm=true) (hi:PI X (.Name x px) iter wi) (hk:scope.kind=.function) (hcell:∀ y∈scope.names,y.2≠.cell) (hnames:∀ y∈scope.names,y.2=.local→scope.names.lookup y.1=some .local) (hx:(relabel scope X.env).names.lookup x=some .local)
    (hclos:closureFor scope X.env=pure cl) (hcl1:∀ y c,cl.lookup y=some c→X.env.cells.lookup y=some c) (hcl2:∀ y,(y,NameKind.free)∈scope.names→∃ c,cl.lookup y=some c) (hjs:FreeAt X scope js) (hnd:(cNames X x js).Nodup)
    (ht:∀ s' H' fp,PIf (cxComp X scope cl (cNames X x js) s' H' fp) ifs tc) (he:∀ s' H' fp,PE (cxComp X scope cl (cNames X x js) s' H' fp) elt te)
    (hs:∀ x,foldedSetIterable iter X.env x=pure x:=by intro _;rfl) :
    PS X (.Assign [.Name y py] (.ListComp elt [⟨.Name x px,iter,ifs,0⟩] scope pos) spos) (tAsgC i (tComp wi tc te js)):=by
  intro pins s σ H D I h
  rw [exec_Assign_Name_used _ _ _ _ hsw]
  refine wpAny_bind (wpAny_standAt (wpAny_bind ?_))
  show wpAny _ _ (do let _ ← comprehension (.ListComp elt [⟨.Name x px,iter,ifs,0⟩] scope pos) scope X.env _ (newList []) false (eval iter X.env) (some (assign (.Name y py) X.env))) _ _ s
  refine wpAny_bind (wpAny_mono (wpAny_comprehension_free (use:=some (assign (.Name y py) X.env)) (Q:=fun _ s'=>SP X pins D .next s') rfl hs hclos hk hnames
    (comp_core hc hi hk hcell hx hcl1 hcl2 hjs hnd ht he I h fun D' C H' s' I' fC hC q=>?_)) (fun _ s' hq=>wpAny_pure (wpAny_pure hq)) fun _ _ e=>e)
  obtain ⟨m,o,es,ep,ho,hd,hr⟩:=hC
  obtain ⟨f0,f1,f2,f3,f4,f5⟩:=fC
  have Ip:Inv X (pins++[(C,o)]) σ H' s':=I'.pins_of fun p hp=>(List.mem_append.mp hp).elim (fun z=>I'.pin p (List.mem_append_right _ z)) fun z=>by
    have e:p=(C,o):=by simpa using z
    subst e
    exact ⟨ho,f0,f1,f2,fun v z=>by rw [hd] at z;cases z⟩
  have hg:PG X (.Name y py) (gName i):=pg_name hN hy hyl hyf
  refine thn (hg _ s' σ H' (.ref D') (.ref D') (fun σ' H''=>σ'=σ.set i (some (.ref D'))∧H''=H') Ip rfl ⟨rfl,rfl⟩) fun _ s'' q''=>?_
  obtain ⟨σ'',H'',I'',e1,e2⟩:=q''
  subst e1 e2
  have hp:=(I''.pin (C,o) (by simp)).1
  refine ⟨m,⟨o,es,ep,hp,hd,hr⟩,fun h' sb=>?_⟩
  exact ⟨_,_,(I''.unpinned).turned (t':=s''.toks) (fun b o hb e=>(sb.2 b hb).trans e) f0 f1 f3 f4 f5,q⟩
end
end L2
namespace L2
open PySem PySem.Spec PyProof.Rows
structure TopDef (K:PySem.W.Frag) (mg:Str→Option Value) (x:Str) (st:Stmt):Prop where
  ex:∃(f:Addr) (fd:FuncData),Fun K x x st f fd∧mg x=some (.ref f)
theorem top_mk {K:PySem.W.Frag} {h:Heap} {mg:Str→Option Value} {x:Str} {st:Stmt} {f:Addr} {oc kV doc pm cdv ct:Value} {od an:Option Addr} {osl:Array (Option Value)} (X:K.In h) (G:h.Ns mainGlobals mg)
    (a:PySem.W.nsIn K mainGlobals x=some (some (.ref f)))
    (l:K.lookup f=some ⟨oc,od,.func (PySem.W.fnOf x x (defArgs st) (defBody st) (defScope st) .none kV doc pm an cdv ct),osl⟩)
    (c:PySem.W.codeIn K cdv x=true) (k:PySem.W.keepIn K (.ref f)=true):TopDef K mg x st :=
  ⟨_,_,fun_mk l c k,PySem.W.mg_of X G a⟩
structure Def (P:Program) (w:World) (K:PySem.W.Frag) (mg:Str→Option Value) (base:Heap) (n:Nat) (x:Str) (ps:List Str) (sp:Sp):Prop where
  ex:∃(f:Addr) (fd:FuncData),FnOk P w K mg base CX0 n f fd ps sp∧Binds K fd ps []∧PySem.W.keepIn K (.ref f)=true∧mg x=some (.ref f)
section
variable {P:Program} {w:World} {K:PySem.W.Frag} {mg:Str→Option Value} {base:Heap}
theorem def_of {x:Str} {st:Stmt} {N ps:List Str} {k:Nat} {sp:Sp} (T:TopDef K mg x st) (S:FnScope N ps (defScope st))
    (bd:∀(kV doc pm:Value) (an:Option Addr) (cdv ct:Value) (us:List Value),us.length=ps.length→bindArgs (PySem.W.fnOf x x (defArgs st) (defBody st) (defScope st) .none kV doc pm an cdv ct) ⟨us,[]⟩=pure (ps.zip us))
    (len:∀ vs H Q E,sp vs H Q E→vs.length=ps.length)
    (body:∀(f:Addr) (cdv:Value) (A:Around) (outer:List Env) (s:Shared) (H:Hp) (vs:List V) (Q:VK) (E:XK),Room k (A.deeper (envOfC x (defScope st) s.heap.objs.size f cdv))→sp vs H Q E→
      ∃ t,PSs (cxOf CX0 P w K mg base N x (defScope st) f cdv A outer s H E).nox (defBody st) t∧t {nx:=fun _ H'=>Q .non H',rt:=Q} (start N vs) H) :
    Def P w K mg base (k+1) x ps sp:=by
  obtain ⟨f,fd,F,m⟩:=T.ex
  exact ⟨f,fd,F.ok S len (body f),F.binds bd,F.kp,m⟩
end
section
variable {X:Cx} {n:Nat} {x:Str} {ps:List Str} {sp:Sp} {e a b:Expr} {es:List Expr} {t:TA} {ta tb:TE} {p pos:Pos}
theorem pe_def (D:Def X.prog X.w X.K X.mg X.base n x ps sp) (hr:Room n X.A) (hg:Gl X x) (ha:PA X (e::es) t) (hdb:(x == ("__debug__":Str))=false:=by decide)
    (he:starEach (e::es) X.env=(false,eval e X.env)::starEach es X.env:=by rfl) (hpl:(backTo pos (starEach es X.env)).any (·.1)=false:=by rfl) :
    PE X (.Call (.Name x p) (e::es) [] pos) (tCall sp [] E0 t):=by
  obtain ⟨f,fd,F,b,kp,m⟩:=D.ex
  exact pe_call F hr hg m kp b .nil pass0 ha hdb he hpl
theorem op_mulK:OpR X (binaryOp .Mult) (rI IntMulOk fun i j=>.int (i*j)):=opI fun _ _ _ _ _ _ _ hc q=>PyProof.Rows.mul_int q hc
noncomputable def CDivK (_ j:Int):Prop:=j≠0∧j.natAbs.log2 < 9000
theorem op_fdivK:OpR X (binaryOp .FloorDiv) (rI CDivK fun i j=>.int (i.fdiv j)):=opI fun _ _ _ _ _ _ _ hc q=>PyProof.Rows.floordiv_int hc.1 q (.inl (PyProof.noPylong_of_log2 hc.2))
theorem call_isi:CallR X (.builtin "isinstance") (fun xs H Q=>∃(y:V) (c:V) (cv t:Value) (k:Bool),xs=[y,c]∧(∀ u,RelV c u→u=cv)∧TyOf X.K H y t∧PySem.W.kitOne X.K t cv=some k∧Q (.bl k) H):=by
  intro pins s σ H xs us Q I r h
  obtain ⟨y,c,cv,t,k,rfl,hc,ty,kt,q⟩:=h
  obtain ⟨u,w',rfl,r1,r2⟩:=vals2 r
  have e:=hc _ r2
  subst e
  exact isinst_ok I r1 ty kt fun tk=>⟨.bl k,H,I.tok tk,rfl,q⟩
end
end L2
namespace L2
open PySem PySem.Spec PySem.Calls PyProof.Rows PySem.W PySem.Builtin.Getset_descriptor
section
variable {prog:Program} {w:World} {A:Around} {E:Value→Shared→Prop} {s:Shared} {K:Frag} {x D:Addr}
end
end L2
namespace L2
open PySem PySem.Spec PyProof.Rows
section
variable {P:Program} {w:World} {H:Hp} {h:Heap} {a:Addr} {o:HO}
end
section
variable {P:Program} {w:World} {K:PySem.W.Frag} {mg:Str→Option Value} {base:Heap} {N:List Str} {qual:Str} {scope:Scope} {f:Addr} {cd:Value} {A:Around} {outer:List Env} {s:Shared} {H:Hp} {E:XK}
end
end L2
namespace L2
open PySem PySem.Spec PyProof.Rows PySem.W
section
variable {P:Program} {w:World} {K:Frag} {mg:Str→Option Value} {base:Heap} {N:List Str} {qual:Str} {scope:Scope} {f:Addr} {cd:Value} {A:Around} {outer:List Env} {s:Shared} {H:Hp} {E:XK}
end
end L2
namespace L2
open PySem PySem.Spec PyProof.Rows PySem.W
section
variable {X:Cx} {pins:List (Addr×Obj)} {σ:St} {H H':Hp} {s s':Shared}
end
end L2
namespace L2
open PySem PySem.Spec PyProof.Rows PySem.W
end L2
namespace L2
open PySem PySem.Spec PyProof.Rows PySem.W
section
variable {X:Cx}
theorem clo_aux {env:Env}:∀(names:List (Str×NameKind)) (acc:List (Str×Addr)),(∀ y,(y,NameKind.free)∈names→∃ c,env.cells.lookup y=some c)→
    ∃ cl:List (Str×Addr),(forIn names acc (fun x r=>match x with
        | (name,kind)=>if (kind == NameKind.free)=true then do let a ← cellOf env name;pure (ForInStep.yield ((name,a)::r)) else pure (ForInStep.yield r)):Sem _)=pure cl∧
      (∀ y c,cl.lookup y=some c→acc.lookup y=some c∨env.cells.lookup y=some c)∧(∀ y,(y,NameKind.free)∈names→∃ c,cl.lookup y=some c)∧∀ y,(∃ c,acc.lookup y=some c)→∃ c,cl.lookup y=some c
  | [],acc,_=>⟨acc,rfl,fun _ _ h=>.inl h,(fun _ h=>nomatch h),fun _ h=>h⟩
  | (nm,kd)::r,acc,h=>by
    by_cases hk:kd=.free
    · subst hk
      obtain ⟨c,hc⟩:=h nm List.mem_cons_self
      obtain ⟨cl,e,p1,p2,p3⟩:=clo_aux r ((nm,c)::acc) fun y hy=>h y (List.mem_cons_of_mem _ hy)
      refine ⟨cl,?_,fun y d hd=>?_,fun y hy=>?_,fun y hy=>?_⟩
      · rw [List.forIn_cons]
        have z:cellOf env nm=pure c:=by unfold cellOf;rw [hc]
        simp only [z,beq_self_eq_true,if_true]
        exact e
      · rcases p1 y d hd with q | q
        · rw [List.lookup_cons] at q
          cases hy:y == nm with
          | true =>
            rw [hy] at q
            have e1:=beq_iff_eq.mp hy
            subst e1
            cases q
            exact .inr hc
          | false=>rw [hy] at q;exact .inl q
        · exact .inr q
      · rcases List.mem_cons.mp hy with q | q
        · cases q
          exact p3 nm ⟨c,by rw [List.lookup_cons,beq_self_eq_true]⟩
        · exact p2 y q
      · obtain ⟨d,hd⟩:=hy
        refine p3 y ?_
        rw [List.lookup_cons]
        cases y == nm with
        | true=>exact ⟨c,rfl⟩
        | false=>exact ⟨d,hd⟩
    · obtain ⟨cl,e,p1,p2,p3⟩:=clo_aux r acc fun y hy=>h y (List.mem_cons_of_mem _ hy)
      refine ⟨cl,?_,p1,fun y hy=>?_,p3⟩
      · rw [List.forIn_cons]
        have z:(kd == NameKind.free)=false:=by simpa using hk
        simp only [z,Bool.false_eq_true,if_false]
        exact e
      · rcases List.mem_cons.mp hy with q | q
        · cases q;exact absurd rfl hk
        · exact p2 y q
theorem clo_of {scope:Scope} {env:Env} (h:∀ y,(y,NameKind.free)∈scope.names→∃ c,env.cells.lookup y=some c) :
    ∃ cl,closureFor scope env=pure cl∧(∀ y c,cl.lookup y=some c→env.cells.lookup y=some c)∧∀ y,(y,NameKind.free)∈scope.names→∃ c,cl.lookup y=some c:=by
  obtain ⟨cl,e,p1,p2,_⟩:=clo_aux (env:=env) scope.names [] h
  refine ⟨cl,?_,fun y c hc=>(p1 y c hc).elim (fun z=>by cases z) fun z=>z,p2⟩
  unfold closureFor
  show (forIn scope.names [] _ >>= fun s=>pure s)=pure cl
  rw [bind_pure]
  exact e
theorem free_of {scope:Scope} {js:List Nat} {pins:List (Addr×Obj)} {σ:St} {H:Hp} {s:Shared} (I:Inv X pins σ H s) (hf:∀ y,(y,NameKind.free)∈scope.names→X.env.kindOf y=some .cell∨X.env.kindOf y=some .free) :
    ∀ y,(y,NameKind.free)∈scope.names→∃ c,X.env.cells.lookup y=some c:=fun y hy=>I.ok.has y (hf y hy)
variable {elt iter:Expr} {x:Str} {px pos:Pos} {ifs:List Expr} {scope:Scope} {wi:TI} {tc:TT} {te:TE} {js:List Nat}
theorem pe_compF (hc:X.calm=true) (hi:PI X (.Name x px) iter wi) (hk:scope.kind=.function) (hcell:∀ y∈scope.names,y.2≠.cell) (hnames:∀ y∈scope.names,y.2=.local→scope.names.lookup y.1=some .local) (hx:(relabel scope X.env).names.lookup x=some .local)
    (hf:∀ p∈scope.names,p.2=.free→X.env.kindOf p.1=some .cell∨X.env.kindOf p.1=some .free) (hjs:FreeAt X scope js) (hnd:(cNames X x js).Nodup)
    (ht:∀ cl s' H' fp,PIf (cxComp X scope cl (cNames X x js) s' H' fp) ifs tc) (he:∀ cl s' H' fp,PE (cxComp X scope cl (cNames X x js) s' H' fp) elt te)
    (hs:∀ x,foldedSetIterable iter X.env x=pure x:=by intro _;rfl):PE X (.ListComp elt [⟨.Name x px,iter,ifs,0⟩] scope pos) (tComp wi tc te js):=by
  intro pins s σ H Q I h
  obtain ⟨cl,e,p1,p2⟩:=clo_of (free_of (js:=js) I fun y hy=>hf (y,.free) hy rfl)
  exact pe_comp hc hi hk hcell hnames hx e p1 p2 hjs hnd (ht cl) (he cl) hs pins s σ H Q I h
theorem ps_setF {y:Str} {i:Nat} {py spos:Pos} (hN:X.N.Nodup) (hy:X.N[i]?=some y) (hyl:Loc X.env.scope y) (hyf:X.fn y=true∨X.env.scope.names.lookup y=some .local)
    (hsw:swapsWith (.ListComp elt [⟨.Name x px,iter,ifs,0⟩] scope pos) (some (.Name y py)) spos.line X.env=pure true)
    (hc:X.calm=true) (hi:PI X (.Name x px) iter wi) (hk:scope.kind=.function) (hcell:∀ y∈scope.names,y.2≠.cell) (hnames:∀ y∈scope.names,y.2=.local→scope.names.lookup y.1=some .local) (hx:(relabel scope X.env).names.lookup x=some .local)
    (hf:∀ p∈scope.names,p.2=.free→X.env.kindOf p.1=some .cell∨X.env.kindOf p.1=some .free) (hjs:FreeAt X scope js) (hnd:(cNames X x js).Nodup)
    (ht:∀ cl s' H' fp,PIf (cxComp X scope cl (cNames X x js) s' H' fp) ifs tc) (he:∀ cl s' H' fp,PE (cxComp X scope cl (cNames X x js) s' H' fp) elt te)
    (hs:∀ x,foldedSetIterable iter X.env x=pure x:=by intro _;rfl) :
    PS X (.Assign [.Name y py] (.ListComp elt [⟨.Name x px,iter,ifs,0⟩] scope pos) spos) (tAsgC i (tComp wi tc te js)):=by
  intro pins s σ H D I h
  obtain ⟨cl,e,p1,p2⟩:=clo_of (free_of (js:=js) I fun y hy=>hf (y,.free) hy rfl)
  exact ps_setC hN hy hyl hyf hsw hc hi hk hcell hnames hx e p1 p2 hjs hnd (ht cl) (he cl) hs pins s σ H D I h
end
end L2
namespace L2
open PySem PySem.Spec PyProof.Rows PySem.W
theorem weight_mem:∀{ns:List Int} {n:Int},n∈ns→WData.weight (.int n)≤WData.weightAll (ns.map WData.int)
  | [],_,h=>nomatch h
  | m::r,n,h=>by
    show _≤WData.weight (.int m)+1+WData.weightAll (r.map WData.int)
    rcases List.mem_cons.mp h with e | e
    · subst e;omega
    · have:=weight_mem (ns:=r) e
      omega
theorem bits_weight (n:Int):Builtin.Int.intBits n=WData.weight (.int n):=by
  show _=if n == 0 then 0 else n.natAbs.log2+1
  unfold Builtin.Int.intBits
  by_cases h:n=0
  · subst h;rfl
  · simp [h]
theorem script_bits {ns:List Int} (h:WData.layableAll [.list (ns.map .int)]=true):∀ n∈ns,Builtin.Int.intBits n≤1048576:=fun n hn=>by
  have h1:WData.layable (.list (ns.map .int))=true:=by
    simpa [WData.layableAll] using h
  have h2:WData.weight (.list (ns.map .int))≤2 ^ 20:=by
    unfold WData.layable at h1
    rw [Bool.and_eq_true,Bool.and_eq_true] at h1
    exact of_decide_eq_true h1.2
  have h3:WData.weightAll (ns.map WData.int)≤2 ^ 20:=h2
  have h4:=weight_mem hn
  rw [bits_weight]
  omega
theorem walk_bits {l:OpenLaw} {n k:Nat} {q:Program} {loose:List Str} {XP:(Str→Option Value)→Heap→Prop} {YP:World→Heap→Prop} {d:DefRec} {K:Params→Frag} {CX:CXT} {sp:Frag→Sp} {x:Str}
    (hn:l.most=some n) (hn2:n≤sizeLine) (hdf:d.params.defaults=[]) (hr:Room k callerA) (hY:∀(w:World) (h:Heap),YP w h→(K w.params).In h)
    (F:∀(w:World) (mg:Str→Option Value) (fa:Addr) (h:Heap),(K w.params).In h→h.Ns mainGlobals mg→mg d.name=some (.ref fa)→
      ∃ fd:FuncData,(∀(s:Shared) (u:Value),BindsTo s fd ⟨[u],[]⟩ [(x,u)])∧∀ base:Heap,(K w.params).In base→base.Ns mainGlobals mg→FnOk l.prog w (K w.params) mg base CX k fa fd [x] (sp (K w.params)))
    (hsp:∀(K:Frag) (H:Hp) (a:Addr) (ns:List Int),ns.length≤n→(∀ m∈ns,Builtin.Int.intBits m≤1048576)→Only H→SqL K H a (ns.map V.int)→sp K [.ref a] H (fun v _=>v=.bl true) fun _ _ _=>False)
    (hCX:∀(H:Hp) (s:Shared) (e:Value) (s':Shared),CX [] H s (fun _ _ _=>False) e s'→False):WalkO q loose XP YP l.row.toRowW d [] (fun f vs=>PySem.call f vs):=by
  intro w s₀ s₁ mg mb G Y fa o pm cd doc dV kV ho hd hcd hD hmg hg args vals as hpre hlay hrd hwl hlo
  obtain rfl:dV=.none:=Dflts.none hD hdf
  obtain rfl:kV=.none:=Dflts.noKw hD
  obtain ⟨a,vs,ns,rfl,rfl,hobj,hints,hlen⟩:=Att.script_of hn hpre hwl
  have KX:=hY w _ Y
  obtain ⟨fd,hb,hF⟩:=F w mg fa _ KX G.T.g hmg
  have c:=law_call KX G.T.g G.T.b G.T.builtins G.T.nolimit hg hobj hints (Nat.le_trans hlen hn2) hr hF hb (fun H hO hS=>hsp (K w.params) H a ns hlen (script_bits hlay) hO hS) fun H e s'=>hCX H s₁ e s'
  refine enter_call (codeAny_mono c fun r s' hq=>?_)
  obtain ⟨rfl,h2,h3,h4⟩:=hq
  exact ⟨.inl ⟨.bool true,.bool true,[],rfl,fun _=>rfl,.bool true,Att.post_true l _,fun _=>⟨List.Pairwise.nil,fun _ hm=>(nomatch hm)⟩⟩,h2,h3,h4⟩
end L2
namespace L2
open PySem PySem.Spec PyProof.Rows
section
variable {κ:Type} [DecidableEq κ]
noncomputable def valV (kvs:List (κ×V)) (k:κ):Option V:=(kvs.find? fun kv=>decide (kv.1=k)).map (·.2)
noncomputable def putK (kvs:List (κ×V)) (k:κ) (v:V):List (κ×V) :=
  if (kvs.any fun kv=>decide (kv.1=k))=true then kvs.map (fun kv=>if kv.1=k then (kv.1,v) else kv) else kvs++[(k,v)]
theorem valV_pos {p:κ×V} {r:List (κ×V)} {k:κ} (e:p.1=k):valV (p::r) k=some p.2:=by simp [valV,List.find?_cons,e]
theorem valV_neg {p:κ×V} {r:List (κ×V)} {k:κ} (e:¬p.1=k):valV (p::r) k=valV r k:=by simp [valV,List.find?_cons,e]
theorem valV_any (k:κ):∀ kvs:List (κ×V),(kvs.any fun kv=>decide (kv.1=k))=(valV kvs k).isSome
  | []=>rfl
  | p::r=>by
    rw [List.any_cons]
    by_cases e:p.1=k
    · simp only [valV_pos e,decide_eq_true e,Bool.true_or,Option.isSome_some]
    · rw [valV_neg e,decide_eq_false e,Bool.false_or];exact valV_any k r
theorem valV_map (k j:κ) (y:V):∀ kvs:List (κ×V),valV (kvs.map fun kv=>if kv.1=k then (kv.1,y) else kv) j=(valV kvs j).map fun x=>if j=k then y else x
  | []=>rfl
  | p::r=>by
    have ih:=valV_map k j y r
    rw [List.map_cons]
    by_cases h:p.1=k
    · rw [if_pos h]
      by_cases e:p.1=j
      · rw [valV_pos (p:=(p.1,y)) e,valV_pos e,Option.map_some,if_pos (e.symm.trans h)]
      · rw [valV_neg (p:=(p.1,y)) e,valV_neg e,ih]
    · rw [if_neg h]
      by_cases e:p.1=j
      · rw [valV_pos (p:=p) e,valV_pos e,Option.map_some,if_neg (fun z=>h (e.trans z))]
      · rw [valV_neg (p:=p) e,valV_neg e,ih]
theorem valV_snoc (k j:κ) (y:V):∀ kvs:List (κ×V),valV kvs k=none→valV (kvs++[(k,y)]) j=if j=k then some y else valV kvs j
  | [],_=>by
    by_cases e:k=j
    · rw [if_pos e.symm];exact valV_pos (p:=(k,y)) e
    · rw [if_neg (fun z=>e z.symm)];exact valV_neg (p:=(k,y)) e
  | p::r,hn=>by
    rw [List.cons_append]
    have hk:¬p.1=k:=fun z=>by rw [valV_pos z] at hn;cases hn
    rw [valV_neg hk] at hn
    have ih:=valV_snoc k j y r hn
    by_cases e:p.1=j
    · rw [valV_pos e,valV_pos e,if_neg (fun z=>hk (e.trans z))]
    · rw [valV_neg e,valV_neg e,ih]
theorem valV_put (kvs:List (κ×V)) (k j:κ) (y:V):valV (putK kvs k y) j=if j=k then some y else valV kvs j:=by
  unfold putK
  by_cases a:(kvs.any fun kv=>decide (kv.1=k))=true
  · rw [if_pos a,valV_map]
    rw [valV_any] at a
    by_cases e:j=k
    · obtain ⟨x,hx⟩:=Option.isSome_iff_exists.mp a
      rw [if_pos e,e,hx,Option.map_some,if_pos rfl]
    · rw [if_neg e]
      cases valV kvs j with
      | none=>rfl
      | some x=>rw [Option.map_some,if_neg e]
  · rw [if_neg a]
    refine valV_snoc k j y kvs ?_
    rw [valV_any] at a
    cases q:valV kvs k with
    | none=>rfl
    | some x=>rw [q] at a;exact (a rfl).elim
theorem length_putK (kvs:List (κ×V)) (k:κ) (v:V):(putK kvs k v).length≤kvs.length+1:=by
  unfold putK
  split
  · rw [List.length_map];omega
  · rw [List.length_append,List.length_cons,List.length_nil];omega
theorem RelO.isSome_eq {o:Option V} {u:Option Value} (r:RelO o u):o.isSome=u.isSome:=by
  cases o with
  | none=>cases u with
    | none=>rfl
    | some _=>exact (show False from r).elim
  | some _=>cases u with
    | none=>exact (show False from r).elim
    | some _=>rfl
theorem KV.val {kvs:List (κ×V)} {vs:List (κ×Value)} (r:KV kvs vs) (k:κ):RelO (valV kvs k) (valueAt vs k):=by
  unfold KV at r
  induction r with
  | nil=>exact True.intro
  | @cons p q ps qs h t ih =>
    obtain ⟨h1,h2⟩:=h
    by_cases e:p.1=k
    · have e':q.1=k:=h1.symm.trans e
      have b:valueAt (q::qs) k=some q.2:=by simp [valueAt,List.find?_cons,e']
      rw [valV_pos e,b];exact h2
    · have e':¬q.1=k:=fun z=>e (h1.trans z)
      have b:valueAt (q::qs) k=valueAt qs k:=by simp [valueAt,List.find?_cons,e']
      rw [valV_neg e,b];exact ih
theorem KV.any {kvs:List (κ×V)} {vs:List (κ×Value)} (r:KV kvs vs) (k:κ):(kvs.any fun kv=>decide (kv.1=k))=vs.any fun kv=>decide (kv.1=k):=by
  unfold KV at r
  induction r with
  | nil=>rfl
  | cons h t ih=>rw [List.any_cons,List.any_cons,ih,h.1]
theorem KV.repl {kvs:List (κ×V)} {vs:List (κ×Value)} (r:KV kvs vs) (k:κ) {y:V} {u:Value} (ry:RelV y u) :
    KV (kvs.map fun kv=>if kv.1=k then (kv.1,y) else kv) (vs.map fun kv=>if kv.1=k then (kv.1,u) else kv):=by
  unfold KV at r ⊢
  induction r with
  | nil=>exact .nil
  | @cons p q ps qs h t ih =>
    rw [List.map_cons,List.map_cons]
    refine .cons ?_ ih
    obtain ⟨h1,h2⟩:=h
    by_cases e:p.1=k
    · rw [if_pos e,if_pos (h1.symm.trans e)];exact ⟨h1,ry⟩
    · rw [if_neg e,if_neg (fun z=>e (h1.trans z))];exact ⟨h1,h2⟩
theorem KV.put {kvs:List (κ×V)} {vs:List (κ×Value)} (r:KV kvs vs) (k:κ) {y:V} {u:Value} (ry:RelV y u):KV (putK kvs k y) (stored vs k u):=by
  unfold putK stored
  rw [r.any k]
  by_cases e:(vs.any fun kv=>decide (kv.1=k))=true
  · rw [if_pos e,if_pos e];exact r.repl k ry
  · rw [if_neg e,if_neg e];exact Paired.snoc r ⟨rfl,ry⟩
theorem KV.length {kvs:List (κ×V)} {vs:List (κ×Value)} (r:KV kvs vs):kvs.length=vs.length:=Paired.length r
end
theorem kV_is {P:Program} {w:World} {k:Key} {u:Value} (r:RelV (kV k) u):(mixKind P w).is k u=true:=by
  cases k with
  | inl i=>obtain ⟨t,e⟩:=(show ∃ t,u=Value.int i t from r);subst e;exact mixKind_int P w i t
  | inr x=>obtain ⟨t,e⟩:=(show ∃ t,u=Value.str x t from r);subst e;exact mixKind_str P w x t
theorem items_are {P:Program} {w:World}:∀{ks:List Key} {us:List Value},Vals (ks.map kV) us→ItemsAre (mixKind P w) ks us
  | [],_,r=>by rw [List.map_nil] at r;cases r;exact .nil
  | k::ks,_,r=>by
    rw [List.map_cons] at r
    cases r with
    | cons h t=>exact .cons (kV_is h) (items_are t)
noncomputable abbrev KT (H:Hp):List (List Key×V)→List (List Key×Addr×Value)→Prop:=Paired fun p q=>p.1=q.1∧H q.2.1=some (.tup (p.1.map kV))∧RelV p.2 q.2.2
theorem KT.val {H:Hp} {kvs:List (List Key×V)} {xs:List (List Key×Addr×Value)} (r:KT H kvs xs) (k:List Key):RelO (valV kvs k) ((atKey xs k).map (·.2)):=by
  induction r with
  | nil=>exact True.intro
  | @cons p q ps qs h t ih =>
    obtain ⟨h1,_,h2⟩:=h
    by_cases e:p.1=k
    · have e':q.1=k:=h1.symm.trans e
      have b:atKey (q::qs) k=some q.2:=by simp [atKey,List.find?_cons,e']
      rw [valV_pos e,b];exact h2
    · have e':¬q.1=k:=fun z=>e (h1.trans z)
      have b:atKey (q::qs) k=atKey qs k:=by simp [atKey,List.find?_cons,e']
      rw [valV_neg e,b];exact ih
theorem KT.repl {H:Hp} {kvs:List (List Key×V)} {xs:List (List Key×Addr×Value)} (r:KT H kvs xs) (k:List Key) {y:V} {u:Value} (ry:RelV y u) :
    KT H (kvs.map fun kv=>if kv.1=k then (kv.1,y) else kv) (xs.map (putAt k u)):=by
  induction r with
  | nil=>exact .nil
  | @cons p q ps qs h t ih =>
    rw [List.map_cons,List.map_cons]
    refine .cons ?_ ih
    obtain ⟨h1,h2,h3⟩:=h
    unfold putAt
    by_cases e:p.1=k
    · rw [if_pos e,if_pos (h1.symm.trans e)];exact ⟨h1,h2,ry⟩
    · rw [if_neg e,if_neg (fun z=>e (h1.trans z))];exact ⟨h1,h2,h3⟩
theorem KT.put {H:Hp} {kvs:List (List Key×V)} {xs:List (List Key×Addr×Value)} (r:KT H kvs xs) (k:List Key) {b:Addr} {y:V} {u:Value} (hb:H b=some (.tup (k.map kV))) (ry:RelV y u) :
    KT H (putK kvs k y) (storedH xs k b u):=by
  have e:(kvs.any fun kv=>decide (kv.1=k))=(atKey xs k).isSome:=by
    rw [valV_any,(r.val k).isSome_eq,Option.isSome_map]
  unfold putK storedH
  rw [e]
  by_cases q:(atKey xs k).isSome=true
  · rw [if_pos q,if_pos q];exact r.repl k ry
  · rw [if_neg q,if_neg q];exact Paired.snoc r ⟨rfl,hb,ry⟩
theorem KT.keeps {H H':Hp} {kvs:List (List Key×V)} {xs:List (List Key×Addr×Value)} (r:KT H kvs xs) (ht:∀ b ys,H b=some (.tup ys)→H' b=some (.tup ys)):KT H' kvs xs :=
  Paired.mapP r fun _ _ z=>⟨z.1,ht _ _ z.2.1,z.2.2⟩
section
variable {P:Program} {w:World} {H:Hp} {h:Heap} {a:Addr}
theorem rd_of {u:HO} (ok:HOk P w H h) (e:Rd H a u):ObjOk P w H h a u:=e.ok ok
theorem dk_rd {kvs:List (Key×V)} (ok:HOk P w H h) (e:Rd H a (.dK kvs)):kvs.length≤sizeLine∧(a == sysModules)=false∧∃ vs,KV kvs vs∧h.DictOf (mixKind P w) a vs :=
  show ObjOk P w H h a (.dK kvs) from rd_of ok e
theorem dk_of {kvs:List (Key×V)} (ok:HOk P w H h) (e:H a=some (.dK kvs)):kvs.length≤sizeLine∧(a == sysModules)=false∧∃ vs,KV kvs vs∧h.DictOf (mixKind P w) a vs:=dk_rd ok (.inl e)
theorem key_of {ks:List Key} (ok:HOk P w H h) (e:H a=some (.tup (ks.map kV))):(tupleKind (mixKind P w)).is h ks a:=by
  obtain ⟨_,its,r,o,h1,h2,n,h3⟩:=(show ObjOk P w H h a (.tup (ks.map kV)) from ok a _ e)
  exact ⟨o,its.toArray,n,h1,h2,h3,by simpa using items_are r⟩
theorem dt_rd {kvs:List (List Key×V)} (ok:HOk P w H h) (e:Rd H a (.dT kvs)):kvs.length≤sizeLine∧(a == sysModules)=false∧
    ∃ xs,KT H kvs xs∧h.DictOfH (tupleKind (mixKind P w)) a xs:=by
  obtain ⟨z,y,xs,r,o,es,ep,h1,h2,h3,h4,h5⟩:=(show ObjOk P w H h a (.dT kvs) from rd_of ok e)
  refine ⟨z,y,xs,r,o,es,ep,h1,h2,h3,h4,fun x hx=>?_,h5⟩
  have all:∀{l:List (List Key×V)} {m:List (List Key×Addr×Value)},KT H l m→∀ x∈m,(tupleKind (mixKind P w)).is h x.1 x.2.1:=by
    intro l m q
    induction q with
    | nil=>intro x hx;exact nomatch hx
    | @cons p q ps qs hq t ih =>
      intro x hx
      rcases List.mem_cons.mp hx with e | hx
      · subst e
        exact key_of ok (by rw [← hq.1];exact hq.2.1)
      · exact ih x hx
  exact all r x hx
theorem dt_of {kvs:List (List Key×V)} (ok:HOk P w H h) (e:H a=some (.dT kvs)):kvs.length≤sizeLine∧(a == sysModules)=false∧
    ∃ xs,KT H kvs xs∧h.DictOfH (tupleKind (mixKind P w)) a xs:=dt_rd ok (.inl e)
end
noncomputable def DGet (H:Hp) (a:Addr) (y:V) (r:Option V):Prop :=
  (∃ kvs k,Rd H a (.dK kvs)∧y=kV k∧r=valV kvs k)∨∃ kvs k b,Rd H a (.dT kvs)∧y=.ref b∧H b=some (.tup (k.map kV))∧r=valV kvs k
noncomputable def DPut (H:Hp) (a:Addr) (y v:V) (H':Hp):Prop :=
  (∃ kvs k,H a=some (.dK kvs)∧y=kV k∧kvs.length < sizeLine∧H'=upd H a (.dK (putK kvs k v)))∨
  ∃ kvs k b,H a=some (.dT kvs)∧y=.ref b∧H b=some (.tup (k.map kV))∧kvs.length < sizeLine∧H'=upd H a (.dT (putK kvs k v))
theorem DGet.k {H:Hp} {a:Addr} {kvs:List (Key×V)} {k:Key} (e:H a=some (.dK kvs)):DGet H a (kV k) (valV kvs k):=.inl ⟨kvs,k,.inl e,rfl,rfl⟩
theorem DGet.t {H:Hp} {a b:Addr} {kvs:List (List Key×V)} {k:List Key} (e:H a=some (.dT kvs)) (eb:H b=some (.tup (k.map kV))):DGet H a (.ref b) (valV kvs k):=.inr ⟨kvs,k,b,.inl e,rfl,eb,rfl⟩
theorem DPut.t {H:Hp} {a b:Addr} {kvs:List (List Key×V)} {k:List Key} {v:V} (e:H a=some (.dT kvs)) (eb:H b=some (.tup (k.map kV))) (hl:kvs.length < sizeLine) :
    DPut H a (.ref b) v (upd H a (.dT (putK kvs k v))):=.inr ⟨kvs,k,b,e,rfl,eb,hl,rfl⟩
section
variable {X:Cx} {pins:List (Addr×Obj)} {σ:St} {H:Hp} {s:Shared} {a:Addr} {y v:V} {u r:Value} {o:Option V} {A:Around} {E:Value→Shared→Prop}
theorem Inv.big (I:Inv X pins σ H s):sysModules < s.heap.objs.size:=by
  have h:mainGlobals < s.heap.objs.size:=(I.mod.glob.keeps I.bk).lt
  exact Nat.lt_trans (by decide) h
theorem d_getItem {Q:Value→Shared→Prop} (hu:A.units+1 < cLine) (I:Inv X pins σ H s) (g:DGet H a y (some v)) (ry:RelV y u) (h:∀ w' s',Inv X pins σ H s'→RelV v w'→Q w' s') :
    wpAny (model X.prog X.w) A (getItem (.ref a) u) Q E s:=by
  rcases g with ⟨kvs,k,e,ey,l⟩ | ⟨kvs,k,b,e,ey,eb,l⟩
  · subst ey
    obtain ⟨z,hd,vs,rel,dd⟩:=dk_rd I.hok e
    obtain ⟨w',hw,rw'⟩:=RelO.some_of (v:=v) (o:=valueAt vs k) (by rw [l];exact rel.val k)
    exact wpAny_getItem_of (kV_is ry) dd.mapOf hw (h w' _ (I.tok _) rw')
  · subst ey
    cases (show u=Value.ref b from ry)
    obtain ⟨z,hd,xs,rel,dd⟩:=dt_rd I.hok e
    obtain ⟨w',hw,rw'⟩:=RelO.some_of (v:=v) (o:=(atKey xs k).map (·.2)) (by rw [l];exact rel.val k)
    obtain ⟨p,hp,hp2⟩:=Option.map_eq_some_iff.mp hw
    refine wpAny_getItem_heap (tupleKind_room_in1 hu) (key_of I.hok eb) dd hp ?_
    rw [hp2]
    exact h w' _ (I.tok _) rw'
theorem d_notIn {Q:Value→Shared→Prop} (hu:A.units+1 < cLine) (I:Inv X pins σ H s) (g:DGet H a y o) (ry:RelV y u) (h:∀ s',Inv X pins σ H s'→Q (.bool (!o.isSome)) s') :
    wpAny (model X.prog X.w) A (compareOp .NotIn u (.ref a)) Q E s:=by
  rcases g with ⟨kvs,k,e,ey,l⟩ | ⟨kvs,k,b,e,ey,eb,l⟩
  · subst ey
    obtain ⟨z,hd,vs,rel,dd⟩:=dk_rd I.hok e
    refine wpAny_notIn_of (kV_is ry) hd dd.mapOf ?_
    rw [← (rel.val k).isSome_eq,← l]
    exact h _ (I.tok _)
  · subst ey
    cases (show u=Value.ref b from ry)
    obtain ⟨z,hd,xs,rel,dd⟩:=dt_rd I.hok e
    refine wpAny_notIn_heap (tupleKind_room_in1 hu) (key_of I.hok eb) hd dd ?_
    have q:=(rel.val k).isSome_eq
    rw [Option.isSome_map] at q
    rw [← q,← l]
    exact h _ (I.tok _)
theorem d_write {h':Heap} {t':Nat} {ob:HO} (I:Inv X pins σ H s) (mu:Mut (H a)) (hs:Heap.SameBut a s.heap h') (he:∃ q,h'.get? a=some q) (new:ObjOk X.prog X.w (upd H a ob) h' a ob) :
    Inv X pins σ (upd H a ob) {s with heap:=h',toks:=t' } :=
  I.write (x:=a) (e:=a) mu (.inl rfl) (fun b q hb z=>(hs.2 b hb).trans z) he new
theorem dk_new {P:Program} {w:World} {H':Hp} {h':Heap} {kvs:List (Key×V)} {vs:List (Key×Value)} (z:kvs.length≤sizeLine) (hd:(a == sysModules)=false) (rel:KV kvs vs) (dd:h'.DictOf (mixKind P w) a vs) :
    ObjOk P w H' h' a (.dK kvs):=⟨z,hd,vs,rel,dd⟩
theorem d_setItem {H':Hp} {Q:Unit→Shared→Prop} (hu:A.units+1 < cLine) (I:Inv X pins σ H s) (g:DPut H a y v H') (ry:RelV y u) (rv:RelV v r) (h:∀ s',Inv X pins σ H' s'→Q () s') :
    wpAny (model X.prog X.w) A (setItem (.ref a) u r) Q E s:=by
  rcases g with ⟨kvs,k,e,ey,l,eH⟩ | ⟨kvs,k,b,e,ey,eb,l,eH⟩
  · subst ey eH
    obtain ⟨z,hd,vs,rel,dd⟩:=dk_of I.hok e
    have hz:vs.length≤sizeLine:=by rw [← rel.length];exact z
    have hl:(putK kvs k v).length≤sizeLine:=by have:=length_putK kvs k v;omega
    refine wpAny_setItem_pairs (hsz:=hz) (kV_is ry) dd fun h' dd' hs=>h _ ?_
    have he:∃ q,h'.get? a=some q:=let ⟨q,_,_,hq,_⟩:=dd';⟨q,hq⟩
    exact d_write I (by rw [e];exact True.intro) hs he (dk_new hl hd (rel.put k rv) dd')
  · subst ey eH
    cases (show u=Value.ref b from ry)
    obtain ⟨z,hd,xs,rel,dd⟩:=dt_of I.hok e
    have hz:xs.length≤sizeLine:=by rw [← Paired.length rel];exact z
    have hl:(putK kvs k v).length≤sizeLine:=by have:=length_putK kvs k v;omega
    refine wpAny_setItem_heap (hsz:=hz) (tupleKind_room_in1 hu) (key_of I.hok eb) dd fun h' dd' hs=>h _ ?_
    obtain ⟨q,es,ep,hq,h2,h3,h4,_,h5⟩:=dd'
    refine d_write I (by rw [e];exact True.intro) hs ⟨q,hq⟩ ⟨hl,hd,_,(rel.put k eb rv).keeps fun c ys ec=>?_,q,es,ep,hq,h2,h3,h4,h5⟩
    rw [upd_ne (ne_of ec e (fun z=>nomatch z))]
    exact ec
end
section
variable {X:Cx} {pins:List (Addr×Obj)} {σ:St} {H:Hp} {s:Shared} {a:Addr} {kvs:List (Key×V)} {k:Key} {u:Value} {A:Around} {E:Value→Shared→Prop}
end
noncomputable def NoSl (i:Expr):Prop:=∀ ov iv,subscripted i false ov iv=operate [ov,iv] (getItem ov iv)
theorem subD_of {prog:Program} {w:World} {A:Around} {E:Value→Shared→Prop} {s:Shared} {env:Env} {value slice:Expr} {pos:Pos} {T id:String} {Q:Value→Shared→Prop}
    (hl:typeLookup (.type T) "__getitem__"=pure (some (.builtin id))) (hs:NoSl slice)
    (h:wpAny (model prog w) A (eval value env) (fun o s₁=>wpAny (model prog w) A (eval slice env) (fun i s₂=>s₂.TypeIs o T∧wpAny (model prog w) A (getItem o i) Q E s₂) E s₁) E s) :
    wpAny (model prog w) A (eval (.Subscript value slice pos) env) Q E s:=by
  refine Subscript_ (wpAny_mono h (fun o s₁ h₁=>wpAny_mono h₁ (fun i s₂ h₂=>?_) fun _ _ x=>x) fun _ _ x=>x)
  obtain ⟨hT,h₂⟩:=h₂
  unfold subscriptTail
  refine wpAny_bind ?_
  rw [getitemInPython_of_ne hT.not_modules]
  refine wpAny_bind (wpAny_specialOf hT hl ?_)
  have fin:wpAny (model prog w) A (subscripted slice false o i) (fun r s₃=>wpAny (model prog w) A (letTemporaryGo value o r >>= fun _=>pure r) Q E s₃) E s₂:=by
    rw [hs o i]
    exact wpAny_operating (wpAny_mono h₂ (fun r s₃ h₃=>wpAny_bind (wpAny_letTemporaryGo (wpAny_pure h₃))) fun _ _ x=>x)
  first
    | exact wpAny_pure (wpAny_bind fin)
    | exact wpAny_bind (wpAny_pure (wpAny_bind fin))
    | exact wpAny_bind fin
theorem dict_typeIs {X:Cx} {pins:List (Addr×Obj)} {σ:St} {H:Hp} {s:Shared} {a:Addr} {y:V} {o:Option V} (I:Inv X pins σ H s) (g:DGet H a y o):s.TypeIs (.ref a) "dict":=by
  rcases g with ⟨kvs,k,e,_,_⟩ | ⟨kvs,k,b,e,_,_,_⟩
  · obtain ⟨_,_,vs,_,dd⟩:=dk_rd I.hok e
    exact dd.typeIs
  · obtain ⟨_,_,xs,_,dd⟩:=dt_rd I.hok e
    exact dd.typeIs
noncomputable def tDGet (td ty:TE):TE:=fun σ H Q=>td σ H fun x H1=>ty σ H1 fun y H2=>∃ a v,x=.ref a∧DGet H2 a y (some v)∧Q v H2
noncomputable def tDNotIn (ty td:TE):TE:=fun σ H Q=>ty σ H fun y H1=>td σ H1 fun x H2=>∃ a o,x=.ref a∧DGet H2 a y o∧Q (.bl (!o.isSome)) H2
noncomputable def sDPut (td ty tv:TE):TS:=fun D σ H=>tv σ H fun v H1=>td σ H1 fun x H2=>ty σ H2 fun y H3=>∃ a H4,x=.ref a∧DPut H3 a y v H4∧D.nx σ H4
section
variable {X:Cx} {o i e value:Expr} {pos pos' tpos:Pos} {td ty tv:TE}
theorem pe_dget (hu:X.A.units+1 < cLine) (ho:PE X o td) (hi:PE X i ty) (hs:NoSl i):PE X (.Subscript o i pos) (tDGet td ty):=by
  intro pins s σ H Q I h
  refine subD_of PySem.F.slot_dict_getitem.lookup hs (thn (ho pins s σ H _ I h) fun u s1 zz=>?_)
  obtain ⟨x,H1,I1,rx,q1⟩:=zz
  refine thn (hi pins s1 σ H1 _ I1 q1) fun iv s2 zz=>?_
  obtain ⟨y,H2,I2,ry,a,v,ex,g,q2⟩:=zz
  subst ex
  obtain rfl:u=Value.ref a:=rx
  exact ⟨dict_typeIs I2 g,d_getItem hu I2 g ry fun w' s3 I3 rw'=>⟨v,H2,I3,rw',q2⟩⟩
theorem pc_dnotin (hu:X.A.units+1 < cLine) (hi:PE X i ty) (ho:PE X o td):PC X .NotIn i o (tDNotIn ty td):=by
  intro pins s σ H Q I h
  refine thn (hi pins s σ H _ I h) fun iv s1 zz=>?_
  obtain ⟨y,H1,I1,ry,q1⟩:=zz
  refine thn (ho pins s1 σ H1 _ I1 q1) fun u s2 zz=>?_
  obtain ⟨x,H2,I2,rx,a,ov,ex,g,q2⟩:=zz
  subst ex
  obtain rfl:u=Value.ref a:=rx
  exact d_notIn hu I2 g ry fun s3 I3=>⟨.bl (!ov.isSome),H2,I3,rfl,q2⟩
theorem ps_dput (hu:X.A.units+1 < cLine) (ho:PE X o td) (hi:PE X i ty) (hv:PE X value tv) (hs:swapsWith value (some (.Subscript o i pos')) pos.line X.env=pure false) :
    PS X (.Assign [.Subscript o i pos'] value pos) (sDPut td ty tv):=by
  intro pins s σ H D I h
  refine wpAny_Assign_Subscript (thn (hv pins s σ H _ I h) fun r s1 zz=>?_) hs
  obtain ⟨v,H1,I1,rv,q1⟩:=zz
  refine thn (ho pins s1 σ H1 _ I1 q1) fun u s2 zz=>?_
  obtain ⟨x,H2,I2,rx,q2⟩:=zz
  refine thn (hi pins s2 σ H2 _ I2 q2) fun iv s3 zz=>?_
  obtain ⟨y,H3,I3,ry,a,H4,ex,g,q3⟩:=zz
  subst ex
  obtain rfl:u=Value.ref a:=rx
  exact d_setItem hu I3 g ry rv fun s4 I4=>⟨σ,H4,I4,q3⟩
end
theorem dk_empty {P:Program} {w:World} {H:Hp} (h:Heap) (hb:sysModules < h.objs.size):ObjOk P w H (h.push {cls:=.type "dict",data:=.dict #[] }) h.objs.size (.dK []) :=
  ⟨Nat.zero_le _,beq_eq_false_iff_ne.mpr (Ne.symm (Nat.ne_of_lt hb)),[],.nil,Heap.DictOf.new h⟩
theorem dt_empty {P:Program} {w:World} {H:Hp} (h:Heap) (hb:sysModules < h.objs.size):ObjOk P w H (h.push {cls:=.type "dict",data:=.dict #[] }) h.objs.size (.dT []) :=
  ⟨Nat.zero_le _,beq_eq_false_iff_ne.mpr (Ne.symm (Nat.ne_of_lt hb)),[],.nil,_,#[],0,Heap.get?_push_size _ rfl,⟨rfl,rfl,rfl⟩,rfl,rfl,List.nodup_nil⟩
noncomputable def tDNewK:TE:=fun _ H Q=>∀ p,H p=none→Q (.ref p) (upd H p (.dK []))
noncomputable def tDNewT:TE:=fun _ H Q=>∀ p,H p=none→Q (.ref p) (upd H p (.dT []))
section
variable {X:Cx} {pos:Pos}
theorem pe_dnewK:PE X (.Dict [] [] pos) tDNewK:=fun pins s σ H Q I h =>
  wpAny_Dict_empty ⟨.ref s.heap.objs.size,_,I.laid (a:=s.heap.objs.size) (o:=.dK []) (t':=s.toks) (fun _ _ q=>Heap.get?_push_of_some _ q) (Nat.le_refl _) (dk_empty s.heap I.big),rfl,h _ (I.hok.fresh (Nat.le_refl _))⟩
theorem pe_dnewT:PE X (.Dict [] [] pos) tDNewT:=fun pins s σ H Q I h =>
  wpAny_Dict_empty ⟨.ref s.heap.objs.size,_,I.laid (a:=s.heap.objs.size) (o:=.dT []) (t':=s.toks) (fun _ _ q=>Heap.get?_push_of_some _ q) (Nat.le_refl _) (dt_empty s.heap I.big),rfl,h _ (I.hok.fresh (Nat.le_refl _))⟩
end
noncomputable def tPairs:List (TE×TE)→St→Hp→(List (V×V)→Hp→Prop)→Prop
  | [],_,H,Q=>Q [] H
  | (tk,tv)::r,σ,H,Q=>tk σ H fun x H1=>tv σ H1 fun y H2=>tPairs r σ H2 fun ps H3=>Q ((x,y)::ps) H3
noncomputable abbrev VV:List (V×V)→List (Value×Value)→Prop:=Paired fun p q=>RelV p.1 q.1∧RelV p.2 q.2
noncomputable def PPs (X:Cx) (pos:Pos) (keys:List (Option Expr)) (values:List Expr) (trs:List (TE×TE)):Prop :=
  ∀(pins:List (Addr×Obj)) (s:Shared) (σ:St) (H:Hp) (Q:List (V×V)→Hp→Prop),Inv X pins σ H s→tPairs trs σ H Q→
    wpAny (model X.prog X.w) X.A (evalPairs (pairTrees keys values X.env pos)) (fun vs s'=>∃ ps H',Inv X pins σ H' s'∧VV ps vs∧Q ps H') X.xe s
theorem pps_nil {X:Cx} {pos:Pos}:PPs X pos [] [] []:=fun pins s σ H Q I h=>pairTrees_nil_walk ⟨[],H,I,.nil,h⟩
theorem pps_cons {X:Cx} {pos:Pos} {k v:Expr} {ks:List (Option Expr)} {vs:List Expr} {tk tv:TE} {trs:List (TE×TE)} (hk:PE X k tk) (hv:PE X v tv) (hr:PPs X pos ks vs trs) :
    PPs X pos (some k::ks) (v::vs) ((tk,tv)::trs):=fun pins s σ H Q I h =>
  pairTrees_cons_walk (thn (hk pins s σ H _ I h) fun u s1 ⟨x,H1,I1,rx,q1⟩=>thn (hv pins s1 σ H1 _ I1 q1) fun w2 s2 ⟨y,H2,I2,ry,q2⟩ =>
    thn (hr pins s2 σ H2 _ I2 q2) fun ws s3 ⟨ps,H3,I3,rel,q3⟩=>⟨(x,y)::ps,H3,I3,.cons ⟨rx,ry⟩ rel,q3⟩)
noncomputable def mergeK (kvs more:List (Key×V)):List (Key×V):=more.foldl (fun acc kv=>putK acc kv.1 kv.2) kvs
theorem KV.merge:∀{more:List (Key×V)} {rs:List (Key×Value)} {kvs:List (Key×V)} {vs:List (Key×Value)},KV more rs→KV kvs vs→KV (mergeK kvs more) (merged vs rs):=by
  intro more rs kvs vs r
  unfold KV at r
  induction r generalizing kvs vs with
  | nil=>intro q;exact q
  | @cons p q ps qs h t ih =>
    intro r0
    have e:KV (putK kvs p.1 p.2) (stored vs q.1 q.2):=by
      have:=r0.put p.1 h.2
      rw [← h.1];exact this
    exact ih e
theorem length_mergeK:∀(more kvs:List (Key×V)),(mergeK kvs more).length≤kvs.length+more.length
  | [],kvs=>by show kvs.length≤kvs.length+0;omega
  | p::r,kvs=>by
    have h1:=length_mergeK r (putK kvs p.1 p.2)
    have h2:=length_putK kvs p.1 p.2
    show (mergeK (putK kvs p.1 p.2) r).length≤_
    rw [List.length_cons];omega
theorem carries_of {P:Program} {w:World}:∀{kvs:List (Key×V)} {ws:List (Value×Value)},VV (kvs.map fun kv=>(kV kv.1,kv.2)) ws→∃ rs,Carries (mixKind P w) ws rs∧KV kvs rs
  | [],_,r=>by rw [List.map_nil] at r;cases r;exact ⟨[],True.intro,.nil⟩
  | p::kvs,_,r=>by
    rw [List.map_cons] at r
    cases r with
    | @cons a b as bs h t =>
      obtain ⟨rs,c,q⟩:=carries_of (P:=P) (w:=w) t
      obtain ⟨b1,b2⟩:=b
      exact ⟨(p.1,b2)::rs,⟨kV_is h.1,rfl,c⟩,.cons ⟨rfl,h.2⟩ q⟩
noncomputable def tDisp (trs:List (TE×TE)):TE:=fun σ H Q=>∀ p,H p=none→tPairs trs σ (upd H p (.dK [])) fun ps H2=>H2 p=some (.dK [])∧∃ kvs:List (Key×V),ps=kvs.map (fun kv=>(kV kv.1,kv.2))∧kvs.length≤15∧Q (.ref p) (upd H2 p (.dK (mergeK [] kvs)))
theorem pe_disp {X:Cx} {pos:Pos} {keys:List (Option Expr)} {values:List Expr} {trs:List (TE×TE)} (h:PPs X pos keys values trs) (hall:keys.all (·.isSome)=true) (hl:keys.length=values.length) (h0:keys≠[])
    (h15:keys.length≤15):PE X (.Dict keys values pos) (tDisp trs):=by
  intro pins s σ H Q I q
  have hn:=I.hok.fresh (Nat.le_refl s.heap.objs.size)
  have I1:=I.laid (a:=s.heap.objs.size) (o:=.dK []) (h':=s.heap.push {cls:=.type "dict",data:=.dict #[] }) (t':=s.toks) (fun _ _ q=>Heap.get?_push_of_some _ q) (Nat.le_refl _) (dk_empty s.heap I.big)
  refine wpAny_Dict_walk (knd:=mixKind X.prog X.w) hall hl h0 h15 (thn (h pins _ σ _ _ I1 (q _ hn)) fun ws s2 zz=>?_)
  obtain ⟨ps,H2,I2,rel,e,kvs,ep,lk,q2⟩:=zz
  subst ep
  obtain ⟨rs,c,rk⟩:=carries_of (P:=X.prog) (w:=X.w) rel
  obtain ⟨z,hd,vs0,r0,dd⟩:=dk_of I2.hok e
  cases r0
  refine ⟨rs,c,dd,fun h' dd' hs=>⟨.ref s.heap.objs.size,_,?_,rfl,q2⟩⟩
  have hz:(mergeK [] kvs).length≤sizeLine:=by
    have h1:=length_mergeK kvs []
    rw [List.length_nil] at h1
    rw [sizeLine_eq];omega
  have he:∃ q,h'.get? s.heap.objs.size=some q:=let ⟨q,_,_,hq,_⟩:=dd';⟨q,hq⟩
  exact d_write I2 (by rw [e];exact True.intro) hs he (dk_new hz hd (rk.merge .nil) dd')
structure M1 (X:Cx) (o:Expr) (m:Str) (apos:Pos) (e:Expr) (cpos:Pos):Prop where
  base:attributeBase o m X.env (eval o X.env)=eval o X.env
  few:((backTo cpos (starEach [e] X.env)).all (fun x=>!x.1) && (backToKw cpos (keywordEach [] X.env)).all (fun x=>x.1.isSome)
    && decide (([e]:List Expr).length+([]:List Keyword).length+(if ([]:List Keyword).isEmpty then 0 else 1) < 30))=true
  line:(apos.endLine == cpos.line)=true
  trees:backTo cpos (starEach [e] X.env)=[(false,eval e X.env)]
section
variable {X:Cx} {pins:List (Addr×Obj)} {σ:St} {H:Hp} {s:Shared} {a:Addr} {y d:V} {u r:Value} {o:Option V} {A:Around} {E:Value→Shared→Prop}
end
section
variable {X:Cx} {o e f:Expr} {apos cpos:Pos} {td ty tx:TE}
end
section
variable {X:Cx} {pins:List (Addr×Obj)} {σ:St} {H:Hp} {s:Shared} {a:Addr} {kvs:List (Key×V)} {A:Around} {E:Value→Shared→Prop}
end
section
variable {X:Cx} {pins:List (Addr×Obj)} {σ:St} {H:Hp} {s:Shared} {a:Addr} {y:V} {u:Value} {A:Around} {E:Value→Shared→Prop}
end
end L2
namespace L2
open PySem PySem.Spec PyProof.Rows
section
variable {prog:Program} {w:World} {A:Around} {E:Value→Shared→Prop} {s:Shared} {R:Result→Shared→Prop} {l it S:Addr} {items:Array Value}
end
end L2
namespace L2
open PySem PySem.Spec PyProof.Rows
section
variable {X:Cx} {o e:Expr} {es:List Expr} {ta te:TE} {t:TA} {m x:Str} {k:Nat} {p pos apos p2 pos2:Pos} {C:Addr}
end
end L2
namespace Mine
open PySem
inductive W5 where
  | more | less | greater | lesser | leads
noncomputable def W5.str:W5→Str
  | .more=>"more" | .less=>"less" | .greater=>"greater" | .lesser=>"lesser" | .leads=>"leads"
inductive Tr where
  | never | always | lp | lq
  | no (t:Tr)
  | fold (w:W5) (a b:Tr)
noncomputable def W5.worth (w:W5) (n a b:Int):Int:=match w with
  | .more=>min (a+b) n
  | .less=>max (a+b - n) 0
  | .greater=>max a b
  | .lesser=>min a b
  | .leads=>min (n - a+b) n
end Mine
namespace L2
open PySem PySem.Spec PyProof.Rows
mutual
noncomputable def Dat (K:PySem.W.Frag) (H:Hp):PyData→V→Prop
  | .none,v=>v=.non
  | .bool b,v=>v=.bl b
  | .int i,v=>v=.int i
  | .str x,v=>v=.str x
  | .tuple ds,v=>∃ a xs,v=.ref a∧SqT K H a xs∧DatAll K H ds xs
  | .list _,_=>False
  | .dict _,_=>False
noncomputable def DatAll (K:PySem.W.Frag) (H:Hp):List PyData→List V→Prop
  | [],xs=>xs=[]
  | d::ds,xs=>∃ x r,xs=x::r∧Dat K H d x∧DatAll K H ds r
end
structure Tst (H H':Hp):Prop where
  t:∀ b xs,H b=some (.tup xs)→H' b=some (.tup xs)
  f:∀ b o u,H b=some (.frz o u)→H' b=some (.frz o u)
theorem Tst.trans {H H1 H2:Hp} (a:Tst H H1) (b:Tst H1 H2):Tst H H2:=⟨fun c xs h=>b.t c xs (a.t c xs h),fun c o u h=>b.f c o u (a.f c o u h)⟩
theorem Same.ts {H H':Hp} (e:Same H H'):Tst H H':=⟨fun b xs h=>e b _ h,fun b o u h=>e b _ h⟩
theorem ts_mut {H:Hp} {l:Addr} {xs:List V} {o:HO} (e:H l=some (.lst xs)):Tst H (upd H l o) :=
  ⟨fun b ys h=>by rw [upd_ne (ne_of h e (by intro z;cases z))];exact h,fun b o u h=>by rw [upd_ne (ne_of h e (by intro z;cases z))];exact h⟩
theorem SqT.ts {K:PySem.W.Frag} {H H':Hp} {a:Addr} {xs:List V} (h:SqT K H a xs) (e:Tst H H'):SqT K H' a xs:=by
  rcases h with (h | ⟨o,h⟩) | h
  · exact .inl (.inl (e.t _ _ h))
  · exact .inl (.inr ⟨o,e.f _ _ _ h⟩)
  · exact .inr h
mutual
theorem Dat.ts {K:PySem.W.Frag} {H H':Hp} (e:Tst H H'):∀{d:PyData} {v:V},Dat K H d v→Dat K H' d v
  | .none,_,h=>h
  | .bool _,_,h=>h
  | .int _,_,h=>h
  | .str _,_,h=>h
  | .tuple _,_,⟨a,xs,h1,h2,h3⟩=>⟨a,xs,h1,h2.ts e,DatAll.ts e h3⟩
  | .list _,_,h=>h
  | .dict _,_,h=>h
theorem DatAll.ts {K:PySem.W.Frag} {H H':Hp} (e:Tst H H'):∀{ds:List PyData} {xs:List V},DatAll K H ds xs→DatAll K H' ds xs
  | [],_,h=>h
  | _::_,_,⟨x,r,h1,h2,h3⟩=>⟨x,r,h1,Dat.ts e h2,DatAll.ts e h3⟩
end
theorem DatAll.len {K:PySem.W.Frag} {H:Hp}:∀{ds:List PyData} {xs:List V},DatAll K H ds xs→xs.length=ds.length
  | [],_,h=>by subst h;rfl
  | _::_,_,⟨x,r,h1,_,h3⟩=>by subst h1;simp [h3.len]
theorem DatAll.get {K:PySem.W.Frag} {H:Hp}:∀{ds:List PyData} {xs:List V} {i:Nat} {d:PyData},DatAll K H ds xs→ds[i]?=some d→∃ x,xs[i]?=some x∧Dat K H d x
  | [],_,_,_,_,e=>by cases e
  | _::_,_,0,_,⟨x,r,h1,h2,_⟩,e=>by subst h1;cases e;exact ⟨x,rfl,h2⟩
  | _::_,_,i+1,_,⟨x,r,h1,_,h3⟩,e=>by
    subst h1
    obtain ⟨y,e1,e2⟩:=h3.get (i:=i) (by simpa using e)
    exact ⟨y,by simpa using e1,e2⟩
theorem DatAll.get' {K:PySem.W.Frag} {H:Hp} {ds:List PyData} {xs:List V} {i:Nat} {x:V} (h:DatAll K H ds xs) (e:xs[i]?=some x):∃ d,ds[i]?=some d∧Dat K H d x:=by
  have hl:=h.len
  have hi:=(List.getElem?_eq_some_iff.mp e).1
  have hd:ds[i]?=some (ds[i]'(by omega)):=List.getElem?_eq_getElem (by omega)
  obtain ⟨y,e1,e2⟩:=h.get hd
  rw [e] at e1
  cases e1
  exact ⟨_,hd,e2⟩
theorem DatAll.append {K:PySem.W.Frag} {H:Hp}:∀{ds es:List PyData} {xs ys:List V},DatAll K H ds xs→DatAll K H es ys→DatAll K H (ds++es) (xs++ys)
  | [],_,_,_,h,g=>by subst h;exact g
  | _::_,_,_,_,⟨x,r,h1,h2,h3⟩,g=>by subst h1;exact ⟨x,_,rfl,h2,h3.append g⟩
theorem DatAll.snoc {K:PySem.W.Frag} {H:Hp} {ds:List PyData} {xs:List V} {d:PyData} {x:V} (h:DatAll K H ds xs) (g:Dat K H d x):DatAll K H (ds++[d]) (xs++[x]):=h.append ⟨x,[],rfl,g,rfl⟩
mutual
theorem Dat.reads {X:Cx} {pins:List (Addr×Obj)} {σ:St} {H:Hp} {s:Shared} (I:Inv X pins σ H s):∀(d:PyData) {v:V} {u:Value},Dat X.K H d v→RelV v u→∃ as,Reads s.heap u d as
  | .none,_,_,h,r=>by
    cases (show _=V.non from h)
    cases (show _=Value.none from r)
    exact ⟨[],.none⟩
  | .bool b,_,_,h,r=>by
    cases (show _=V.bl b from h)
    cases (show _=Value.bool b from r)
    exact ⟨[],.bool b⟩
  | .int i,_,_,h,r=>by
    cases (show _=V.int i from h)
    obtain ⟨t,q⟩:=(show ∃ t,_=Value.int i t from r)
    cases q
    exact ⟨[],.int i t⟩
  | .str x,_,_,h,r=>by
    cases (show _=V.str x from h)
    obtain ⟨t,q⟩:=(show ∃ t,_=Value.str x t from r)
    cases q
    exact ⟨[],.str x t⟩
  | .tuple ds,_,_,⟨a,xs,h1,h2,h3⟩,r=>by
    cases h1
    cases (show _=Value.ref a from r)
    obtain ⟨its,rv,⟨o,ho,hc,n,hd⟩,_⟩:=I.tuple h2
    obtain ⟨as,ra⟩:=DatAll.reads I ds h3 rv
    exact ⟨as,.tuple ho hc hd (by simpa using ra)⟩
  | .list _,_,_,h,_=>False.elim h
  | .dict _,_,_,h,_=>False.elim h
theorem DatAll.reads {X:Cx} {pins:List (Addr×Obj)} {σ:St} {H:Hp} {s:Shared} (I:Inv X pins σ H s):∀(ds:List PyData) {xs:List V} {us:List Value},DatAll X.K H ds xs→Vals xs us→∃ as,ReadsAll s.heap us ds as
  | [],_,_,h,r=>by
    cases (show _=([]:List V) from h)
    cases r
    exact ⟨[],.nil⟩
  | d::ds,_,_,⟨x,t,h1,h2,h3⟩,r=>by
    cases h1
    cases r with
    | cons r1 r2 =>
      obtain ⟨as,a1⟩:=Dat.reads I d h2 r1
      obtain ⟨bs,b1⟩:=DatAll.reads I ds h3 r2
      exact ⟨as++bs,.cons a1 b1⟩
end
noncomputable def DatX (K:PySem.W.Frag) (H:Hp) (d:PyData) (v:V):Prop:=Dat K H d v∨∃ ds a xs,d=.list ds∧v=.ref a∧SqL K H a xs∧DatAll K H ds xs
theorem DatX.reads {X:Cx} {pins:List (Addr×Obj)} {σ:St} {H:Hp} {s:Shared} {d:PyData} {v:V} {u:Value} (I:Inv X pins σ H s) (h:DatX X.K H d v) (r:RelV v u):∃ as,Reads s.heap u d as:=by
  rcases h with h | ⟨ds,a,xs,rfl,rfl,h2,h3⟩
  · exact Dat.reads I d h r
  · cases (show _=Value.ref a from r)
    obtain ⟨its,rv,⟨o,n,ho,hc,_,hd⟩,_⟩:=I.list h2
    obtain ⟨as,ra⟩:=DatAll.reads I ds h3 rv
    exact ⟨a::as,.list ho hc hd (by simpa using ra)⟩
section
variable {X:Cx}
noncomputable def rEqD (K:PySem.W.Frag):R2:=fun x y H Q=>∃ d e,DatX K H d x∧DatX K H e y∧SeqAt.shaped d=true∧SeqAt.shaped e=true∧Q (.bl (PyData.eqv d e)) H
noncomputable def rNeD (K:PySem.W.Frag):R2:=fun x y H Q=>∃ d e,DatX K H d x∧DatX K H e y∧SeqAt.shaped d=true∧SeqAt.shaped e=true∧Q (.bl (!PyData.eqv d e)) H
theorem op_eqD (hu:X.A.units+64 < cLine):OpR X (compareOp .Eq) (rEqD X.K):=by
  intro pins s σ H x y v u Q I rx ry h
  obtain ⟨d,e,hd,he,sd,se,q⟩:=h
  obtain ⟨as,ra⟩:=hd.reads I rx
  obtain ⟨bs,rb⟩:=he.reads I ry
  exact eq_dataH ra rb sd se hu ⟨.bl _,H,I,rfl,q⟩
theorem op_neD (hu:X.A.units+64 < cLine):OpR X (compareOp .NotEq) (rNeD X.K):=by
  intro pins s σ H x y v u Q I rx ry h
  obtain ⟨d,e,hd,he,sd,se,q⟩:=h
  obtain ⟨as,ra⟩:=hd.reads I rx
  obtain ⟨bs,rb⟩:=he.reads I ry
  exact ne_dataH ra rb sd se hu ⟨.bl _,H,I,rfl,q⟩
theorem call_isiT:CallR X (.builtin "isinstance") (fun xs H Q=>∃(a:Addr) (ys:List V) (c:V) (cv:Value) (k:Bool),xs=[.ref a,c]∧(∀ u,RelV c u→u=cv)∧SqT X.K H a ys∧PySem.W.kitOne X.K (.type "tuple") cv=some k∧Q (.bl k) H):=by
  intro pins s σ H xs us Q I r h
  obtain ⟨a,ys,c,cv,k,rfl,hc,hq,kt,q⟩:=h
  obtain ⟨u,w',rfl,r1,r2⟩:=vals2 r
  have e:=hc _ r2
  subst e
  cases (show u=Value.ref a from r1)
  obtain ⟨its,rv,⟨o,h1,h2,_⟩,_⟩:=I.tuple hq
  exact PySem.W.kia_one PySem.W.kitx_tuple I.kIn ⟨o,h1,h2⟩ kt (fun z=>nomatch z) fun tk=>⟨.bl k,H,I.tok tk,rfl,q⟩
theorem bools_of {bs:List Bool}:∀{us:List Value},Vals (bs.map V.bl) us→LSm.BoolsAre us bs:=by
  induction bs with
  | nil=>intro us r;cases r;exact .nil
  | cons b r ih =>
    intro us q
    cases q with
    | cons a t =>
      cases (show _=Value.bool b from a)
      exact .cons b (ih t)
theorem call_all (hc:X.calm=true):CallR X (.builtin "all") (fun xs H Q=>∃(l:Addr) (bs:List Bool),xs=[.ref l]∧SqL X.K H l (bs.map V.bl)∧Q (.bl (bs.all id)) H):=by
  intro pins s σ H xs us Q I r h
  obtain ⟨l,bs,rfl,hq,q⟩:=h
  obtain ⟨u,rfl,rx⟩:=vals1 r
  cases rx
  obtain ⟨its,rv,pl,_⟩:=I.list hq
  have hl:=pl.isList
  have hb:=bools_of rv
  have hlt:l < s.heap.objs.size:=by obtain ⟨_,e,_⟩:=hl;exact Heap.lt_size e
  refine call_all_walk (wpAny_pyIter_list hl ?_)
  refine ⟨s.heap.objs.size,[s.heap.objs.size,l],[s.heap.objs.size],its.toArray.size,_,_,fun i=>(bs[i]?).getD true,rfl,Walks.list (A:=X.A.in1) (I.ok.hd hc) _ l (Nat.ne_of_lt hlt) its.toArray,
    ⟨⟨_,Heap.get?_push_size _ rfl,rfl,rfl⟩,hl.push _⟩,fun i v s' Q' E' hP hQ=>?_,fun h' tk hk=>?_⟩
  · obtain ⟨b,e,rfl⟩:=hb.get i v (by simpa using hP)
    simp only [e,Option.getD_some] at hQ
    exact wpAny_truthy_bool hQ
  · have e:((List.range its.toArray.size).all fun i=>(bs[i]?).getD true)=bs.all id:=by
      rw [List.size_toArray,hb.length];exact LSm.range_all bs
    rw [e]
    exact ⟨.bl _,H,I.kept (t':=tk) (LSm.kept_iter hk),rfl,q⟩
end
section
variable {X:Cx} {K:PySem.W.Frag}
theorem ix_tupK (e:X.K=K):IxR X (rIxT K):=e ▸ ix_tup
end
theorem lay_map {α:Type} {f:α→PyData} (h:∀ a,(f a).canLay0=true):∀ L:List α,PyData.canLayAll0 (L.map f)=true
  | []=>by simp [PyData.canLayAll0]
  | a::r=>by simp [PyData.canLayAll0,h a,lay_map h r]
theorem depth_map {α:Type} {f:α→PyData} {n:Nat} (h:∀ a,(f a).depth≤n):∀ L:List α,PyData.depthAll (L.map f)≤n
  | []=>by simp [PyData.depthAll]
  | a::r=>by
    have h1:=h a
    have h2:=depth_map h r
    simp only [List.map_cons,PyData.depthAll]
    omega
theorem eqv_map {α:Type} [DecidableEq α] {f:α→PyData} (h:∀ a b,PyData.eqv (f a) (f b)=decide (a=b)):∀ L M:List α,PyData.eqvAll (L.map f) (M.map f)=decide (L=M)
  | [],[]=>by simp [PyData.eqvAll]
  | [],_::_=>by simp [PyData.eqvAll]
  | _::_,[]=>by simp [PyData.eqvAll]
  | a::r,b::t=>by
    simp only [List.map_cons,PyData.eqvAll,h a b,eqv_map h r t]
    by_cases h1:a=b <;> by_cases h2:r=t <;> simp [h1,h2]
structure TopTup (K:PySem.W.Frag) (mg:Str→Option Value) (x:Str) (ns:List Int):Prop where
  ex:∃ a,mg x=some (.ref a)∧∀ H,SqT K H a (ns.map V.int)
theorem toptup_mk {K:PySem.W.Frag} {h:Heap} {mg:Str→Option Value} {x:Str} {a:Addr} {od:Option Addr} {its:Array Value} {n:Nat} {osl:Array (Option Value)} {ns:List Int} (X:K.In h) (G:h.Ns mainGlobals mg)
    (e:PySem.W.nsIn K mainGlobals x=some (some (.ref a))) (l:K.lookup a=some ⟨.type "tuple",od,.seq its n,osl⟩) (hz:its.size≤sizeLine) (v:Vals (ns.map V.int) its.toList):TopTup K mg x ns :=
  ⟨a,PySem.W.mg_of X G e,fun _=>.inr ⟨_,its,n,l,rfl,rfl,hz,v⟩⟩
theorem topint_mk {K:PySem.W.Frag} {h:Heap} {mg:Str→Option Value} {x:Str} {v:Value} {n:Int} (X:K.In h) (G:h.Ns mainGlobals mg) (e:PySem.W.nsIn K mainGlobals x=some (some v)) (q:∃ t,v=.int n t):∃ t,mg x=some (.int n t):=by
  obtain ⟨t,rfl⟩:=q
  exact ⟨t,PySem.W.mg_of X G e⟩
end L2
namespace Mine
theorem int_or (a b:Int):a < b∨b≤a:=by omega
namespace Lo
noncomputable def gc (a b:Int):Int:=(Int.gcd a b:Nat)
theorem gc_pos {a b:Int} (h:b≠0):0 < gc a b:=by
  have:=Int.gcd_pos_of_ne_zero_right a h
  unfold gc;omega
theorem gc_zero {a:Int} (h:0≤a):gc a 0=a:=by
  unfold gc;rw [Int.gcd_zero_right];omega
theorem gc_natAbs (a b:Int):gc a.natAbs b.natAbs=gc a b:=by
  unfold gc Int.gcd;simp
theorem gc_turn (g l:Int):gc l (g.fmod l)=gc g l:=by
  unfold gc
  congr 1
  rw [Int.fmod_def]
  rw [Int.gcd_comm g l]
  have:g - l*g.fdiv l=g+l*(-(g.fdiv l)):=by rw [Int.mul_neg];omega
  rw [this]
  exact Int.gcd_add_mul_left_right ..
theorem gc_dvd_left (a b:Int):gc a b∣a:=Int.gcd_dvd_left ..
theorem gc_dvd_right (a b:Int):gc a b∣b:=Int.gcd_dvd_right ..
noncomputable def sg (t b:Int):Int:=if b < 0 then -(gc t b) else gc t b
noncomputable def lowT (t b:Int):Int:=t.fdiv (sg t b)
noncomputable def lowB (t b:Int):Int:=b.fdiv (sg t b)
theorem sg_ne {t b:Int} (h:b≠0):sg t b≠0:=by
  have:=gc_pos (a:=t) h
  unfold sg;split <;> omega
theorem sg_dvd_t (t b:Int):sg t b∣t:=by
  unfold sg;split
  · exact Int.neg_dvd.mpr (gc_dvd_left t b)
  · exact gc_dvd_left t b
theorem sg_dvd_b (t b:Int):sg t b∣b:=by
  unfold sg;split
  · exact Int.neg_dvd.mpr (gc_dvd_right t b)
  · exact gc_dvd_right t b
theorem lowT_eq (t b:Int):sg t b*lowT t b=t:=by
  unfold lowT
  rw [Int.fdiv_eq_ediv_of_dvd (sg_dvd_t t b)]
  exact Int.mul_ediv_cancel' (sg_dvd_t t b)
theorem lowB_eq (t b:Int):sg t b*lowB t b=b:=by
  unfold lowB
  rw [Int.fdiv_eq_ediv_of_dvd (sg_dvd_b t b)]
  exact Int.mul_ediv_cancel' (sg_dvd_b t b)
theorem lowB_pos {t b:Int} (h:b≠0):0 < lowB t b:=by
  have e:=lowB_eq t b
  have g:=gc_pos (a:=t) h
  rcases Int.lt_trichotomy (lowB t b) 0 with q | q | q
  · exfalso
    by_cases c:b < 0
    · have s:sg t b = -(gc t b):=by unfold sg;rw [if_pos c]
      have s0:sg t b < 0:=by omega
      have:=Int.mul_pos_of_neg_of_neg s0 q
      omega
    · have s:sg t b=gc t b:=by unfold sg;rw [if_neg c]
      have s0:0 < sg t b:=by omega
      have:=Int.mul_neg_of_pos_of_neg s0 q
      omega
  · rw [q] at e;simp at e;omega
  · exact q
theorem gc_mul (f t b:Int):gc (f*t) (f*b)=f.natAbs*gc t b:=by
  unfold gc
  rw [Int.gcd_mul_left]
  rfl
theorem sg_mul {f:Int} (hf:f≠0) (t:Int) {b:Int} (hb:b≠0):sg (f*t) (f*b)=f*sg t b:=by
  unfold sg
  rw [gc_mul]
  rcases (by omega:0 < f∨f < 0) with p | n
  · have e:(f.natAbs:Int)=f:=by omega
    rw [e]
    by_cases c:b < 0
    · rw [if_pos c,if_pos (Int.mul_neg_of_pos_of_neg p c),Int.mul_neg]
    · have:=Int.mul_pos p (show 0 < b by omega)
      rw [if_neg c,if_neg (by omega)]
  · have e:(f.natAbs:Int) = -f:=by omega
    rw [e]
    by_cases c:b < 0
    · have:=Int.mul_pos_of_neg_of_neg n c
      rw [if_pos c,if_neg (by omega),Int.mul_neg,Int.neg_mul]
    · have:=Int.mul_neg_of_neg_of_pos n (show 0 < b by omega)
      rw [if_neg c,if_pos (by omega),Int.neg_mul,Int.neg_neg]
theorem lowT_mul {f:Int} (hf:f≠0) (t:Int) {b:Int} (hb:b≠0):lowT (f*t) (f*b)=lowT t b:=by
  have h:=lowT_eq (f*t) (f*b)
  rw [sg_mul hf t hb,Int.mul_assoc] at h
  have h2:=Int.eq_of_mul_eq_mul_left hf h
  have h3:=lowT_eq t b
  exact Int.eq_of_mul_eq_mul_left (sg_ne hb) (h2.trans h3.symm)
theorem lowB_mul {f:Int} (hf:f≠0) (t:Int) {b:Int} (hb:b≠0):lowB (f*t) (f*b)=lowB t b:=by
  have h:=lowB_eq (f*t) (f*b)
  rw [sg_mul hf t hb,Int.mul_assoc] at h
  have h2:=Int.eq_of_mul_eq_mul_left hf h
  have h3:=lowB_eq t b
  exact Int.eq_of_mul_eq_mul_left (sg_ne hb) (h2.trans h3.symm)
theorem natAbs_le_of_mul {s x n:Int} (hs:s≠0) (e:s*x=n):x.natAbs≤n.natAbs:=by
  rw [← e,Int.natAbs_mul]
  have:1≤s.natAbs:=by omega
  exact Nat.le_mul_of_pos_left _ this
theorem lowT_le {t b:Int} (hb:b≠0):(lowT t b).natAbs≤t.natAbs:=natAbs_le_of_mul (sg_ne hb) (lowT_eq t b)
theorem lowB_le {t b:Int} (hb:b≠0):(lowB t b).natAbs≤b.natAbs:=natAbs_le_of_mul (sg_ne hb) (lowB_eq t b)
theorem gc_le {t b:Int} (hb:b≠0):(gc t b).natAbs≤b.natAbs:=by
  have h:=Int.gcd_dvd_right (a:=t) (b:=b)
  have:=Nat.le_of_dvd (by omega) (Int.natAbs_dvd_natAbs.mpr h)
  unfold gc;exact this
theorem sg_le {t b:Int} (hb:b≠0):(sg t b).natAbs≤b.natAbs:=by
  have:=gc_le (t:=t) hb
  unfold sg;split <;> omega
theorem low_gc {t b:Int} (hb:b≠0):gc (lowT t b) (lowB t b)=1:=by
  have h1:=lowT_eq t b
  have h2:=lowB_eq t b
  have h3:=gc_mul (sg t b) (lowT t b) (lowB t b)
  rw [h1,h2] at h3
  have h4:=gc_pos (a:=t) hb
  have h5:((sg t b).natAbs:Int)=gc t b:=by
    unfold sg;split <;> omega
  rw [h5] at h3
  have h6:gc t b*gc (lowT t b) (lowB t b)=gc t b*1:=by rw [← h3,Int.mul_one]
  exact Int.eq_of_mul_eq_mul_left (by omega) h6
theorem low_own {p q:Int} (hq:0 < q) (h:gc p q=1):lowT p q=p∧lowB p q=q:=by
  have s:sg p q=1:=by unfold sg;rw [if_neg (by omega),h]
  have h1:=lowT_eq p q
  have h2:=lowB_eq p q
  rw [s,Int.one_mul] at h1 h2
  exact ⟨h1,h2⟩
theorem sg_pos {t b:Int} (hb:0 < b):0 < sg t b:=by
  have:=gc_pos (a:=t) (b:=b) (by omega)
  unfold sg;rw [if_neg (by omega)];exact this
end Lo
structure St4 where
  p:Int
  q:Int
  m:Int
  h:Int
  deriving DecidableEq
namespace Ln
noncomputable def Adj (s t:St4):Prop:=s.p*t.q < t.p*s.q∧(t.m - s.m)*s.p+(t.h - s.h)*s.q=0∧t.m≠s.m
noncomputable def Ch:List St4→Prop
  | []=>True
  | [_]=>True
  | s::t::r=>Adj s t∧Ch (t::r)
theorem Ch.snoc:∀{S:List St4} {t:St4},Ch S→(∀ s,S.getLast?=some s→Adj s t)→Ch (S++[t])
  | [],_,_,_=>trivial
  | [s],t,_,h=>⟨h s rfl,trivial⟩
  | s::u::r,t,c,h=>⟨c.1,Ch.snoc (S:=u::r) c.2 fun x hx=>h x (by rw [List.getLast?_cons_cons];exact hx)⟩
theorem rule_at {m d:Int} (hd:d≠0):d*Lo.lowT m d=m*Lo.lowB m d:=by
  have e1:=Lo.lowT_eq m d
  have e2:=Lo.lowB_eq m d
  have:Lo.sg m d*(d*Lo.lowT m d)=Lo.sg m d*(m*Lo.lowB m d):=by
    rw [← Int.mul_assoc,Int.mul_comm (Lo.sg m d) d,Int.mul_assoc,e1,← Int.mul_assoc,Int.mul_comm (Lo.sg m d) m,Int.mul_assoc,e2,Int.mul_comm]
  exact Int.eq_of_mul_eq_mul_left (Lo.sg_ne hd) this
noncomputable def pk (L:List St4) (p q:Int):Option St4:=L.find? fun s=>!decide (s.p*q < p*s.q)
theorem pk_at {p q:Int}:∀{L:List St4} {k:Nat} {s:St4},(∀ j,j < k→∀ t,L[j]?=some t→t.p*q < p*t.q)→L[k]?=some s→¬s.p*q < p*s.q→pk L p q=some s
  | [],_,_,_,h,_=>by cases h
  | t::r,0,s,_,h,n=>by
    cases h
    unfold pk
    rw [List.find?_cons]
    simp only [decide_eq_false n,Bool.not_false]
  | t::r,k+1,s,a,h,n=>by
    have h1:=a 0 (by omega) t rfl
    unfold pk
    rw [List.find?_cons]
    simp only [decide_eq_true h1,Bool.not_true]
    exact pk_at (L:=r) (k:=k) (fun j hj u hu=>a (j+1) (by omega) u hu) h n
theorem last_at {L:List St4} {s:St4} (h:L.getLast?=some s):0 < L.length∧L[L.length - 1]?=some s:=by
  rw [List.getLast?_eq_getElem?] at h
  refine ⟨?_,h⟩
  rcases Nat.eq_zero_or_pos L.length with z | z
  · rw [List.length_eq_zero_iff.mp z] at h;cases h
  · exact z
theorem Ch.get:∀{L:List St4} {i:Nat} {s t:St4},Ch L→L[i]?=some s→L[i+1]?=some t→Adj s t
  | [],_,_,_,_,h,_=>by cases h
  | [_],0,_,_,_,_,h=>by cases h
  | [_],_+1,_,_,_,h,_=>by cases h
  | _::_::_,0,_,_,c,h,g=>by cases h;cases g;exact c.1
  | _::b::r,i+1,_,_,c,h,g=>Ch.get (L:=b::r) (i:=i) c.2 h g
theorem lt_trans' {a b c d e f:Int} (hb:0 < b) (hd:0 < d) (hf:0 < f) (h1:a*d < c*b) (h2:c*f < e*d):a*f < e*b:=by
  have z1:a*d*f < c*b*f:=Int.mul_lt_mul_of_pos_right h1 hf
  have z2:c*f*b < e*d*b:=Int.mul_lt_mul_of_pos_right h2 hb
  have e1:c*b*f=c*f*b:=by rw [Int.mul_assoc,Int.mul_comm b f,← Int.mul_assoc]
  have z3:a*d*f < e*d*b:=by omega
  have e2:a*d*f=d*(a*f):=by rw [Int.mul_comm a d,Int.mul_assoc]
  have e3:e*d*b=d*(e*b):=by rw [Int.mul_comm e d,Int.mul_assoc]
  rw [e2,e3] at z3
  exact Int.lt_of_mul_lt_mul_left z3 (by omega)
end Ln
end Mine
namespace Mine
open PySem L2
noncomputable def Sm (x:Int):Prop:=x.natAbs < 2 ^ 200
noncomputable abbrev bits (x:Int):Nat:=Builtin.Int.intBits x
theorem bits_of {x:Int} {m:Nat} (h:x.natAbs < 2 ^ m):bits x≤m:=intBits_le_iff.mpr h
theorem mulS {a b:Int} (ha:Sm a) (hb:Sm b):IntMulOk a b:=IntMulOk.of_le (m:=200) (n:=200) (bits_of ha) (bits_of hb) (by decide)
theorem sm_of {x:Int} (h:x.natAbs≤10 ^ 50):Sm x:=Nat.lt_of_le_of_lt h (by decide +kernel)
theorem div_ok {t x:Int} (h0:x≠0) (h:Sm x):CDivK t x:=⟨h0,Nat.lt_of_lt_of_le ((Nat.log2_lt (by omega)).mpr h) (by decide)⟩
theorem abs_is (i:Int):(if i < 0 then -i else i)=(i.natAbs:Int):=by split <;> omega
theorem at_script {ns:List Int} {i:Int} (h0:0≤i) (h:i < (ns.length:Int)):∃ v:Int,atI (ns.map V.int) i=some (.int v)∧v∈ns:=by
  have hi:i.toNat < ns.length:=by omega
  have ek:i=((i.toNat:Nat):Int):=by omega
  have q:atI (ns.map V.int) ((i.toNat:Nat):Int)=some (.int ns[i.toNat]):=atI_nat (by rw [List.getElem?_map,List.getElem?_eq_getElem hi] <;> rfl)
  rw [← ek] at q
  exact ⟨_,q,List.getElem_mem hi⟩
theorem at_of {xs:List V} {i:Int} {x:V} (h0:0≤i) (h:xs[i.toNat]?=some x):atI xs i=some x:=by
  have ek:i=((i.toNat:Nat):Int):=by omega
  rw [ek]
  exact atI_nat h
structure Scr (K:PySem.W.Frag) (H:Hp) (a:Addr) (ns:List Int):Prop where
  sq:(∃ o,H a=some (.frz o (.lst (ns.map V.int))))∨∃(o:Obj) (its:Array Value) (n:Nat),K.lookup a=some o∧o.cls=.type "list"∧o.dict=none∧o.data=.seq its n∧its.size≤sizeLine∧Vals (ns.map V.int) its.toList
  few:ns.length≤63
  bit:∀ n∈ns,bits n≤1048576
theorem Scr.l {K:PySem.W.Frag} {H:Hp} {a:Addr} {ns:List Int} (S:Scr K H a ns):SqL K H a (ns.map V.int):=S.sq.elim (fun h=>.inl (.inr h)) .inr
theorem Scr.ts {K:PySem.W.Frag} {H H':Hp} {a:Addr} {ns:List Int} (S:Scr K H a ns) (e:Tst H H'):Scr K H' a ns:=⟨S.sq.elim (fun ⟨o,h⟩=>.inl ⟨o,e.f _ _ _ h⟩) .inr,S.few,S.bit⟩
theorem scr_of {K:PySem.W.Frag} {H:Hp} {a:Addr} {ns:List Int} (O:Only H) (h:SqL K H a (ns.map V.int)) (few:ns.length≤63) (bit:∀ n∈ns,bits n≤1048576):Scr K H a ns:=by
  refine ⟨?_,few,bit⟩
  rcases h with (h | h) | h
  · exfalso
    rcases O a with z | ⟨o,xs,z⟩
    · rw [h] at z;cases z
    · rw [h] at z;cases z
  · exact .inl h
  · exact .inr h
theorem same_new {H:Hp} {p:Addr} (h:H p=none) (o:HO):Same H (upd H p o):=fun b u q=>by rw [upd_ne (ne_of_none q h)];exact q
theorem same_mut {H H':Hp} {l:Addr} (e:Same H H') (h:H l=none) (o:HO):Same H (upd H' l o):=fun b u q=>by rw [upd_ne (ne_of_none q h)];exact e b u q
noncomputable def frD (p q:Int):PyData:=.tuple [.int p,.int q]
noncomputable def stD (s:St4):PyData:=.tuple [frD s.p s.q,.int s.m,.int s.h]
noncomputable def lnD (L:List St4):PyData:=.tuple (L.map stD)
section
variable {K:PySem.W.Frag} {H H':Hp} {a:Addr} {v e:V} {p q m h:Int} {s:St4} {L:List St4}
theorem fr_mk (g:SqT K H a [.int p,.int q]):Dat K H (frD p q) (.ref a):=⟨a,_,rfl,g,_,_,rfl,rfl,_,_,rfl,rfl,rfl⟩
theorem fr_el (g:Dat K H (frD p q) v):∃ a,v=.ref a∧SqT K H a [.int p,.int q]:=by
  obtain ⟨a,xs,rfl,g,x,r,rfl,hx,y,t,rfl,hy,ht⟩:=g
  cases (show x=V.int p from hx)
  cases (show y=V.int q from hy)
  cases (show t=[] from ht)
  exact ⟨a,rfl,g⟩
theorem st_mk (g:SqT K H a [e,.int s.m,.int s.h]) (f:Dat K H (frD s.p s.q) e):Dat K H (stD s) (.ref a):=⟨a,_,rfl,g,_,_,rfl,f,_,_,rfl,rfl,_,_,rfl,rfl,rfl⟩
theorem st_el (g:Dat K H (stD s) v):∃ a e,v=.ref a∧SqT K H a [e,.int s.m,.int s.h]∧Dat K H (frD s.p s.q) e:=by
  obtain ⟨a,xs,rfl,g,x,r,rfl,hx,y,t,rfl,hy,z,u,rfl,hz,hu⟩:=g
  cases (show y=V.int s.m from hy)
  cases (show z=V.int s.h from hz)
  cases (show u=[] from hu)
  exact ⟨a,x,rfl,g,hx⟩
theorem ln_el (g:Dat K H (lnD L) v):∃ a xs,v=.ref a∧SqT K H a xs∧DatAll K H (L.map stD) xs:=g
theorem ln_at {xs:List V} (g:DatAll K H (L.map stD) xs) {i:Nat} (h:L[i]?=some s):∃ x,xs[i]?=some x∧Dat K H (stD s) x:=g.get (by rw [List.getElem?_map,h];rfl)
theorem ln_at' {xs:List V} (g:DatAll K H (L.map stD) xs) {i:Nat} {x:V} (h:xs[i]?=some x):∃ s,L[i]?=some s∧Dat K H (stD s) x:=by
  obtain ⟨d,e1,e2⟩:=g.get' h
  rw [List.getElem?_map] at e1
  cases z:L[i]? with
  | none=>rw [z] at e1;cases e1
  | some s=>rw [z] at e1;cases e1;exact ⟨s,rfl,e2⟩
theorem ln_len {xs:List V} (g:DatAll K H (L.map stD) xs):xs.length=L.length:=by rw [g.len,List.length_map]
end
theorem fr_lay (p q:Int):(frD p q).canLay0=true:=by simp [frD,PyData.canLay0,PyData.canLayAll0]
theorem fr_depth (p q:Int):(frD p q).depth=1:=by simp [frD,PyData.depth,PyData.depthAll]
theorem st_lay (s:St4):(stD s).canLay0=true:=by simp [stD,PyData.canLay0,PyData.canLayAll0,fr_lay]
theorem st_depth (s:St4):(stD s).depth=2:=by simp [stD,PyData.depth,PyData.depthAll,fr_depth]
theorem ln_shaped (L:List St4):SeqAt.shaped (lnD L)=true:=by
  have h1:=lay_map st_lay L
  have h2:=depth_map (f:=stD) (n:=2) (fun s=>by rw [st_depth];exact Nat.le_refl _) L
  have h3:PyData.depthAll (L.map stD)+1≤64:=by omega
  simp only [SeqAt.shaped,lnD,PyData.canLay0,h1,PyData.depth,Bool.true_and]
  exact decide_eq_true h3
theorem lnl_shaped (L:List St4):SeqAt.shaped (.list (L.map stD))=true:=by
  have h1:=lay_map st_lay L
  have h2:=depth_map (f:=stD) (n:=2) (fun s=>by rw [st_depth];exact Nat.le_refl _) L
  have h3:PyData.depthAll (L.map stD)+1≤64:=by omega
  simp only [SeqAt.shaped,PyData.canLay0,h1,PyData.depth,Bool.true_and]
  exact decide_eq_true h3
theorem fr_shaped (p q:Int):SeqAt.shaped (frD p q)=true:=by simp [SeqAt.shaped,fr_lay,fr_depth]
theorem fr_eqv (p q r s:Int):PyData.eqv (frD p q) (frD r s)=decide (p=r∧q=s):=by
  simp only [frD,PyData.eqv,PyData.eqvAll,Bool.and_true]
  by_cases h1:p=r <;> by_cases h2:q=s <;> simp [h1,h2]
theorem st_eqv (s t:St4):PyData.eqv (stD s) (stD t)=decide (s=t):=by
  obtain ⟨p,q,m,h⟩:=s
  obtain ⟨p',q',m',h'⟩:=t
  simp only [stD,PyData.eqv,PyData.eqvAll,Bool.and_true,fr_eqv,St4.mk.injEq]
  by_cases h1:p=p' <;> by_cases h2:q=q' <;> by_cases h3:m=m' <;> by_cases h4:h=h' <;> simp [h1,h2,h3,h4]
theorem ln_eqv (L M:List St4):PyData.eqv (lnD L) (lnD M)=decide (L=M):=by
  simp only [lnD,PyData.eqv]
  exact eqv_map st_eqv L M
mutual
theorem eqv_self:∀ d:PyData,d.canLay0=true→PyData.eqv d d=true
  | .none,_=>by simp [PyData.eqv]
  | .bool _,_=>by simp [PyData.eqv]
  | .int _,_=>by simp [PyData.eqv]
  | .str _,_=>by simp [PyData.eqv]
  | .list xs,h=>by simp only [PyData.eqv];exact eqvAll_self xs (by simpa [PyData.canLay0] using h)
  | .tuple xs,h=>by simp only [PyData.eqv];exact eqvAll_self xs (by simpa [PyData.canLay0] using h)
  | .dict _,h=>by simp [PyData.canLay0] at h
theorem eqvAll_self:∀ xs:List PyData,PyData.canLayAll0 xs=true→PyData.eqvAll xs xs=true
  | [],_=>by simp [PyData.eqvAll]
  | x::xs,h=>by
    have h':x.canLay0=true∧PyData.canLayAll0 xs=true:=by simpa [PyData.canLayAll0] using h
    simp [PyData.eqvAll,eqv_self x h'.1,eqvAll_self xs h'.2]
end
end Mine
namespace Mine
open PySem L2
noncomputable def fixO:HO→Bool
  | .tup _=>true
  | .ins _ _ _=>true
  | .own _=>true
  | .frz _ _=>true
  | _=>false
noncomputable def Kp (H H':Hp):Prop:=∀ b o,H b=some o→fixO o=true→H' b=some o
theorem Kp.trans {H H1 H2:Hp} (a:Kp H H1) (b:Kp H1 H2):Kp H H2:=fun c o h f=>b c o (a c o h f) f
theorem Kp.of {H H':Hp} (e:Same H H'):Kp H H':=fun b o h _=>e b o h
theorem kp_mut {H:Hp} {l:Addr} {o u:HO} (h:H l=some o) (f:fixO o=false):Kp H (upd H l u):=fun b z hb fz=>by
  rw [upd_ne (ne_of hb h fun e=>by rw [e,f] at fz;cases fz)]
  exact hb
theorem kit_same {K:PySem.W.Frag} {t:Value}:PySem.W.kitOne K t t=some true:=by unfold PySem.W.kitOne;rw [if_pos (beq_self_eq_true t)]
noncomputable def SB (c:V) (H H':Hp):Prop:=∀ b o,H b=some o→V.ref b≠c→H' b=some o
theorem SB.trans {c:V} {H H1 H2:Hp} (a:SB c H H1) (b:SB c H1 H2):SB c H H2:=fun d o h n=>b d o (a d o h n) n
theorem SB.of {c:V} {H H':Hp} (e:Same H H'):SB c H H':=fun b o h _=>e b o h
theorem sb_upd {a:Addr} (H:Hp) (u:HO):SB (.ref a) H (upd H a u):=fun b o h n=>by
  rw [upd_ne fun z=>n (by rw [z])]
  exact h
inductive Tu (H:Hp):Addr→Tr→Prop where
  | never {a}:H a=some (.tup [.str "never"])→Tu H a .never
  | always {a}:H a=some (.tup [.str "always"])→Tu H a .always
  | lp {a}:H a=some (.tup [.str "p"])→Tu H a .lp
  | lq {a}:H a=some (.tup [.str "q"])→Tu H a .lq
  | no {a b t}:H a=some (.tup [.str "not",.ref b])→Tu H b t→Tu H a (.no t)
  | fold {a b d w x y}:H a=some (.tup [.str (W5.str w),.ref b,.ref d])→Tu H b x→Tu H d y→Tu H a (.fold w x y)
structure CCs where
  (ne al le no mo ls gr lr ld:Addr)
noncomputable def CCs.fold (c:CCs):W5→Addr
  | .more=>c.mo | .less=>c.ls | .greater=>c.gr | .lesser=>c.lr | .leads=>c.ld
noncomputable def fName (x:V):List (Str×V):=[("name",x)]
noncomputable def fPart (x:V):List (Str×V):=[("part",x)]
noncomputable def fTwo (x y:V):List (Str×V):=[("one",x),("other",y)]
inductive Ob (c:CCs) (H:Hp):Addr→Tr→Prop where
  | never {a dx}:H a=some (.ins c.ne dx [])→Ob c H a .never
  | always {a dx}:H a=some (.ins c.al dx [])→Ob c H a .always
  | lp {a dx}:H a=some (.ins c.le dx (fName (.str "p")))→Ob c H a .lp
  | lq {a dx}:H a=some (.ins c.le dx (fName (.str "q")))→Ob c H a .lq
  | no {a dx b t}:H a=some (.ins c.no dx (fPart (.ref b)))→Ob c H b t→Ob c H a (.no t)
  | fold {a dx b d w x y}:H a=some (.ins (c.fold w) dx (fTwo (.ref b) (.ref d)))→Ob c H b x→Ob c H d y→Ob c H a (.fold w x y)
inductive All2 {α β:Type} (R:α→β→Prop):List α→List β→Prop where
  | nil:All2 R [] []
  | cons {a b as bs}:R a b→All2 R as bs→All2 R (a::as) (b::bs)
theorem All2.imp {α β:Type} {R R':α→β→Prop} (f:∀ a b,R a b→R' a b) {as:List α} {bs:List β} (h:All2 R as bs):All2 R' as bs:=by
  induction h with
  | nil=>exact .nil
  | cons r _ ih=>exact .cons (f _ _ r) ih
theorem All2.app {α β:Type} {R:α→β→Prop} {as cs:List α} {bs ds:List β} (h:All2 R as bs) (k:All2 R cs ds):All2 R (as++cs) (bs++ds):=by
  induction h with
  | nil=>exact k
  | cons r _ ih=>exact .cons r ih
theorem All2.len {α β:Type} {R:α→β→Prop} {as:List α} {bs:List β} (h:All2 R as bs):as.length=bs.length:=by
  induction h with
  | nil=>rfl
  | cons _ _ ih=>rw [List.length_cons,List.length_cons,ih]
theorem All2.get {α β:Type} {R:α→β→Prop} {as:List α} {bs:List β} (h:All2 R as bs):∀(i:Nat) (a:α),as[i]?=some a→∃ b,bs[i]?=some b∧R a b:=by
  induction h with
  | nil=>intro i a z;cases z
  | cons r _ ih =>
    intro i x z
    cases i with
    | zero=>cases z;exact ⟨_,rfl,r⟩
    | succ i=>exact ih i x z
inductive Pc where
  | w (x:Str)
  | t (t:Tr)
inductive PcV (c:CCs) (H:Hp):V→Pc→Prop where
  | w (x:Str):PcV c H (.str x) (.w x)
  | t {a:Addr} {t:Tr}:Ob c H a t→PcV c H (.ref a) (.t t)
theorem min_is (i j:Int):(if j < i then j else i)=min i j:=by
  rw [Int.min_def];split <;> split <;> omega
theorem max_is (i j:Int):(if j > i then j else i)=max i j:=by
  rw [Int.max_def];split <;> split <;> omega
end Mine
namespace L2
open PySem PySem.Spec PyProof.Rows
section
variable {P:Program} {w:World} {K:PySem.W.Frag} {mg:Str→Option Value} {base:Heap}
end
section
variable {X:Cx} {x:Str} {C:Addr} {k:Nat} {ps:List Str} {sp:Sp} {e:Expr} {es:List Expr} {t:TA} {p pos:Pos}
end
end L2
namespace Mine
open PySem L2
end Mine
namespace Mine
open PySem L2
end Mine
namespace Mine
open PySem L2
end Mine
namespace Mine
open PySem L2
theorem ite_yes {a b:Str} {A B:Prop} (h:a=b) (k:A):if decide (V.str a=V.str b)=true then A else B:=by
  rw [decide_eq_true (congrArg V.str h),if_pos rfl]
  exact k
theorem ite_no {a b:Str} {A B:Prop} (h:a≠b) (k:B):if decide (V.str a=V.str b)=true then A else B:=by
  rw [decide_eq_false (fun z=>h (V.str.inj z)),if_neg Bool.false_ne_true]
  exact k
noncomputable def spWholeL:Sp:=fun vs H Q _=>∃ i:Int,vs=[.int i]∧Q (.bl true) H
end Mine
namespace L2
open PySem PySem.Spec PyProof.Rows
namespace HT
variable {prog:Program} {w:World} {A:Around} {E:Value→Shared→Prop} {s:Shared}
theorem item_whole {t sl:Addr} {items:Array Value} {vl vu:Value} {lo hi:Option Int} {Q:Value→Shared→Prop} (ht:IsTup s.heap t items) (hs:s.heap.IsSliceOf sl vl vu .none) (pl:IsPart vl lo) (pu:IsPart vu hi)
    (h0:_root_.HT.sIx items.size 0 lo=0) (h1:_root_.HT.sIx items.size items.size hi=items.size) (h:Q (.ref t) s):wpAny (model prog w) A (getItem (.ref t) (.ref sl)) Q E s:=by
  obtain ⟨os,hos,hcs,hds⟩:=id hs
  have hTs:s.TypeIs (.ref sl) "slice":=⟨os,hos,hcs⟩
  unfold getItem
  try with_reducible refine wpAny_holding ?_
  first | refine wpAny_bind (wpAny_pure ?_) | skip
  refine wpAny_bind (wpAny_sequenceKey ht.typeIs (by decide) ?_)
  refine wpAny_bind (wpAny_callSpecial?_slot (name:=Str.ofString "__getitem__") ht.typeIs PyProof.Rows.slot_tuple_getitem
    (wpAny_call_entry PyProof.Rows.slot_tuple_getitem ht.typeIs PyProof.Rows.entry_tuple_getitem ?_ (PyProof.Rows.args_tuple_getitem _ _)))
  show wpAny _ _ (Builtin.Tuple.tupleItemsOf (.ref t) >>= _) _ _ s
  refine wpAny_bind (PyProof.Rows.tupleItemsOf_ ht ?_)
  refine wpAny_bind (wpAny_typeOf hTs ?_)
  rw [if_pos (by decide)]
  refine wpAny_bind (_root_.HT.sliceApplied_gen hs pl pu ?_)
  have yes:(((_root_.HT.sIx items.size 0 lo:Nat):Int) == 0 && (1:Int) == 1 && (_root_.HT.sIx items.size items.size hi - _root_.HT.sIx items.size 0 lo) == items.size)=true:=by rw [h0,h1];simp
  show wpAny _ _ (if (((_root_.HT.sIx items.size 0 lo:Nat):Int) == 0 && (1:Int) == 1 && (_root_.HT.sIx items.size items.size hi - _root_.HT.sIx items.size 0 lo) == items.size)=true then _ else _) _ _ s
  rw [if_pos yes]
  unfold Builtin.Tuple.tupleIsExact
  refine wpAny_bind (wpAny_bind (wpAny_typeOf ht.typeIs (wpAny_pure ?_)))
  rw [if_pos (by decide)]
  exact wpAny_bind (wpAny_rule (wpAny_pure ⟨_,rfl,wpAny_pure h⟩))
end HT
section
variable {X:Cx}
noncomputable def rSlA (K:PySem.W.Frag):V→Option Int→Option Int→Hp→VK→Prop:=fun x lo hi H Q=>∃(a:Addr) (xs:List V),x=.ref a∧SqT K H a xs∧(_root_.HT.sIx xs.length 0 lo=0→_root_.HT.sIx xs.length xs.length hi=xs.length→Q (.ref a) H)∧
  (¬ (_root_.HT.sIx xs.length 0 lo=0∧_root_.HT.sIx xs.length xs.length hi=xs.length)→∀ p,H p=none→Q (.ref p) (upd H p (.tup (cutV xs lo hi))))
theorem sl_tupA:SlR X (rSlA X.K):=by
  intro pins s σ H x v vl vu lo hi sl Q I rx hs pl pu h
  obtain ⟨a,xs,rfl,hx,q1,q2⟩:=h
  by_cases hw:_root_.HT.sIx xs.length 0 lo=0∧_root_.HT.sIx xs.length xs.length hi=xs.length
  · cases rx
    obtain ⟨its,r,ht,hz⟩:=I.tuple hx
    have hlen:its.toArray.size=xs.length:=by rw [List.size_toArray];exact r.length.symm
    refine ⟨"tuple",_,PyProof.Rows.slot_tuple_getitem.lookup,ht.typeIs,?_⟩
    exact HT.item_whole ht hs pl pu (by rw [hlen];exact hw.1) (by rw [hlen];exact hw.2) ⟨.ref a,H,I,rfl,q1 hw.1 hw.2⟩
  · exact sl_tup pins s σ H (.ref a) v vl vu lo hi sl Q I rx hs pl pu ⟨a,xs,rfl,hx,hw,q2 hw⟩
end
end L2
namespace Mine
open PySem L2
end Mine
namespace Mine
open PySem L2
end Mine
namespace Mine
open PySem L2
end Mine
namespace Mine
open PySem L2
theorem tNoIf_go {σ:St} {H:Hp} {A B:Hp→Prop} (h:A H):tNoIf σ H fun b H4=>if b=true then A H4 else B H4:=by
  show if true=true then A H else B H
  rw [if_pos rfl]
  exact h
end Mine
namespace L2
open PySem PySem.Spec PyProof.Rows
end L2
namespace Mine
open PySem L2
noncomputable def spLaw (K:PySem.W.Frag):Sp:=fun vs H Q _=>∃(a:Addr) (ns:List Int),vs=[.ref a]∧Scr K H a ns∧∀ H',Q (.bl true) H'
theorem comp_from {wi:TI} {tc:TT} {te:TE} {js:List Nat} {σ:St} {H:Hp} {Q:VK} (h:wi σ H fun J H1=>tComp (fun _ H R=>R J H) tc te js σ H1 Q):tComp wi tc te js σ H Q:=h
theorem comp_list {K:PySem.W.Frag} {wi:TI} {te:TE} {js:List Nat} {σ:St} {H0:Hp} {Q:VK} {xs:List V} (Src:Addr→Hp→Prop) (hwi:∀ R:It→Hp→Prop,(∀ l H,Src l H→R (Itl K l) H)→wi σ H0 R) (hsrc:∀ l H,Src l H→H l=some (.lst xs)) (hx:xs.length≤1000)
    (Pv:Addr→Addr→Nat→List V→Hp→Prop) (h0:∀ l H D,Src l H→H D=none→Pv l D 0 [] (upd H D (.lst [])))
    (hs:∀ l D i v ys H',xs[i]?=some v→l≠D→H' l=some (.lst xs)→H' D=some (.lst ys)→Pv l D i ys H'→∀ N:VK,(∀ y H'',H'' l=some (.lst xs)→H'' D=some (.lst ys)→Pv l D (i+1) (ys++[y]) (upd H'' D (.lst (ys++[y])))→N y H'')→te (some v::cVals js σ) H' N)
    (hd:∀ l D ys H',H' l=some (.lst xs)→H' D=some (.lst ys)→Pv l D xs.length ys H'→Q (.ref D) H'):tComp wi tNoIf te js σ H0 Q:=by
  refine hwi _ fun l H src=>?_
  intro D hD
  have e:=hsrc l H src
  have nl:l≠D:=ne_of_none e hD
  refine ⟨fun i m H'=>m=xs.length - i∧i≤xs.length∧H' l=some (.lst xs)∧∃ ys,ys.length=i∧H' D=some (.lst ys)∧Pv l D i ys H',⟨xs.length,rfl,Nat.zero_le _,by rw [upd_ne nl];exact e,[],rfl,upd_same,h0 l H D src hD⟩,?_⟩
  rintro i m H2 ⟨rfl,hi,e2,ys,hy,eD,p⟩
  by_cases hlt:i < xs.length
  · refine .inr ⟨⟨xs,xs[i],SqL.of e2,by simp [hlt]⟩,fun v H3 y=>?_⟩
    obtain ⟨eh,y⟩:=y
    subst eh
    refine tNoIf_go ?_
    refine hs l D i v ys _ (y xs (SqL.of e2)) nl e2 eD p _ fun y H5 z1 z2 z3=>?_
    exact ⟨ys,z2,Nat.lt_of_le_of_lt (show ys.length≤1000 by omega) (by decide),xs.length - (i+1),by omega,rfl,hlt,by rw [upd_ne nl];exact z1,ys++[y],by rw [List.length_append,hy];rfl,upd_same,z3⟩
  · have ei:i=xs.length:=by omega
    subst ei
    exact .inl ⟨⟨xs,SqL.of e2,Nat.le_refl _⟩,hd l D ys H2 e2 eD p⟩
theorem comp_tup {K:PySem.W.Frag} {wi:TI} {te:TE} {js:List Nat} {σ:St} {H0:Hp} {Q:VK} {xs:List V} (Src:Addr→Hp→Prop) (hwi:∀ R:It→Hp→Prop,(∀ l H,Src l H→R (Itt K l) H)→wi σ H0 R) (hsrc:∀ l H,Src l H→H l=some (.tup xs)) (hx:xs.length≤1000)
    (Pv:Addr→Addr→Nat→List V→Hp→Prop) (h0:∀ l H D,Src l H→H D=none→Pv l D 0 [] (upd H D (.lst [])))
    (hs:∀ l D i v ys H',xs[i]?=some v→l≠D→H' l=some (.tup xs)→H' D=some (.lst ys)→Pv l D i ys H'→∀ N:VK,(∀ y H'',H'' l=some (.tup xs)→H'' D=some (.lst ys)→Pv l D (i+1) (ys++[y]) (upd H'' D (.lst (ys++[y])))→N y H'')→te (some v::cVals js σ) H' N)
    (hd:∀ l D ys H',H' l=some (.tup xs)→H' D=some (.lst ys)→Pv l D xs.length ys H'→Q (.ref D) H'):tComp wi tNoIf te js σ H0 Q:=by
  refine hwi _ fun l H src=>?_
  intro D hD
  have e:=hsrc l H src
  have nl:l≠D:=ne_of_none e hD
  refine ⟨fun i m H'=>m=xs.length - i∧i≤xs.length∧H' l=some (.tup xs)∧∃ ys,ys.length=i∧H' D=some (.lst ys)∧Pv l D i ys H',⟨xs.length,rfl,Nat.zero_le _,by rw [upd_ne nl];exact e,[],rfl,upd_same,h0 l H D src hD⟩,?_⟩
  rintro i m H2 ⟨rfl,hi,e2,ys,hy,eD,p⟩
  by_cases hlt:i < xs.length
  · refine .inr ⟨⟨xs,xs[i],SqT.of e2,by simp [hlt]⟩,fun v H3 y=>?_⟩
    obtain ⟨eh,y⟩:=y
    subst eh
    refine tNoIf_go ?_
    refine hs l D i v ys _ (y xs (SqT.of e2)) nl e2 eD p _ fun y H5 z1 z2 z3=>?_
    exact ⟨ys,z2,Nat.lt_of_le_of_lt (show ys.length≤1000 by omega) (by decide),xs.length - (i+1),by omega,rfl,hlt,by rw [upd_ne nl];exact z1,ys++[y],by rw [List.length_append,hy];rfl,upd_same,z3⟩
  · have ei:i=xs.length:=by omega
    subst ei
    exact .inl ⟨⟨xs,SqT.of e2,Nat.le_refl _⟩,hd l D ys H2 e2 eD p⟩
theorem comp_mapT {α:Type} {K:PySem.W.Frag} {wi:TI} {te:TE} {js:List Nat} {σ:St} {H:Hp} {Q:VK} {xs:List V} {ts:List α} {R:Hp→V→α→Prop} (g:α→V) (hR:∀ H H' v t,Same H H'→R H v t→R H' v t) (Src:Addr→Hp→Prop)
    (hwi:∀ R:It→Hp→Prop,(∀ l H,Src l H→R (Itt K l) H)→wi σ H R) (hsrc:∀ l H',Src l H'→H' l=some (.tup xs)∧Same H H') (hx:xs.length≤1000) (o:All2 (R H) xs ts)
    (hs:∀ v t H' (N:VK),t∈ts→R H' v t→(∀ H'',Same H' H''→N (g t) H'')→te (some v::cVals js σ) H' N) (hd:∀ D H',Same H H'→H D=none→H' D=some (.lst (ts.map g))→Q (.ref D) H'):tComp wi tNoIf te js σ H Q:=by
  refine comp_tup Src hwi (fun l H src=>(hsrc l H src).1) hx (fun l D i ys H'=>H D=none∧Same H H'∧ys=(ts.take i).map g) (fun l H' D src hD=>⟨(hsrc l H' src).2.free hD,(hsrc l H' src).2.trans (same_new hD _),rfl⟩) (fun l D i v ys H' hv nl el eD h N hN=>?_) (fun l D ys H' el eD h=>?_)
  · obtain ⟨hD,sm,rfl⟩:=h
    obtain ⟨t,ht,hr⟩:=o.get i v hv
    refine hs v t H' N (List.mem_of_getElem? ht) (hR _ _ _ _ sm hr) fun H'' s2=>hN _ _ (s2 _ _ el) (s2 _ _ eD) ⟨hD,fun d u z=>?_,?_⟩
    · rw [upd_ne (ne_of_none z hD)]
      exact s2 _ _ (sm _ _ z)
    · rw [List.take_add_one,ht,List.map_append]
      rfl
  · obtain ⟨hD,sm,rfl⟩:=h
    refine hd D H' sm hD ?_
    rw [o.len,List.take_length] at eD
    exact eD
end Mine
namespace Mine
open PySem L2
end Mine
namespace Mine
open PySem L2
noncomputable abbrev Rw:=List Key
noncomputable def rowK (x:Str) (is:List Nat):Rw:=.inr x::is.map fun i:Nat=>.inl (i:Int)
noncomputable def idx (rs:List Rw) (r:Rw):Option Nat:=match rs with
  | []=>none
  | x::t=>if x=r then some 0 else (idx t r).map (·+1)
theorem idx_lt:∀{rs:List Rw} {r:Rw} {i:Nat},idx rs r=some i→i < rs.length
  | [],_,_,h=>by cases h
  | x::t,r,i,h=>by
    unfold idx at h
    split at h
    · cases h;simp
    · cases e:idx t r with
      | none=>rw [e] at h;cases h
      | some j=>rw [e] at h;cases h;have:=idx_lt e;simp;omega
theorem idx_at:∀{rs:List Rw} {r:Rw} {i:Nat},idx rs r=some i→rs[i]?=some r
  | [],_,_,h=>by cases h
  | x::t,r,i,h=>by
    unfold idx at h
    split at h
    · rename_i z;cases h;simp [z]
    · cases e:idx t r with
      | none=>rw [e] at h;cases h
      | some j=>rw [e] at h;cases h;have:=idx_at e;simpa using this
noncomputable abbrev RwV (H:Hp) (v:V) (r:Rw):Prop:=∃ a,v=.ref a∧H a=some (.tup (r.map kV))
theorem RwV.to {H H':Hp} (e:Kp H H') (v:V) (r:Rw) (h:RwV H v r):RwV H' v r:=by
  obtain ⟨a,z,o⟩:=h
  exact ⟨a,z,e _ _ o rfl⟩
theorem rowK_kV (x:Str) (is:List Nat):(rowK x is).map kV=V.str x::is.map fun i:Nat=>V.int (i:Int):=by
  unfold rowK
  rw [List.map_cons,List.map_map]
  rfl
end Mine
namespace L2
open PySem PySem.Spec PyProof.Rows
section
variable {X:Cx} {pins:List (Addr×Obj)} {σ:St} {H H':Hp} {s s':Shared} {h':Heap}
theorem Inv.turnedL {t':Nat} {fp:List Addr} (I:Inv X pins σ H s) (kp:∀ b o,b ∉ fp→s.heap.get? b=some o→h'.get? b=some o) (hf:∀ b∈fp,FpOk X pins H b):Inv X pins σ H {s with heap:=h',toks:=t' }:=by
  have far:∀ b u,H b=some u→b ∉ fp:=fun b u e z=>by
    have:=(hf b z).1
    rw [e] at this;cases this
  refine I.step (ch:=fp) (g':=s.gens) (d':=s.drawn) (fun b hb=>⟨(hf b hb).2.2.2.1,(hf b hb).2.1,(hf b hb).2.2.2.2.1,(hf b hb).2.2.2.2.2⟩) (fun b o _ _ hc e _=>kp b o hc e) (fun b o _ _ hc e _=>⟨o.slots,kp b o hc e⟩) (fun _ _ _ _ n=>n)
    (fun b o hc e=>⟨o,kp b o hc e⟩) (fun _ _ e=>e) (fun _ _ _ e=>e) (fun b ps e=>⟨#[],by rw [e];simp⟩) (fun m hm=>?_) (fun b u e=>?_) I.bare
  · obtain ⟨o,es,ep,ho,r⟩:=hm
    exact ⟨o,es,ep,kp _ o (fun z=>(hf _ z).2.1 rfl) ho,r⟩
  · exact (I.hok b u e).stay (fun c v hc q=>kp c v (hc.elim (fun z=>by rw [z];exact far b u e) fun z=>far c _ z) q) (fun _ q=>q) fun _ _ q=>q
theorem Inv.trackO {a:Addr} {o:HO} (I:Inv X pins σ H s) (n:H a=none) (new:X.s₀.heap.get? a=none) (hL:a≠X.env.locals) (hc:∀ x c,X.env.cells.lookup x=some c→c≠a) (hp:∀ p∈X.pn++pins,p.1≠a)
    (p:ObjOk X.prog X.w (upd H a o) s.heap a o):Inv X pins σ (upd H a o) s :=
  ⟨I.ok,I.os,I.bare,⟨I.base.keep,I.base.slot,fun b o e z hx=>by rw [upd_ne (fun q=>by rw [q,new] at e;cases e)];exact I.base.free b o e z hx,I.base.there,
      fun b xs e=>by have q:=I.base.tups b xs e;rw [upd_ne (ne_of_none q n)];exact q,fun b o u e=>by have q:=I.base.frzs b o u e;rw [upd_ne (ne_of_none q n)];exact q,
      fun b ps e=>by obtain ⟨m,q⟩:=I.base.tbls b ps e;exact ⟨m,by rw [upd_ne (ne_of_none q n)];exact q⟩⟩,
    I.loc,I.cell,by rw [upd_ne (Ne.symm hL)];exact I.free,fun x c e=>by rw [upd_ne (hc x c e)];exact I.freeC x c e,
    fun q hq=>by obtain ⟨a1,a2,a3⟩:=I.pin q hq;exact ⟨a1,by rw [upd_ne (hp q hq)];exact a2,a3⟩,
    fun b u e=>by
      by_cases hb:b=a
      · subst hb
        rw [upd_same] at e
        cases e
        exact p
      · rw [upd_ne hb] at e
        exact (I.hok b u e).stay (fun _ _ _ z=>z) (fun c z=>by rw [upd_ne (ne_of_none z n)];exact z) fun c xs z=>by rw [upd_ne (ne_of_none z n)];exact z,
    I.len⟩
end
noncomputable def ItT (go:Nat→Hp→Prop) (src:Nat→Hp→List V→Prop) (n:Nat→Hp→Prop):It :=
  ⟨go,fun i H v H'=>∃(T:Addr) (vs:List V),H T=none∧v=.ref T∧H'=upd H T (.tup vs)∧src i H vs,n⟩
theorem turn_item {X:Cx} {elts:List Expr} {kk:Nat} {tpos:Pos} {I₀:Addr} {fp' wr fp:List Addr} {n:Nat} {Pt:Nat→Array Value→Prop} {St:Nat→Heap→Prop} {Mid:Nat→Addr→Heap→Prop} (W:WalksT X.prog X.w X.A I₀ fp' wr n Pt St Mid)
    {pins:List (Addr×Obj)} {s:Shared} {σ:L2.St} {H:Hp} {E:Value→Shared→Prop} {i:Nat} {vs:List V} {src:Nat→Hp→List V→Prop} {tn:Nat→Heap→Prop} (I:Inv X pins σ H s) (hf:∀ b∈fp,FpOk X pins H b) (hob:∀ b∈fp,∃ o,s.heap.get? b=some o) (hw:∀ b∈wr,b∈fp) (hi:i < n) (st:St i s.heap)
    (hv:∀ vals,Pt i vals→Vals vs vals.toList) (hz:vs.length≤sizeLine) (hsrc:src i H vs) (htn:∀ h,St (i+1) h→tn (i+1) h) {gop stp:Nat→Hp→Prop} :
    wpAny (model X.prog X.w) X.A (pyNext (.ref I₀)) (fun r s1=>∃ u,r=some u∧
      wpAny (model X.prog X.w) X.A (letOwnedTupleGo (.Tuple elts kk tpos) (.ref I₀) u) (fun _ s2=>∃ x H',Inv X pins σ H' s2∧RelV x u∧(ItT gop src stp).yld i H x H'∧tn (i+1) s2.heap∧∀ b∈fp,H' b=none) E s1) E s:=by
  refine W.item i s _ _ hi st fun T vals h1 tk hP hT hTup hM kp=>?_
  refine ⟨.ref T,rfl,W.go elts kk tpos i T {s with heap:=h1,toks:=tk} _ _ hM fun h2 hst kp2=>?_⟩
  have I1:Inv X pins σ H {s with heap:=h2,toks:=tk}:=I.turnedL (fun b o hb e=>kp2 b o (fun z=>hb (hw b z)) (kp b o (fun z=>hb (hw b z)) e)) hf
  have nT:H T=none:=I.hok.fresh hT
  have tup:h2.IsTuple T vals:=by
    obtain ⟨o,e,r⟩:=hTup
    exact ⟨o,kp2 T o (W.apart i T h1 hM) e,r⟩
  have new:X.s₀.heap.get? T=none:=by
    cases z:X.s₀.heap.get? T with
    | none=>rfl
    | some o=>exact absurd (Nat.lt_of_lt_of_le (Heap.lt_size z) (Nat.le_trans I.sz hT)) (Nat.lt_irrefl _)
  refine ⟨.ref T,upd H T (.tup vs),I1.trackO nT new (Nat.ne_of_gt (Nat.lt_of_lt_of_le I.lt hT)) (fun x c e z=>?_) (fun p hp z=>?_) ⟨hz,vals.toList,hv vals hP,(by rw [Array.toArray_toList];exact tup)⟩,rfl,⟨T,vs,nT,rfl,rfl,hsrc⟩,htn _ hst,fun b hb=>?_⟩
  · obtain ⟨v,o,ho,_⟩:=I.cell x c e
    exact absurd (Nat.lt_of_lt_of_le (Heap.lt_size ho) (by rw [z];exact hT)) (Nat.lt_irrefl _)
  · exact absurd (Nat.lt_of_lt_of_le (Heap.lt_size (I.pin p hp).1) (by rw [z];exact hT)) (Nat.lt_irrefl _)
  · have e0:=(hf b hb).1
    obtain ⟨o,ho⟩:=hob b hb
    have bT:b≠T:=fun z=>absurd (Nat.lt_of_lt_of_le (Heap.lt_size ho) (by rw [z];exact hT)) (Nat.lt_irrefl _)
    rw [upd_ne bT]
    exact e0
noncomputable def srcE (K:PySem.W.Frag) (a:Addr):Nat→Hp→List V→Prop:=fun i H vs=>∃ x,vs=[.int i,x]∧∀ xs,SqL K H a xs→xs[i]?=some x
noncomputable def ItE (K:PySem.W.Frag) (a:Addr):It:=ItT (fun i H=>∃ xs x,SqL K H a xs∧xs[i]?=some x) (srcE K a) fun i H=>∃ xs,SqL K H a xs∧xs.length≤i
theorem isList_ne {h:Heap} {a b:Addr} {its:Array Value} {o:Obj} {T:String} (l:h.IsList a its) (e:h.get? b=some o) (c:o.cls=.type T) (n:T≠"list"):a≠b:=fun z=>by
  obtain ⟨o',e',c',_⟩:=l
  rw [z,e] at e'
  cases e'
  rw [c] at c'
  exact n (Value.type.inj c')
theorem turn_enum {P:Program} {w:World} {K:PySem.W.Frag} {elts:List Expr} {kk:Nat} {tpos:Pos} (a e it:Addr) (hei:e≠it) :
    Turn P w K (.Tuple elts kk tpos) (ItE K a) [e,it] e (fun i h=>(∃ old,IsEnum h e it i old)∧h.IsListIter it a i) where
  mem:=by simp
  obj:=fun i h st b hb=>by
    obtain ⟨⟨old,he⟩,o,ho,_,hd⟩:=st
    rcases List.mem_cons.mp hb with rfl | hb
    · exact ⟨_,he,fun v z=>by cases z⟩
    · rw [List.mem_singleton.mp hb]
      exact ⟨o,ho,fun v z=>by rw [hd] at z;cases z⟩
  keep:=fun i h h' st k=>by
    obtain ⟨⟨old,he⟩,l⟩:=st
    exact ⟨⟨old,k e (by simp) _ he⟩,l.at fun o z=>k it (by simp) o z⟩
  item:=by
    intro X hP hw hK hc i pins s σ H E I hf st hg
    subst hP hw hK
    obtain ⟨xs,x,hq,hx⟩:=hg
    obtain ⟨its,rv,p,hz⟩:=I.list hq
    obtain ⟨u,hu,ru⟩:=rv.get hx
    obtain ⟨⟨old,he⟩,hit⟩:=st
    have hL:=p.isList
    have ne1:a≠e:=isList_ne hL he rfl (by decide)
    have ne2:a≠it:=by
      obtain ⟨o,ho,hc',_⟩:=id hit
      exact isList_ne hL ho hc' (by decide)
    have W:=WalksT.enumerateD (A:=X.A) (Draws.list (prog:=X.prog) (w:=X.w) (A:=X.A.in1) (I.ok.hd hc) it a ne2 its.toArray) e hei (by simp;exact ⟨hei,Ne.symm ne1⟩) (by simp)
    refine turn_item (fp:=[e,it]) (vs:=[.int i,x]) (src:=srcE X.K a) (tn:=fun i h=>(∃ old,IsEnum h e it i old)∧h.IsListIter it a i) W I hf (fun b hb=>?_) (fun b hb=>hb) (by have:=(List.getElem?_eq_some_iff.mp hu).1;simpa using this) ⟨⟨old,he⟩,hit,hL⟩ (fun vals hP=>?_) (by show 2≤sizeLine;decide) ⟨x,rfl,fun ys hy=>by rw [I.list_inj hy hq];exact hx⟩ fun h st=>⟨?_,st.2.1⟩
    · rcases List.mem_cons.mp hb with rfl | hb
      · exact ⟨_,he⟩
      · rw [List.mem_singleton.mp hb]
        obtain ⟨o,ho,_⟩:=id hit
        exact ⟨o,ho⟩
    · obtain ⟨t,y,hy,rfl⟩:=hP
      have ey:y=u:=by
        have:its[i]?=some y:=by simpa using hy
        rw [hu] at this
        exact (Option.some.inj this).symm
      subst ey
      exact .cons ⟨t,rfl⟩ (.cons ru .nil)
    · obtain ⟨old',z⟩:=st.1
      exact ⟨old',z⟩
  done:=by
    intro X hP hw hK hc i pins s σ H E I hf st hg
    subst hP hw hK
    obtain ⟨xs,hq,hx⟩:=hg
    obtain ⟨its,rv,p,hz⟩:=I.list hq
    obtain ⟨⟨old,he⟩,hit⟩:=st
    have hl:=rv.length
    obtain ⟨f0,f1,f2,f3,f4,f5⟩:=hf it (by simp)
    exact wpAny_pyNext_enum_end (I.ok.hd hc) he hit p.isList (by simp;omega) fun h' eb=>⟨rfl,I.turned (t':=s.toks) (fun b o hb e=>eb b o hb e) f0 f1 f3 f4 f5⟩
  self:=fun _ _ _ _ _ st h=>by
    obtain ⟨⟨old,he⟩,_⟩:=st
    exact wpAny_pyIter_enum he h
section
variable {X:Cx}
noncomputable def iEnum (K:PySem.W.Frag) (tl:TE):TI:=fun σ H R=>tl σ H fun x H1=>∃ a,x=.ref a∧(∃ xs,SqL K H1 a xs)∧R (ItE K a) H1
theorem pi_enum {elts:List Expr} {kk:Nat} {tpos p pos:Pos} {e:Expr} {te:TE} (hg:Gl X "enumerate") (hm:X.mg "enumerate"=none) (he:PE X e te)
    (hs:starEach [e] X.env=[(false,eval e X.env)]:=by rfl):PI X (.Tuple elts kk tpos) (.Call (.Name "enumerate" p) [e] [] pos) (iEnum X.K te):=by
  intro pins s σ H R I h
  have b1:bootBuiltins "enumerate"=some (.type "enumerate"):=by decide +kernel
  refine wpAny_Call_Name_kw (ld_blt I hg hm b1 ?_ (by decide) (by decide))
  refine PyProof.Rows.callWith_type1 ?_ hs (by rfl)
  rw [hs]
  refine Calls.spliced_cons (thn (he pins s σ H _ I h) fun u s1 zz=>?_)
  obtain ⟨y,H1,I1,ry,a,ey,⟨xs,hq⟩,q⟩:=zz
  subst ey
  have eu:u=Value.ref a:=ry
  subst eu
  refine Calls.spliced_nil ?_
  obtain ⟨its,rv,pl,hz⟩:=I1.list hq
  refine call_enumerate_list pl.isList fun h' e1 e2 e3 kp=>?_
  have I2:Inv X pins σ H1 {s1 with heap:=h' }:=I1.kept (t':=s1.toks) kp
  refine wpAny_pyIter_enum (s:={s1 with heap:=h' }) e1 ?_
  refine ⟨_,[s1.heap.objs.size+1,s1.heap.objs.size],_,ItE X.K a,H1,rfl,I2,turn_enum a _ _ (Nat.ne_of_gt (Nat.lt_succ_self _)),⟨⟨_,e1⟩,e2⟩,fun b hb=>?_,q⟩
  have nb:s1.heap.objs.size≤b:=by
    rcases List.mem_cons.mp hb with rfl | hb
    · exact Nat.le_succ _
    · rw [List.mem_singleton.mp hb];exact Nat.le_refl _
  exact I1.fpOk nb (I1.hok.fresh nb)
end
theorem for_enum {K:PySem.W.Frag} {a:Addr} {xs:List V} {g:TG} {tb:TS} {D:Ends} {σ:St} {H:Hp} (Pv:Nat→St→Hp→Prop) (h0:Pv 0 σ H) (hl:∀ i σ H,i≤xs.length→Pv i σ H→SqL K H a xs)
    (hs:∀ i x T σ H,xs[i]?=some x→Pv i σ H→H T=none→g (.ref T) σ (upd H T (.tup [.int i,x])) fun σ2 H2=>tb {D with nx:=Pv (i+1),ct:=Pv (i+1),bk:=D.nx} σ2 H2) (hd:∀ σ H,Pv xs.length σ H→D.nx σ H) :
    ∃ W:Nat→Nat→St→Hp→Prop,(∃ m,W 0 m σ H)∧∀ i m σ H,W i m σ H→
      ((ItE K a).stop i H∧D.nx σ H)∨((ItE K a).go i H∧∃ N:St→Hp→Prop,(∀ σ' H',N σ' H'→∃ m',m' < m∧W (i+1) m' σ' H')∧∀ x H',(ItE K a).yld i H x H'→g x σ H' fun σ2 H2=>tb {D with nx:=N,ct:=N,bk:=D.nx} σ2 H2):=by
  refine ⟨fun i m σ H=>m=xs.length - i∧i≤xs.length∧Pv i σ H,⟨xs.length,by simp,Nat.zero_le _,h0⟩,?_⟩
  rintro i m σ H ⟨rfl,hi,p⟩
  have q:=hl i σ H hi p
  by_cases hlt:i < xs.length
  · refine .inr ⟨⟨xs,xs[i],q,by simp [hlt]⟩,Pv (i+1),fun σ' H' p'=>⟨xs.length - (i+1),by omega,rfl,hlt,p'⟩,fun x H' y=>?_⟩
    obtain ⟨T,vs,nT,rfl,rfl,x,rfl,hx⟩:=y
    exact hs i x T σ H (hx xs q) p nT
  · have e:i=xs.length:=by omega
    subst e
    exact .inl ⟨⟨xs,q,Nat.le_refl _⟩,hd σ H p⟩
end L2
namespace L2
open PySem PySem.Spec PyProof.Rows PySem.AutoSeq1
noncomputable abbrev titObj (t:Addr):Obj:={cls:=.type "tuple_iterator",data:=.fields #[.ref t,.int 0 0] }
section
variable {prog:Program} {w:World} {A:Around} {E:Value→Shared→Prop} {s:Shared}
theorem nextOf_tup {it t:Addr} {i:Nat} {ys:Array Value} {x:Value} {Q:Value→Shared→Prop} (st:s.heap.IsTupleIter it t i) (tp:s.heap.IsTuple t ys) (e:ys[i]?=some x)
    (k:∀ h',h'.IsTupleIter it t (i+1)→Heap.SameBut it s.heap h'→Q x {s with heap:=h' }):wpAny (model prog w) A (Builtin.SmallTypes.nextOf (.ref it)) Q E s:=by
  obtain ⟨ob,gb,cb,db⟩:=id st;obtain ⟨ot,gt,_,nt,dt⟩:=tp
  unfold Builtin.SmallTypes.nextOf;refine wpAny_bind (wpAny_callSpecial?_slot (name:=Str.ofString "__next__") st.typeIs F.slot_tuple_iterator_next (wpAny_call_entry F.slot_tuple_iterator_next st.typeIs F.entry_tuple_iterator_next ?_ (F.args_tuple_iterator_next_1 _)))
  show wpAny _ _ (field (.ref it) 0 >>= _) _ _ s;refine wpAny_bind (wpAny_field gb db (x:=.ref t) rfl ?_)
  show wpAny _ _ (if (Value.ref t == Value.none)=true then _ else _) _ _ s;rw [if_neg (show ¬ ((Value.ref t == Value.none)=true) from Bool.false_ne_true)]
  show wpAny _ _ (field (.ref it) 1 >>= _) _ _ s;refine wpAny_bind (wpAny_field gb db (x:=.int i 0) rfl ?_)
  show wpAny _ _ (seqItems? (.ref t) >>= _) _ _ s;refine wpAny_bind (wpAny_seqItems gt dt ?_)
  simp only [Int.toNat_natCast,e];refine wpAny_bind (wpAny_setField gb db (by simp) (wpAny_pure ⟨x,rfl,wpAny_pure (k _ ?_ (Heap.SameBut.update ..))⟩))
  exact ⟨_,Heap.get?_update_self _ gb (Obj.isFreed_of_fields (Obj.data_mapFields db _)),(Obj.cls_mapFields ..).trans cb,by rw [Obj.data_mapFields db];simp [rawInt]⟩
theorem nextOf_tupEnd {it t:Addr} {i:Nat} {ys:Array Value} {Q:Value→Shared→Prop} (hd:A.handled=none) (st:s.heap.IsTupleIter it t i) (tp:s.heap.IsTuple t ys) (e:ys[i]?=none)
    (k:∀ h' x,Heap.ExtBut it s.heap h'→(∃ o,h'.get? x=some o∧o.cls=.type "StopIteration")→E (.ref x) {s with heap:=h' }):wpAny (model prog w) A (Builtin.SmallTypes.nextOf (.ref it)) Q E s:=by
  obtain ⟨ob,gb,cb,db⟩:=id st;obtain ⟨ot,gt,_,nt,dt⟩:=tp
  unfold Builtin.SmallTypes.nextOf;refine wpAny_bind (wpAny_callSpecial?_slot (name:=Str.ofString "__next__") st.typeIs F.slot_tuple_iterator_next (wpAny_call_entry F.slot_tuple_iterator_next st.typeIs F.entry_tuple_iterator_next ?_ (F.args_tuple_iterator_next_1 _)))
  show wpAny _ _ (field (.ref it) 0 >>= _) _ _ s;refine wpAny_bind (wpAny_field gb db (x:=.ref t) rfl ?_)
  show wpAny _ _ (if (Value.ref t == Value.none)=true then _ else _) _ _ s;rw [if_neg (show ¬ ((Value.ref t == Value.none)=true) from Bool.false_ne_true)]
  show wpAny _ _ (field (.ref it) 1 >>= _) _ _ s;refine wpAny_bind (wpAny_field gb db (x:=.int i 0) rfl ?_)
  show wpAny _ _ (seqItems? (.ref t) >>= _) _ _ s;refine wpAny_bind (wpAny_seqItems gt dt ?_)
  simp only [Int.toNat_natCast,e];refine wpAny_bind (wpAny_rule (wpAny_bind (wpAny_setField gb db (by simp) ?_)))
  show wpAny _ _ (newExc (.type "StopIteration") [] >>= _) _ _ _;refine wpAny_bind ?_;simp only [newExc,newTuple]
  refine wpAny_bind (wpAny_newObj_type ?_ (by size_fits));refine wpAny_bind (m:=firstArgMember _ _) (wpAny_of_eq (a:=Value.none) (by first | rfl | (simp only [firstArgMember];rfl)) ?_);refine wpAny_newObj_type ?_ (by size_fits)
  simp only [raiseNew];refine wpAny_bind (wpAny_handled ?_);first | rw [show A.in1.handled=none from hd] | rw [hd]
  refine wpAny_bind (wpAny_pure (wpAny_throw ?_));exact k _ _ (((Heap.SameBut.update ..).extBut.push _).push _) ⟨_,Heap.get?_push_size _ rfl,rfl⟩
theorem draws_tup (hd:A.handled=none) (it t:Addr) (ne:t≠it) (ys:Array Value):Draws prog w A it [it,t] ys.size (fun i v=>ys[i]?=some v) (fun i h=>h.IsTupleIter it t i∧h.IsTuple t ys) where
  live:=fun _ _ z=>let ⟨o,q,_⟩:=z.1;⟨o,q⟩
  frame:=fun _ _ _ z kp=>by
    obtain ⟨⟨o,q,r⟩,⟨o',q',r'⟩⟩:=z
    exact ⟨⟨o,kp it (by simp) o q,r⟩,⟨o',kp t (by simp) o' q',r'⟩⟩
  item:=fun i s Q E hi z kq=>by
    refine nextOf_tup z.1 z.2 (x:=ys[i]) (by simp [hi]) fun h' z' sb=>?_
    exact kq _ h' s.toks (by simp [hi]) ⟨z',z.2.extBut sb.extBut ne⟩ sb
  done:=fun s Q E z kq=>nextOf_tupEnd hd z.1 z.2 (by simp) kq
theorem enum_newT (l:Addr) (ys:Array Value) (n:Nat) (dct:Option Addr) (sl:Array (Option Value)):Meets (Builtin.«enumerate.__new__» ⟨[.type "enumerate",.ref l],[]⟩) (fun _ R s=>s.heap.get? l=some {cls:=.type "tuple",dict:=dct,data:=.seq ys n,slots:=sl} ∧
      R (.ok (.ret (.ref (s.heap.push (titObj l)).objs.size))) {s with heap:=(s.heap.push (titObj l)).push {cls:=.type "enumerate",data:=.fields #[.none,.bool false,.ref s.heap.objs.size,rawInt 0,.none,.none] } }) :=
  .of_wp fun prog w A R s h=>by
    obtain ⟨hp,g,d,tk,os⟩:=s;obtain ⟨hl,h⟩:=h;have su:=sub_enumerate
    have tT:Heap.IsTuple (Shared.heap ⟨hp,g,d,tk,os⟩) l ys:=⟨_,hl,rfl,n,rfl⟩
    wp_walk using wpAny_loadPart' hl
    refine wpAny_stack_any fun st=>wpAny_pure ?_;split
    · rename_i c _ _ _ _ _;cases (c == Value.type "enumerate")
      · wp_walk using wpAny_loadPart' hl,wpAny_pyIter_tuple tT
        exact ⟨_,rfl,h⟩
      · wp_walk using wpAny_loadPart' hl,wpAny_pyIter_tuple tT
        exact ⟨_,rfl,h⟩
    · wp_walk using wpAny_loadPart' hl,wpAny_pyIter_tuple tT
      exact ⟨_,rfl,h⟩
theorem call_enumT {l:Addr} {ys:Array Value} {Q:Value→Shared→Prop} (tT:s.heap.IsTuple l ys)
    (k:∀ h',IsEnum h' (s.heap.objs.size+1) s.heap.objs.size 0 .none→h'.IsTupleIter s.heap.objs.size l 0→(∀ b o,s.heap.get? b=some o→h'.get? b=some o)→Q (.ref (s.heap.objs.size+1)) {s with heap:=h' }):wpAny (model prog w) A (call (.type "enumerate") [.ref l]) Q E s:=by
  obtain ⟨⟨c,dct,dt,sl⟩,hl,hc,n,hd⟩:=tT
  have hc':c=.type "tuple":=hc
  have hd':dt=.seq ys n:=hd
  subst hc' hd'
  refine callType_new F.called_enumerate (by decide) (F.typeCall_enumerate_1 _) (F.newCall_enumerate_1 _) (fun obj=>F.args_object_init_2 obj _) F.entry_enumerate_new (enum_newT l ys n dct sl) ⟨hl,?_⟩
  have sz:(s.heap.push (titObj l)).objs.size=s.heap.objs.size+1:=Heap.size_push ..
  show _∧_;rw [sz]
  have en:IsEnum ((s.heap.push (titObj l)).push {cls:=.type "enumerate",data:=.fields #[.none,.bool false,.ref s.heap.objs.size,rawInt 0,.none,.none] }) (s.heap.objs.size+1) s.heap.objs.size 0 .none:=by
    have z:=Heap.get?_push_size (s.heap.push (titObj l)) (o:={cls:=.type "enumerate",data:=.fields #[.none,.bool false,.ref s.heap.objs.size,rawInt 0,.none,.none] }) rfl
    rw [sz] at z;exact z
  exact ⟨⟨_,en,rfl⟩,k _ en ⟨_,Heap.get?_push_of_some _ (Heap.get?_push_size _ rfl),rfl,rfl⟩ fun b o x=>Heap.get?_push_of_some _ (Heap.get?_push_of_some _ x)⟩
end
noncomputable def srcET (K:PySem.W.Frag) (a:Addr):Nat→Hp→List V→Prop:=fun i H vs=>∃ x,vs=[.int i,x]∧∀ xs,SqT K H a xs→xs[i]?=some x
noncomputable def ItET (K:PySem.W.Frag) (a:Addr):It:=ItT (fun i H=>∃ xs x,SqT K H a xs∧xs[i]?=some x) (srcET K a) fun i H=>∃ xs,SqT K H a xs∧xs.length≤i
theorem isTup_ne {h:Heap} {a b:Addr} {its:Array Value} {o:Obj} {T:String} (l:h.IsTuple a its) (e:h.get? b=some o) (c:o.cls=.type T) (n:T≠"tuple"):a≠b:=fun z=>by
  obtain ⟨o',e',c',_⟩:=l
  rw [z,e] at e'
  cases e'
  rw [c] at c'
  exact n (Value.type.inj c')
theorem turn_enumT {P:Program} {w:World} {K:PySem.W.Frag} {elts:List Expr} {kk:Nat} {tpos:Pos} (a e it:Addr) (hei:e≠it) :
    Turn P w K (.Tuple elts kk tpos) (ItET K a) [e,it] e (fun i h=>(∃ old,IsEnum h e it i old)∧h.IsTupleIter it a i) where
  mem:=by simp
  obj:=fun i h st b hb=>by
    obtain ⟨⟨old,he⟩,o,ho,_,hd⟩:=st
    rcases List.mem_cons.mp hb with rfl | hb
    · exact ⟨_,he,fun v z=>by cases z⟩
    · rw [List.mem_singleton.mp hb]
      exact ⟨o,ho,fun v z=>by rw [hd] at z;cases z⟩
  keep:=fun i h h' st k=>by
    obtain ⟨⟨old,he⟩,o,ho,r⟩:=st
    exact ⟨⟨old,k e (by simp) _ he⟩,o,k it (by simp) o ho,r⟩
  item:=by
    intro X hP hw hK hc i pins s σ H E I hf st hg
    subst hP hw hK
    obtain ⟨xs,x,hq,hx⟩:=hg
    obtain ⟨its,rv,p,hz⟩:=I.tuple hq
    obtain ⟨u,hu,ru⟩:=rv.get hx
    obtain ⟨⟨old,he⟩,hit⟩:=st
    have hL:s.heap.IsTuple a its.toArray:=p
    have ne1:a≠e:=isTup_ne hL he rfl (by decide)
    have ne2:a≠it:=by
      obtain ⟨o,ho,hc',_⟩:=id hit
      exact isTup_ne hL ho hc' (by decide)
    have W:=WalksT.enumerateD (A:=X.A) (draws_tup (prog:=X.prog) (w:=X.w) (A:=X.A.in1) (I.ok.hd hc) it a ne2 its.toArray) e hei (by simp;exact ⟨hei,Ne.symm ne1⟩) (by simp)
    refine turn_item (fp:=[e,it]) (vs:=[.int i,x]) (src:=srcET X.K a) (tn:=fun i h=>(∃ old,IsEnum h e it i old)∧h.IsTupleIter it a i) W I hf (fun b hb=>?_) (fun b hb=>hb) (by have:=(List.getElem?_eq_some_iff.mp hu).1;simpa using this) ⟨⟨old,he⟩,hit,hL⟩ (fun vals hP=>?_) (by show 2≤sizeLine;decide) ⟨x,rfl,fun ys hy=>by rw [I.tuple_inj hy hq];exact hx⟩ fun h st=>⟨?_,st.2.1⟩
    · rcases List.mem_cons.mp hb with rfl | hb
      · exact ⟨_,he⟩
      · rw [List.mem_singleton.mp hb]
        obtain ⟨o,ho,_⟩:=id hit
        exact ⟨o,ho⟩
    · obtain ⟨t,y,hy,rfl⟩:=hP
      have ey:y=u:=by
        have:its[i]?=some y:=by simpa using hy
        rw [hu] at this
        exact (Option.some.inj this).symm
      subst ey
      exact .cons ⟨t,rfl⟩ (.cons ru .nil)
    · obtain ⟨old',z⟩:=st.1
      exact ⟨old',z⟩
  done:=by
    intro X hP hw hK hc i pins s σ H E I hf st hg
    subst hP hw hK
    obtain ⟨xs,hq,hx⟩:=hg
    obtain ⟨its,rv,p,hz⟩:=I.tuple hq
    obtain ⟨⟨old,he⟩,hit⟩:=st
    have hL:s.heap.IsTuple a its.toArray:=p
    have hl:=rv.length
    have ne2:a≠it:=by
      obtain ⟨o,ho,hc',_⟩:=id hit
      exact isTup_ne hL ho hc' (by decide)
    obtain ⟨f0,f1,f2,f3,f4,f5⟩:=hf it (by simp)
    have st2:s.heap.IsTupleIter it a i:=hit
    unfold pyNext
    have hT:s.TypeIs (.ref e) "enumerate":=⟨_,he,rfl⟩
    refine wpAny_bind (wpAny_attempt (wpAny_callSpecial?_slot (name:=Str.ofString "__next__") hT F.slot_enumerate_next (wpAny_call_entry F.slot_enumerate_next hT F.entry_enumerate_next ?_ (F.args_enumerate_next_1 _))))
    show wpAny _ _ (field (.ref e) 2 >>= _) _ _ _;refine wpAny_bind (wpAny_field he rfl (x:=.ref it) rfl ?_)
    refine wpAny_bind (nextOf_tupEnd (I.ok.hd hc) st2 hL (by simp;omega) fun h' x eb ox=>?_);obtain ⟨o,ho,hoc⟩:=ox
    refine wpAny_bind (wpAny_isInstance (T:="StopIteration") (b:=true) ⟨o,ho,hoc⟩ isSubtype_stop ?_);exact wpAny_pure ⟨rfl,I.turned (t':=s.toks) (fun b o hb e=>eb b o hb e) f0 f1 f3 f4 f5⟩
  self:=fun _ _ _ _ _ st h=>by
    obtain ⟨⟨old,he⟩,_⟩:=st
    exact wpAny_pyIter_enum he h
section
variable {X:Cx}
noncomputable def iEnumT (K:PySem.W.Frag) (tl:TE):TI:=fun σ H R=>tl σ H fun x H1=>∃ a,x=.ref a∧(∃ xs,SqT K H1 a xs)∧R (ItET K a) H1
theorem pi_enumT {elts:List Expr} {kk:Nat} {tpos p pos:Pos} {e:Expr} {te:TE} (hg:Gl X "enumerate") (hm:X.mg "enumerate"=none) (he:PE X e te)
    (hs:starEach [e] X.env=[(false,eval e X.env)]:=by rfl):PI X (.Tuple elts kk tpos) (.Call (.Name "enumerate" p) [e] [] pos) (iEnumT X.K te):=by
  intro pins s σ H R I h
  have b1:bootBuiltins "enumerate"=some (.type "enumerate"):=by decide +kernel
  refine wpAny_Call_Name_kw (ld_blt I hg hm b1 ?_ (by decide) (by decide))
  refine PyProof.Rows.callWith_type1 ?_ hs (by rfl)
  rw [hs]
  refine Calls.spliced_cons (thn (he pins s σ H _ I h) fun u s1 zz=>?_)
  obtain ⟨y,H1,I1,ry,a,ey,⟨xs,hq⟩,q⟩:=zz
  subst ey
  have eu:u=Value.ref a:=ry
  subst eu
  refine Calls.spliced_nil ?_
  obtain ⟨its,rv,pl,hz⟩:=I1.tuple hq
  refine call_enumT (show s1.heap.IsTuple a its.toArray from pl) fun h' e1 e2 kp=>?_
  have I2:Inv X pins σ H1 {s1 with heap:=h' }:=I1.kept (t':=s1.toks) kp
  refine wpAny_pyIter_enum (s:={s1 with heap:=h' }) e1 ?_
  refine ⟨_,[s1.heap.objs.size+1,s1.heap.objs.size],_,ItET X.K a,H1,rfl,I2,turn_enumT a _ _ (Nat.ne_of_gt (Nat.lt_succ_self _)),⟨⟨_,e1⟩,e2⟩,fun b hb=>?_,q⟩
  have nb:s1.heap.objs.size≤b:=by
    rcases List.mem_cons.mp hb with rfl | hb
    · exact Nat.le_succ _
    · rw [List.mem_singleton.mp hb];exact Nat.le_refl _
  exact I1.fpOk nb (I1.hok.fresh nb)
end
theorem for_enumT {K:PySem.W.Frag} {a:Addr} {xs:List V} {g:TG} {tb:TS} {D:Ends} {σ:St} {H:Hp} (Pv:Nat→St→Hp→Prop) (h0:Pv 0 σ H) (hl:∀ i σ H,i≤xs.length→Pv i σ H→SqT K H a xs)
    (hs:∀ i x T σ H,xs[i]?=some x→Pv i σ H→H T=none→g (.ref T) σ (upd H T (.tup [.int i,x])) fun σ2 H2=>tb {D with nx:=Pv (i+1),ct:=Pv (i+1),bk:=D.nx} σ2 H2) (hd:∀ σ H,Pv xs.length σ H→D.nx σ H) :
    ∃ W:Nat→Nat→St→Hp→Prop,(∃ m,W 0 m σ H)∧∀ i m σ H,W i m σ H→
      ((ItET K a).stop i H∧D.nx σ H)∨((ItET K a).go i H∧∃ N:St→Hp→Prop,(∀ σ' H',N σ' H'→∃ m',m' < m∧W (i+1) m' σ' H')∧∀ x H',(ItET K a).yld i H x H'→g x σ H' fun σ2 H2=>tb {D with nx:=N,ct:=N,bk:=D.nx} σ2 H2):=by
  refine ⟨fun i m σ H=>m=xs.length - i∧i≤xs.length∧Pv i σ H,⟨xs.length,by simp,Nat.zero_le _,h0⟩,?_⟩
  rintro i m σ H ⟨rfl,hi,p⟩
  have q:=hl i σ H hi p
  by_cases hlt:i < xs.length
  · refine .inr ⟨⟨xs,xs[i],q,by simp [hlt]⟩,Pv (i+1),fun σ' H' p'=>⟨xs.length - (i+1),by omega,rfl,hlt,p'⟩,fun x H' y=>?_⟩
    obtain ⟨T,vs,nT,rfl,rfl,x,rfl,hx⟩:=y
    exact hs i x T σ H (hx xs q) p nT
  · have e:i=xs.length:=by omega
    subst e
    exact .inl ⟨⟨xs,q,Nat.le_refl _⟩,hd σ H p⟩
end L2
namespace L2
open PySem PySem.Spec PyProof.Rows
section
variable {X:Cx}
end
end L2
namespace L2
open PySem PySem.Spec PyProof.Rows
section
variable {X:Cx}
end
end L2
namespace L2
open PySem PySem.Spec PyProof.Rows
section
variable {X:Cx}
noncomputable def rInD (K:PySem.W.Frag) (no:Bool):R2:=fun x y H Q=>∃ d ds a ys,DatX K H d x∧y=.ref a∧SqL K H a ys∧DatAll K H ds ys∧PyData.canLayAll0 ds=true∧d.canLay0=true∧PyData.depthAll ds≤60∧Q (.bl (Bool.xor no (ds.any fun e=>PyData.eqv e d))) H
theorem op_inD (hu:X.A.units+64 < cLine):OpR X (compareOp .In) (rInD X.K false):=by
  intro pins s σ H x y u v Q I rx ry h
  obtain ⟨d,ds,a,ys,hx,rfl,hl,hd,c1,c2,c3,q⟩:=h
  obtain ⟨bs,r1⟩:=hx.reads I rx
  obtain ⟨as,r2⟩:=DatX.reads I (d:=.list ds) (v:=.ref a) (.inr ⟨ds,a,ys,rfl,rfl,hl,hd⟩) ry
  refine PySem.SeqAt.in_list_reads r2 r1 c1 c2 (by have:=Nat.min_le_left (PyData.depthAll ds) d.depth;omega) ⟨_,H,I,?_,q⟩
  exact congrArg Value.bool (Bool.false_xor _).symm
end
end L2
namespace L2
open PySem PySem.Spec PyProof.Rows
section
variable {X:Cx}
end
end L2
namespace Mine
open PySem L2
noncomputable def kD:Key→PyData
  | .inl i=>.int i
  | .inr x=>.str x
noncomputable def rwD (r:Rw):PyData:=.tuple (r.map kD)
theorem kD_eqv (a b:Key):PyData.eqv (kD a) (kD b)=decide (a=b):=by
  cases a <;> cases b <;> simp [kD,PyData.eqv] <;> (rw [Bool.eq_iff_iff];simp)
theorem rwD_eqv (a b:Rw):PyData.eqv (rwD a) (rwD b)=decide (a=b):=by
  simp only [rwD,PyData.eqv]
  exact eqv_map kD_eqv a b
theorem kD_dat {K:PySem.W.Frag} {H:Hp} (k:Key):Dat K H (kD k) (kV k):=by cases k <;> rfl
theorem kD_all {K:PySem.W.Frag} {H:Hp}:∀ r:Rw,DatAll K H (r.map kD) (r.map kV)
  | []=>rfl
  | k::r=>⟨_,_,rfl,kD_dat k,kD_all r⟩
theorem RwV.dat {K:PySem.W.Frag} {H:Hp} {v:V} {r:Rw} (h:RwV H v r):Dat K H (rwD r) v:=by
  obtain ⟨a,rfl,e⟩:=h
  exact ⟨a,_,rfl,SqT.of e,kD_all r⟩
theorem RwV.all {K:PySem.W.Frag} {H:Hp} {vs:List V} {rs:List Rw} (h:All2 (RwV H) vs rs):DatAll K H (rs.map rwD) vs:=by
  induction h with
  | nil=>rfl
  | cons r _ ih=>exact ⟨_,_,rfl,r.dat,ih⟩
noncomputable def KOk:Key→Prop
  | .inl _=>True
  | .inr x=>PyData.strOk x=true
noncomputable def RwOk (r:Rw):Prop:=∀ k∈r,KOk k
theorem kD_lay {k:Key} (h:KOk k):(kD k).canLay0=true:=by
  cases k with
  | inl _=>rfl
  | inr x=>simp only [kD,PyData.canLay0];exact h
theorem kDs_lay:∀{r:Rw},RwOk r→PyData.canLayAll0 (r.map kD)=true
  | [],_=>rfl
  | k::r,h=>by simp [PyData.canLayAll0,kD_lay (h k (by simp)),kDs_lay (r:=r) fun x hx=>h x (List.mem_cons_of_mem _ hx)]
theorem rowK_ok {x:Str} {is:List Nat} (h:PyData.strOk x=true):RwOk (rowK x is):=fun k hk=>by
  rcases List.mem_cons.mp hk with rfl | hk
  · exact h
  · obtain ⟨i,_,rfl⟩:=List.mem_map.mp hk
    exact True.intro
theorem kDs_depth:∀ r:Rw,PyData.depthAll (r.map kD)=0
  | []=>rfl
  | k::r=>by
    rw [List.map_cons]
    show max (kD k).depth (PyData.depthAll (r.map kD))=0
    rw [kDs_depth r]
    cases k <;> rfl
theorem rw_lay {r:Rw} (h:RwOk r):(rwD r).canLay0=true:=by simp only [rwD,PyData.canLay0];exact kDs_lay h
theorem rws_lay:∀{rs:List Rw},(∀ x∈rs,RwOk x)→PyData.canLayAll0 (rs.map rwD)=true
  | [],_=>rfl
  | r::rs,h=>by simp [PyData.canLayAll0,rw_lay (h r (by simp)),rws_lay (rs:=rs) fun x hx=>h x (List.mem_cons_of_mem _ hx)]
theorem rw_depth (r:Rw):(rwD r).depth≤1:=by
  show PyData.depthAll (r.map kD)+1≤1
  rw [kDs_depth]
  exact Nat.le_refl _
theorem rws_depth:∀ rs:List Rw,PyData.depthAll (rs.map rwD)≤1
  | []=>Nat.zero_le _
  | r::rs=>by
    rw [List.map_cons]
    show max (rwD r).depth (PyData.depthAll (rs.map rwD))≤1
    exact Nat.max_le.mpr ⟨rw_depth r,rws_depth rs⟩
theorem rws_any (rs:List Rw) (r:Rw):((rs.map rwD).any fun y=>PyData.eqv y (rwD r))=(idx rs r).isSome:=by
  induction rs with
  | nil=>rfl
  | cons x t ih =>
    rw [List.map_cons,List.any_cons,ih,rwD_eqv]
    show _=(if x=r then some 0 else (idx t r).map (·+1)).isSome
    by_cases z:x=r
    · rw [if_pos z,decide_eq_true z];rfl
    · rw [if_neg z,decide_eq_false z]
      cases idx t r <;> rfl
end Mine
namespace Mine
open PySem L2
inductive Gr where
  | ne | al | p | q
  | no (i:Nat)
  | fold (u:W5) (i j:Nat)
noncomputable def Gr.word:Gr→Str
  | .ne=>"never" | .al=>"always" | .p=>"p" | .q=>"q" | .no _=>"not" | .fold u _ _=>u.str
noncomputable def Gr.nums:Gr→List Nat
  | .no i=>[i]
  | .fold _ i j=>[i,j]
  | _=>[]
noncomputable def Gr.rw (g:Gr):Rw:=rowK g.word g.nums
noncomputable def GrOk (k:Nat) (g:Gr):Prop:=∀ i∈g.nums,i < k
noncomputable def GrsOk (gs:List Gr):Prop:=∀ k g,gs[k]?=some g→GrOk k g
theorem Gr.len (g:Gr):g.nums.length≤2:=by cases g <;> simp [Gr.nums]
noncomputable def Gr.worth (n x y:Int) (ws:List Int):Gr→Int
  | .ne=>0 | .al=>n | .p=>x | .q=>y
  | .no i=>n - ws.getD i 0
  | .fold u i j=>u.worth n (ws.getD i 0) (ws.getD j 0)
noncomputable def worthsG (n x y:Int):List Gr→List Int→List Int
  | [],ws=>ws
  | g::r,ws=>worthsG n x y r (ws++[g.worth n x y ws])
noncomputable def lastG (n x y:Int) (gs:List Gr):Int:=(worthsG n x y gs []).getLastD 0
theorem worthsG_len (n x y:Int):∀(gs:List Gr) (ws:List Int),(worthsG n x y gs ws).length=ws.length+gs.length
  | [],ws=>rfl
  | g::r,ws=>by
    show (worthsG n x y r (ws++[g.worth n x y ws])).length=_
    rw [worthsG_len n x y r,List.length_append,List.length_cons,List.length_cons,List.length_nil];omega
theorem worthsG_take (n x y:Int) (gs:List Gr) (i:Nat) (g:Gr) (h:gs[i]?=some g):worthsG n x y (gs.take (i+1)) []=worthsG n x y (gs.take i) []++[g.worth n x y (worthsG n x y (gs.take i) [])]:=by
  have key:∀(a:List Gr) (ws:List Int),worthsG n x y (a++[g]) ws=worthsG n x y a ws++[g.worth n x y (worthsG n x y a ws)]:=by
    intro a
    induction a with
    | nil=>intro ws;rfl
    | cons b r ih=>intro ws;exact ih _
  rw [List.take_add_one,h]
  exact key _ _
noncomputable def TK:List (Str×Int):=[("never",0),("always",0),("p",0),("q",0),("not",1),("more",2),("less",2),("greater",2),("lesser",2),("leads",2)]
theorem tk_of (g:Gr):PyProof.Rows.KTD.datumAt g.word TK=some (g.nums.length:Int):=by
  cases g with
  | fold u i j =>
    show PyProof.Rows.KTD.datumAt u.str TK=some 2
    cases u <;> decide +kernel
  | no i=>show PyProof.Rows.KTD.datumAt ("not":Str) TK=some 1;decide +kernel
  | _=>decide +kernel
end Mine
namespace Mine
open PySem L2
noncomputable def GrT (ts:List Tr):Gr→Tr→Prop
  | .ne,.never=>True
  | .al,.always=>True
  | .p,.lp=>True
  | .q,.lq=>True
  | .no i,.no t=>ts[i]?=some t
  | .fold u i j,.fold v a b=>u=v∧ts[i]?=some a∧ts[j]?=some b
  | _,_=>False
theorem w5_inj {u v:W5} (h:u.str=v.str):u=v:=by
  cases u <;> cases v <;> first | rfl | exact absurd h (by decide +kernel)
theorem nums_inj:∀{a b:List Nat},(a.map fun i:Nat=>(Sum.inl (i:Int):Key))=b.map (fun i:Nat=>(Sum.inl (i:Int):Key))→a=b
  | [],[],_=>rfl
  | [],_::_,h=>nomatch h
  | _::_,[],h=>nomatch h
  | x::a,y::b,h=>by
    have e1:=(List.cons.inj h).1
    have e2:=nums_inj (List.cons.inj h).2
    have:(x:Int)=(y:Int):=Sum.inl.inj e1
    rw [e2,show x=y by omega]
theorem rw_inj {g k:Gr} (h:g.rw=k.rw):g=k:=by
  have e1:g.word=k.word:=Sum.inr.inj (List.cons.inj h).1
  have e2:g.nums=k.nums:=nums_inj (List.cons.inj h).2
  cases g with
  | no i =>
    cases k with
    | no j=>rw [show i=j from (List.cons.inj e2).1]
    | fold u a b=>exact absurd (congrArg List.length e2) (by show 1≠2;decide)
    | _=>exact nomatch e2
  | fold u a b =>
    cases k with
    | no j=>exact absurd (congrArg List.length e2) (by show 2≠1;decide)
    | fold v c d =>
      have z:=List.cons.inj e2
      rw [w5_inj e1,z.1,(List.cons.inj z.2).1]
    | _=>exact nomatch e2
  | ne=>cases k <;> first | rfl | exact absurd e1 (by decide +kernel) | exact absurd (congrArg List.length e2) (by show 0≠1;decide) | exact absurd (congrArg List.length e2) (by show 0≠2;decide)
  | al=>cases k <;> first | rfl | exact absurd e1 (by decide +kernel) | exact absurd (congrArg List.length e2) (by show 0≠1;decide) | exact absurd (congrArg List.length e2) (by show 0≠2;decide)
  | p=>cases k <;> first | rfl | exact absurd e1 (by decide +kernel) | exact absurd (congrArg List.length e2) (by show 0≠1;decide) | exact absurd (congrArg List.length e2) (by show 0≠2;decide)
  | q=>cases k <;> first | rfl | exact absurd e1 (by decide +kernel) | exact absurd (congrArg List.length e2) (by show 0≠1;decide) | exact absurd (congrArg List.length e2) (by show 0≠2;decide)
inductive Tab:List Gr→List Tr→Prop where
  | nil:Tab [] []
  | snoc {gs:List Gr} {ts:List Tr} {g:Gr} {t:Tr}:Tab gs ts→GrT ts g t→Tab (gs++[g]) (ts++[t])
theorem worthsG_snoc (n x y:Int) (g:Gr):∀(a:List Gr) (ws:List Int),worthsG n x y (a++[g]) ws=worthsG n x y a ws++[g.worth n x y (worthsG n x y a ws)]
  | [],ws=>rfl
  | b::r,ws=>worthsG_snoc n x y g r _
end Mine
namespace Mine
open PySem L2
end Mine
namespace L2
open PySem PySem.Spec PyProof.Rows
variable {X:Cx}
end L2
namespace L2
open PySem PySem.Spec PyProof.Rows
noncomputable def tDead:TS:=fun _ _ _=>False
theorem ps_dead {X:Cx} {s:Stmt}:PS X s tDead:=fun _ _ _ _ _ _ h=>h.elim
structure TopDict (K:PySem.W.Frag) (mg:Str→Option Value) (x:Str) (D:List (Str×Int)):Prop where
  ex:∃ a o es ep,mg x=some (.ref a)∧(a == sysModules)=false∧K.lookup a=some o∧o.ExactDict∧o.data=.dict es ep∧KTD.Rows (fun (n:Int) v=>∃ t,v=Value.int n t) es.toList D
theorem topdict_mk {K:PySem.W.Frag} {h:Heap} {mg:Str→Option Value} {x:Str} {a:Addr} {es:Array DictEntry} {ep:Nat} {D:List (Str×Int)} (X:K.In h) (G:h.Ns mainGlobals mg)
    (e:PySem.W.nsIn K mainGlobals x=some (some (.ref a))) (l:K.lookup a=some ⟨.type "dict",none,.dict es ep,#[]⟩) (hs:(a == sysModules)=false) (r:KTD.Rows (fun (n:Int) v=>∃ t,v=Value.int n t) es.toList D):TopDict K mg x D :=
  ⟨a,_,es,ep,PySem.W.mg_of X G e,hs,l,⟨rfl,rfl,rfl⟩,rfl,r⟩
noncomputable def tTGet (D:List (Str×Int)) (ty:TE):TE:=fun σ H Q=>ty σ H fun y H1=>∃ k,y=.str k∧Q (match KTD.datumAt k D with | some n=>.int n | none=>.non) H1
theorem pe_tget {X:Cx} {x:Str} {D:List (Str×Int)} {e:Expr} {p apos cpos:Pos} {ty:TE} (T:TopDict X.K X.mg x D) (hg:Gl X x) (he:PE X e ty) (m:M1 X (.Name x p) "get" apos e cpos) (hdb:(x == ("__debug__":Str))=false:=by decide) :
    PE X (.Call (.Attribute (.Name x p) "get" apos) [e] [] cpos) (tTGet D ty):=by
  intro pins s σ H Q I h
  obtain ⟨a,o,es,ep,hm,hs,lk,xd,dt,rw'⟩:=T.ex
  have tab:∀{s1:Shared} {H1:Hp},Inv X pins σ H1 s1→KTD.TextTab s1.heap a (D.map fun q=>(q.1,KTD.Dat.flat (.int q.2))):=fun {s1 H1} I1 =>
    ⟨hs,o,es,ep,I1.kIn _ _ lk,xd,dt,KTD.Rows.mono (R':=KTD.Dat.At s1.heap) (f:=fun n=>KTD.Dat.flat (.int n)) (fun n v z=>by obtain ⟨t,rfl⟩:=z;exact PyProof.V.Flat.int n t) rw'⟩
  refine wpAny_Call_method m.base m.few m.line PySem.F.plainAttrs_dict PySem.F.slot_dict_get PySem.F.type_dict_get (ld_glob I hg hm ?_ hdb)
  have T1:KTD.Here s.heap s.heap a _:=⟨tab I,fun _ _ z=>z⟩
  refine ⟨T1.typeIs,T1.noDict,?_⟩
  rw [m.trees]
  refine Calls.callWith_builtin rfl (Calls.evalArgs_plain (Calls.spliced_cons (thn (he pins s σ H _ I h) fun iv s2 zz=>?_)))
  obtain ⟨y,H2,I2,ry,k,ek,q2⟩:=zz
  refine Calls.spliced_nil ?_
  subst ek
  obtain ⟨t,rfl⟩:=ry
  have T2:KTD.Here s2.heap s2.heap a _:=⟨tab I2,fun _ _ z=>z⟩
  have dm:∀ D':List (Str×Int),KTD.datumAt k (D'.map fun q=>(q.1,KTD.Dat.flat (.int q.2)))=(KTD.datumAt k D').map fun n=>KTD.Dat.flat (.int n):=by
    intro D'
    induction D' with
    | nil=>rfl
    | cons c D' ih =>
      show (if decide (k=c.1)=true then _ else KTD.datumAt k (D'.map _))=Option.map _ (if decide (k=c.1)=true then _ else KTD.datumAt k D')
      split
      · rfl
      · exact ih
  refine call_meetsIn PySem.F.slot_dict_get T2.typeIs PySem.F.entry_dict_get (PySem.F.args_dict_get_2 _ _) KTD.meets_get1 ⟨T2,fun d v e1 e2=>?_,fun e1=>?_⟩
  · rw [dm] at e1
    cases hn:KTD.datumAt k D with
    | none=>rw [hn] at e1;cases e1
    | some n =>
      rw [hn] at e1 q2
      cases e1
      obtain ⟨t',rfl⟩:=PyProof.V.Flat.int_inv e2
      exact ⟨.int n,H2,I2.tok _,⟨t',rfl⟩,q2⟩
  · rw [dm] at e1
    cases hn:KTD.datumAt k D with
    | none =>
      rw [hn] at q2
      exact ⟨.non,H2,I2.tok _,rfl,q2⟩
    | some n=>rw [hn] at e1;cases e1
end L2
namespace L2
open PySem PySem.Spec PyProof.Rows
noncomputable def cNamesT (X:Cx) (xs:List Str) (js:List Nat):List Str:=xs++js.map fun j=>X.N.getD j ""
section
variable {X:Cx} {pins:List (Addr×Obj)} {σ:St} {H:Hp} {s:Shared} {scope:Scope} {cl:List (Str×Addr)} {xs:List Str} {js:List Nat} {fp:List Addr} {N:List Str}
theorem comp_okT (I:Inv X pins σ H s) (hk:scope.kind=.function) (hcell:∀ y∈scope.names,y.2≠.cell)
    (hcl1:∀ y c,cl.lookup y=some c→X.env.cells.lookup y=some c) (hcl2:∀ y,(y,NameKind.free)∈scope.names→∃ c,cl.lookup y=some c)
    (hf:∀ b∈fp,FpOk X pins H b) (hlt:∀ b∈fp,b < s.heap.objs.size):(cxComp X scope cl N s H fp).Ok where
  mod:=I.ok.mod
  kind:=hk
  glob:=I.ok.glob
  blt:=I.ok.blt
  above:=Nat.le_refl _
  inj:=fun y z c h1 h2=>I.ok.inj y z c (hcl1 y c h1) (hcl1 z c h2)
  has:=fun y hy=>by
    have hy':(relabel scope X.env).names.lookup y=some .cell∨(relabel scope X.env).names.lookup y=some .free:=hy
    rcases hy' with h | h
    · obtain ⟨k',m,q⟩:=lookup_relabel h
      rcases q with q | ⟨_,q⟩
      · exact absurd q (hcell _ m)
      · subst q;exact hcl2 y m
    · obtain ⟨k',m,q⟩:=lookup_relabel h
      rcases q with q | ⟨q,_⟩
      · subst q;exact hcl2 y m
      · cases q
  cab:=fun y c h _=>by cases h
  hd:=I.ok.hd
  frames:=I.ok.frames
  stk:=.inl rfl
  exf:=fun b hb=>⟨Nat.ne_of_lt (hlt b hb),fun y c h=>(hf b hb).2.2.2.2.1 y c (hcl1 y c h)⟩
  bs:=I.bs
  bsz:=Nat.le_trans I.ok.bsz I.sz
  noex:=fun b o e hb=>by
    rcases (hf b hb).2.2.2.1 with z | z
    · exact I.ok.noex b o e z
    · exact absurd (Nat.lt_of_lt_of_le (Heap.lt_size e) (Nat.le_trans I.ok.bsz z)) (Nat.lt_irrefl _)
  exfs:=fun b hb hz=>(List.mem_cons.mp (I.stkSub b hz)).elim (hf b hb).2.1 (hf b hb).2.2.1
  funs:=I.stack
  frf:=I.stkFree
theorem comp_startT {h₁:Heap} {tk:Nat} (I:Inv X pins σ H s) (hk:scope.kind=.function) (hcell:∀ y∈scope.names,y.2≠.cell)
    (hcl1:∀ y c,cl.lookup y=some c→X.env.cells.lookup y=some c) (hcl2:∀ y,(y,NameKind.free)∈scope.names→∃ c,cl.lookup y=some c) (hjs:FreeAt X scope js)
    (hf:∀ b∈fp,FpOk X pins H b) (hlt:∀ b∈fp,b < s.heap.objs.size) {m:Str→Option Value} (hn:h₁.Ns s.heap.objs.size m) (hkeep:∀ b o,s.heap.get? b=some o→h₁.get? b=some o) :
    Inv (cxComp X scope cl (cNamesT X xs js) s H fp) [] (List.replicate xs.length none++cVals js σ) H {s with heap:=h₁,toks:=tk} where
  ok:=comp_okT I hk hcell hcl1 hcl2 hf hlt
  os:=rfl
  bare:=I.bare
  base:=Un.kept hkeep
  loc:=by
    refine ⟨m,hn,fun i y v h1 h2 h3=>?_⟩
    by_cases hik:i < xs.length
    · rw [List.getElem?_append_left (by simpa using hik),List.getElem?_replicate_of_lt hik] at h2
      cases h2
    · generalize hkk:i - xs.length=k
      have h1':(js.map fun j=>X.N.getD j "")[k]?=some y:=by
        have q:(xs++js.map fun j=>X.N.getD j "")[i]?=some y:=h1
        rw [List.getElem?_append_right (by omega),hkk] at q
        exact q
      have h2':(js.map fun j=>(σ[j]?).getD none)[k]?=some (some v):=by
        rw [List.getElem?_append_right (by simp;omega),List.length_replicate,hkk] at h2
        exact h2
      rw [List.getElem?_map] at h1' h2'
      cases hj:js[k]? with
      | none=>rw [hj] at h1';cases h1'
      | some j =>
        rw [hj] at h1' h2'
        have e1:X.N.getD j ""=y:=Option.some.inj h1'
        have e2:(σ[j]?).getD none=some v:=Option.some.inj h2'
        obtain ⟨y',n1,n2,n3,n4⟩:=hjs.all j (List.mem_of_getElem? hj)
        have e3:y'=y:=by rw [← e1,List.getD_eq_getElem?_getD,n1];rfl
        subst e3
        have e4:σ[j]?=some (some v):=by
          cases q:σ[j]? with
          | none=>rw [q] at e2;cases e2
          | some a=>rw [q] at e2;exact congrArg some e2
        obtain ⟨m0,_,hl⟩:=I.loc
        obtain ⟨u,r,l⟩:=hl j y' v n1 e4 (n2.elim (fun z=>Or.inr (Or.inl z)) fun z=>Or.inr (Or.inr z))
        refine ⟨u,r,.inr ⟨n4,?_⟩⟩
        rcases l with ⟨l,_⟩ | ⟨_,c,hc,hi⟩
        · exfalso
          rcases n2 with z | z <;> (rw [z] at l;cases l)
        · obtain ⟨c',hc'⟩:=hcl2 y' n3
          have e5:=hcl1 y' c' hc'
          rw [hc] at e5
          have e6:=Option.some.inj e5
          subst e6
          obtain ⟨o,ho,hd⟩:=hi
          exact ⟨c,hc',o,hkeep c o ho,hd⟩
  cell:=fun y c h=>by
    obtain ⟨v,o,ho,hd⟩:=I.cell y c (hcl1 y c h)
    exact ⟨v,o,hkeep c o ho,hd⟩
  free:=I.hok.fresh (Nat.le_refl _)
  freeC:=fun y c h=>I.freeC y c (hcl1 y c h)
  pin:=fun p hp=>absurd (show p∈([]:List (Addr×Obj)) from hp) (by simp)
  hok:=I.hok.kept hkeep
  len:=by
    show (List.replicate xs.length none++cVals js σ).length=(cNamesT X xs js).length
    simp [cVals,cNamesT]
end
noncomputable def tCompT (n:Nat) (wi:TI) (g:TG) (te:TE) (js:List Nat):TE:=fun σ H Q=>wi σ H fun J H1=>∀ D,H1 D=none→
  ∃ W:Nat→Nat→Hp→Prop,(∃ m,W 0 m (upd H1 D (.lst [])))∧∀ i m H2,W i m H2→(J.stop i H2∧Q (.ref D) H2)∨
    (J.go i H2∧∀ o:St,o.length=n→∀ v H3,J.yld i H2 v H3→g v (o++cVals js σ) H3 fun σ4 H4=>∃ o',o'.length=n∧σ4=o'++cVals js σ∧te (o'++cVals js σ) H4 fun y H5 =>
      ∃ ys,H5 D=some (.lst ys)∧ys.length < sizeLine∧∃ m',m' < m∧W (i+1) m' (upd H5 D (.lst (ys++[y]))))
section
variable {X:Cx} {elt iter:Expr} {xs:List Str} {elts:List Expr} {kk:Nat} {tp pos:Pos} {scope:Scope} {cl:List (Str×Addr)} {wi:TI} {g:TG} {te:TE} {js:List Nat}
theorem comp_coreT {use:Option (Value→Sem Unit)} {Qv:Value→Shared→Prop} {pins:List (Addr×Obj)} {s:Shared} {σ:St} {H:Hp} {Q:VK}
    (hc:X.calm=true) (hi:PI X (.Tuple elts kk tp) iter wi) (hk:scope.kind=.function) (hcell:∀ y∈scope.names,y.2≠.cell)
    (hcl1:∀ y c,cl.lookup y=some c→X.env.cells.lookup y=some c) (hcl2:∀ y,(y,NameKind.free)∈scope.names→∃ c,cl.lookup y=some c) (hjs:FreeAt X scope js) (hnd:(cNamesT X xs js).Nodup)
    (hg:∀ s' H' fp,PG (cxComp X scope cl (cNamesT X xs js) s' H' fp) (.Tuple elts kk tp) g) (he:∀ s' H' fp,PE (cxComp X scope cl (cNamesT X xs js) s' H' fp) elt te)
    (I:Inv X pins σ H s) (h:tCompT xs.length wi g te js σ H Q)
    (fin:∀(D C:Addr) (H':Hp) (s':Shared),Inv X pins σ H' s'→FpOk X pins H' C→(∃ m,s'.heap.Ns C m)→Q (.ref D) H'→compPost (model X.prog X.w) X.A X.xe use Qv (.ref D) C (.ok .next) s') :
    wpAny (model X.prog X.w) X.A (eval iter X.env) (fun xv s₁=>wpAny (model X.prog X.w) X.A (pyIter xv) (fun it s₂=>wpAny (model X.prog X.w) X.A (newList []) (fun acc s₃ =>
      wpAny (model X.prog X.w) X.A (newFunctionEnv scope X.env.globals cl [] X.env.qual none .none (some X.env)) (fun cenv s₄ =>
        codeAny (model X.prog X.w) X.A (.compStart (.ListComp elt [⟨.Tuple elts kk tp,iter,[],0⟩] scope pos) 0 it acc {cenv with scope:=relabel scope X.env})
          (compPost (model X.prog X.w) X.A X.xe use Qv acc cenv.locals) s₄) X.xe s₃) X.xe s₂) X.xe s₁) X.xe s:=by
  refine thn (hi pins s σ H _ I h) fun v s1 h1=>thn h1 fun itv s2 h2=>?_
  obtain ⟨it,fp,tn,J,H2,e,I2,T,st2,f2,hW⟩:=h2
  subst e
  obtain ⟨W,⟨m0,w0⟩,turn⟩:=hW s2.heap.objs.size (I2.hok.fresh (Nat.le_refl _))
  have hlt2:∀ b∈fp,b < s2.heap.objs.size:=fun b hb=>let ⟨_,e,_⟩:=T.obj _ _ st2 b hb;Heap.lt_size e
  have I3:Inv X pins σ (upd H2 s2.heap.objs.size (.lst [])) {s2 with heap:=s2.heap.push {cls:=.type "list",data:=.seq ([]:List Value).toArray} } :=
    I2.lnew (t':=s2.toks) (its:=[]) .nil (Nat.zero_le _)
  refine wpAny_newObj_type ?_
  have k23:∀ b o,s2.heap.get? b=some o→(s2.heap.push {cls:=.type "list",data:=.seq ([]:List Value).toArray}).get? b=some o:=fun b o e=>Heap.get?_push_of_some _ e
  have sz3:(s2.heap.push {cls:=.type "list",data:=.seq ([]:List Value).toArray}).objs.size=s2.heap.objs.size+1:=Heap.size_push ..
  generalize hs3:({s2 with heap:=s2.heap.push {cls:=.type "list",data:=.seq ([]:List Value).toArray} }:Shared)=s3 at I3
  have hs3':s3.heap=s2.heap.push {cls:=.type "list",data:=.seq ([]:List Value).toArray}:=by rw [← hs3]
  have hlt3:∀ b∈fp,b < s3.heap.objs.size:=fun b hb=>by rw [hs3',sz3];exact Nat.lt_succ_of_lt (hlt2 b hb)
  have f3:∀ b∈fp,FpOk X pins (upd H2 s2.heap.objs.size (.lst [])) b:=fun b hb=>⟨by rw [upd_ne (Nat.ne_of_lt (hlt2 b hb))];exact (f2 b hb).1,(f2 b hb).2⟩
  refine wpAny_newFunctionEnv hcell (by intro y hy;simp at hy) (fun h₁ hns hsb=>?_) hk
  have k34:∀ b o,s3.heap.get? b=some o→h₁.get? b=some o:=fun b o e=>hsb.extBut b o (Nat.ne_of_lt (Heap.lt_size e)) (Heap.get?_push_of_some _ e)
  have I4:=comp_startT (xs:=xs) (js:=js) (tk:=s3.toks+([]:List (Str×Value)).length) I3 hk hcell hcl1 hcl2 hjs f3 hlt3 hns k34
  have st4:tn 0 h₁:=T.keep 0 _ _ st2 fun b hb o e=>k34 b o (by rw [hs3'];exact k23 b o e)
  have stat:∀{H':Hp},(∀ b∈fp,H' b=none)→∀ b∈fp,FpOk (cxComp X scope cl (cNamesT X xs js) s3 (upd H2 s2.heap.objs.size (.lst [])) fp) [] H' b:=fun hn b hb =>
    ⟨hn b hb,Nat.ne_of_lt (hlt3 b hb),fun hz=>(List.mem_cons.mp (I3.stkSub b hz)).elim (f2 b hb).2.1 (f2 b hb).2.2.1,.inl hb,fun y c q=>(f2 b hb).2.2.2.2.1 y c (hcl1 y c q),fun p hp=>absurd (show p∈([]:List (Addr×Obj)) from hp) (by simp)⟩
  have back:∀{σ':St} {H':Hp} {s':Shared},Inv (cxComp X scope cl (cNamesT X xs js) s3 (upd H2 s2.heap.objs.size (.lst [])) fp) [] σ' H' s'→Inv X pins σ H' s':=fun {σ' H' s'} J' =>
    I3.call' (ch:=fp) J'.os J'.base J'.hok J'.bare fun b hb=>⟨(f2 b hb).2.2.2.1,(f2 b hb).2.1,(f2 b hb).2.2.2.2.1,(f2 b hb).2.2.2.2.2⟩
  have loop:codeAny (model X.prog X.w) X.A (.compLoop (.ListComp elt [⟨.Tuple elts kk tp,iter,[],0⟩] scope pos) 0 (.ref it) (.ref s2.heap.objs.size) (compEnvC scope cl s3.heap.objs.size X.env))
      (compPost (model X.prog X.w) X.A X.xe use Qv (.ref s2.heap.objs.size) s3.heap.objs.size) {s3 with heap:=h₁,toks:=s3.toks+([]:List (Str×Value)).length}:=by
    refine PyProof.Rows.LCp.codeAny_compLoop_pair (fun n s'=>∃(i:Nat) (o:St) (H':Hp),o.length=xs.length∧Inv (cxComp X scope cl (cNamesT X xs js) s3 (upd H2 s2.heap.objs.size (.lst [])) fp) [] (o++cVals js σ) H' s'∧tn i s'.heap∧(∀ b∈fp,H' b=none)∧W i n H') ?_ m0
      ⟨0,_,_,List.length_replicate,I4,st4,fun b hb=>(f3 b hb).1,w0⟩
    rintro n s5 ⟨i,o,H5,ho,I5,st5,fr5,w5⟩
    rcases turn i n H5 w5 with ⟨stop,q⟩ | ⟨go,step⟩
    · refine thn (T.done (cxComp X scope cl (cNamesT X xs js) s3 (upd H2 s2.heap.objs.size (.lst [])) fp) rfl rfl rfl hc i [] s5 _ H5 _ I5 (stat fr5) st5 stop) fun r s6 zz=>?_
      obtain ⟨hr,I6⟩:=zz
      subst hr
      exact fin _ _ H5 s6 (back I6) (I3.fpOk (Nat.le_refl _) I6.free) (let ⟨m,hm,_⟩:=I6.loc;⟨m,hm⟩) q
    · refine thn (T.item (cxComp X scope cl (cNamesT X xs js) s3 (upd H2 s2.heap.objs.size (.lst [])) fp) rfl rfl rfl hc i [] s5 _ H5 _ I5 (stat fr5) st5 go) fun r s6 zz=>?_
      obtain ⟨u,hr,h6⟩:=zz
      subst hr
      refine wpAny_mono h6 (fun _ s6' q6=>?_) (fun _ _ f=>f)
      obtain ⟨v,H6,I6,r6,y6,st6,fr6⟩:=q6
      have I6':=I6.pinned (stat fr6) (T.obj _ _ st6)
      refine wpAny_mono (hg s3 _ fp _ s6' _ H6 v u _ I6' r6 (step o ho v H6 y6)) (fun _ s7 q7=>?_) (fun _ _ f=>False.elim f)
      obtain ⟨σ7,H7,I7,o7,ho7,e7,q7⟩:=q7
      subst e7
      refine wpAny_mono (he s3 _ fp _ s7 _ H7 _ I7 q7) (fun y s9 q9=>?_) (fun _ _ f=>False.elim f)
      obtain ⟨yv,H9,I9,r9,ys,hD,hl,m',hm,w9⟩:=q9
      refine wpAny_mono (mt_append (X:=cxComp X scope cl (cNamesT X xs js) s3 (upd H2 s2.heap.objs.size (.lst [])) fp) _ s9 _ H9 (.ref s2.heap.objs.size) [yv] (.ref s2.heap.objs.size) [y] (fun _ H'=>H'=upd H9 s2.heap.objs.size (.lst (ys++[yv]))) I9 rfl (.cons r9 .nil) ⟨_,ys,yv,rfl,rfl,hD,hl,rfl⟩) (fun _ s10 q10=>?_) (fun _ _ f=>False.elim f)
      obtain ⟨_,H10,I10,_,e10⟩:=q10
      subst e10
      refine ⟨m',hm,i+1,o7,_,ho7,I10.unpinned,T.keep _ _ _ st6 fun b hb o e=>(I10.pin (b,o) (List.mem_append_right _ (List.mem_append_right _ (mem_pinsAt hb e)))).1,fun b hb=>?_,w9⟩
      obtain ⟨o,e,d⟩:=T.obj _ _ st6 b hb
      exact (I10.pin (b,o) (List.mem_append_right _ (List.mem_append_right _ (mem_pinsAt hb e)))).2.1
  exact codeAny_compStart_list loop (T.self _ 0 _ _ _ st4 loop)
theorem pe_compT (hc:X.calm=true) (hi:PI X (.Tuple elts kk tp) iter wi) (hk:scope.kind=.function) (hcell:∀ y∈scope.names,y.2≠.cell) (hnames:∀ y∈scope.names,y.2=.local→scope.names.lookup y.1=some .local)
    (hclos:closureFor scope X.env=pure cl) (hcl1:∀ y c,cl.lookup y=some c→X.env.cells.lookup y=some c) (hcl2:∀ y,(y,NameKind.free)∈scope.names→∃ c,cl.lookup y=some c) (hjs:FreeAt X scope js) (hnd:(cNamesT X xs js).Nodup)
    (hg:∀ s' H' fp,PG (cxComp X scope cl (cNamesT X xs js) s' H' fp) (.Tuple elts kk tp) g) (he:∀ s' H' fp,PE (cxComp X scope cl (cNamesT X xs js) s' H' fp) elt te)
    (hs:∀ x,foldedSetIterable iter X.env x=pure x:=by intro _;rfl):PE X (.ListComp elt [⟨.Tuple elts kk tp,iter,[],0⟩] scope pos) (tCompT xs.length wi g te js):=by
  intro pins s σ H Q I h
  rw [eval_ListComp]
  refine wpAny_comprehension_free (use:=none) rfl hs hclos hk hnames (comp_coreT hc hi hk hcell hcl1 hcl2 hjs hnd hg he I h fun D C H' s' I' fC hC q=>?_)
  obtain ⟨m,hm⟩:=hC
  refine ⟨m,hm,fun h' sb=>?_⟩
  obtain ⟨f0,f1,f2,f3,f4,f5⟩:=fC
  exact ⟨.ref D,H',I'.turned (t':=s'.toks) (fun b o hb e=>(sb.2 b hb).trans e) f0 f1 f3 f4 f5,rfl,q⟩
theorem pe_compTF (hc:X.calm=true) (hi:PI X (.Tuple elts kk tp) iter wi) (hk:scope.kind=.function) (hcell:∀ y∈scope.names,y.2≠.cell) (hnames:∀ y∈scope.names,y.2=.local→scope.names.lookup y.1=some .local)
    (hf:∀ p∈scope.names,p.2=.free→X.env.kindOf p.1=some .cell∨X.env.kindOf p.1=some .free) (hjs:FreeAt X scope js) (hnd:(cNamesT X xs js).Nodup)
    (hg:∀ cl s' H' fp,PG (cxComp X scope cl (cNamesT X xs js) s' H' fp) (.Tuple elts kk tp) g) (he:∀ cl s' H' fp,PE (cxComp X scope cl (cNamesT X xs js) s' H' fp) elt te)
    (hs:∀ x,foldedSetIterable iter X.env x=pure x:=by intro _;rfl):PE X (.ListComp elt [⟨.Tuple elts kk tp,iter,[],0⟩] scope pos) (tCompT xs.length wi g te js):=by
  intro pins s σ H Q I h
  obtain ⟨cl,e,p1,p2⟩:=clo_of (free_of (js:=js) I fun y hy=>hf (y,.free) hy rfl)
  exact pe_compT hc hi hk hcell hnames e p1 p2 hjs hnd (hg cl) (he cl) hs pins s σ H Q I h
end
end L2
namespace Mine
namespace Ln
noncomputable def bef (M:List St4):Nat→Int×Int
  | 0=>(0,1)
  | i+1=>match M[i]? with
    | some s=>(s.p,s.q)
    | none=>(0,1)
noncomputable def jnStep (A:List St4) (s:St4):List St4:=match A.getLast? with
  | some t=>if t.m=s.m∧t.h=s.h then A.dropLast++[s] else A++[s]
  | none=>A++[s]
noncomputable def jn (M:List St4):List St4:=M.foldl jnStep []
theorem jn_snoc (M:List St4) (t:St4):jn (M++[t])=jnStep (jn M) t:=by
  unfold jn
  rw [List.foldl_append]
  rfl
theorem jnStep_new {A:List St4} {s:St4} (h:∀ t,A.getLast?=some t→t.m≠s.m):jnStep A s=A++[s]:=by
  unfold jnStep
  cases e:A.getLast? with
  | none=>rfl
  | some t=>simp [h t e]
theorem jnStep_same {A:List St4} {t s:St4} (h1:t.m=s.m) (h2:t.h=s.h):jnStep (A++[t]) s=A++[s]:=by
  unfold jnStep
  rw [List.getLast?_append,List.getLast?_singleton,Option.some_or]
  simp [h1,h2]
theorem prod_small {x y:Int} {m n:Nat} (hx:x.natAbs < 2 ^ m) (hy:y.natAbs < 2 ^ n):(x*y).natAbs < 2 ^ (m+n):=by
  rw [Int.natAbs_mul,Nat.pow_add]
  exact Nat.mul_lt_mul'' hx hy
end Ln
end Mine
namespace Mine
namespace Ln
noncomputable def OkB (n:Nat) (s:St4):Prop:=0 < s.p∧s.p≤s.q∧Lo.gc s.p s.q=1∧s.q.natAbs < 2 ^ n∧s.m.natAbs < 2 ^ n∧s.h.natAbs < 2 ^ n
theorem OkB.mono {n k:Nat} {s:St4} (h:OkB n s) (e:n≤k):OkB k s:=by
  have:=Nat.pow_le_pow_right (show 0 < 2 by decide) e
  obtain ⟨h1,h2,h3,h4,h5,h6⟩:=h
  exact ⟨h1,h2,h3,by omega,by omega,by omega⟩
noncomputable def AdjW (s t:St4):Prop:=s.p*t.q < t.p*s.q∧(t.m - s.m)*s.p+(t.h - s.h)*s.q=0
noncomputable def ChW:List St4→Prop
  | []=>True
  | [_]=>True
  | s::t::r=>AdjW s t∧ChW (t::r)
noncomputable def End1 (L:List St4):Prop:=∃ s,L.getLast?=some s∧s.p=1∧s.q=1
structure Way (n:Nat) (L:List St4):Prop where
  ok:∀ s∈L,OkB n s
  ch:ChW L
  last:End1 L
structure LineB (n:Nat) (L:List St4):Prop where
  ok:∀ s∈L,OkB n s
  ch:Ch L
  last:End1 L
theorem Ch.way:∀{L:List St4},Ch L→ChW L
  | [],_=>trivial
  | [_],_=>trivial
  | _::_::_,h=>⟨⟨h.1.1,h.1.2.1⟩,Ch.way h.2⟩
theorem LineB.way {n:Nat} {L:List St4} (l:LineB n L):Way n L:=⟨l.ok,l.ch.way,l.last⟩
theorem End1.tail {s t:St4} {r:List St4} (h:End1 (s::t::r)):End1 (t::r):=by
  obtain ⟨u,h1,h2⟩:=h
  rw [List.getLast?_cons_cons] at h1
  exact ⟨u,h1,h2⟩
theorem Way.tail {n:Nat} {s t:St4} {r:List St4} (w:Way n (s::t::r)):Way n (t::r):=⟨fun u hu=>w.ok u (List.mem_cons_of_mem _ hu),w.ch.2,w.last.tail⟩
theorem Way.one {n:Nat} {s:St4} (w:Way n [s]):s.p=1∧s.q=1:=by
  obtain ⟨u,h1,h2⟩:=w.last
  cases h1
  exact h2
theorem Way.hd {n:Nat} {s:St4} {r:List St4} (w:Way n (s::r)):OkB n s:=w.ok s List.mem_cons_self
theorem Way.ne {n:Nat} (w:Way n []):False:=by
  obtain ⟨u,h1,_⟩:=w.last
  cases h1
theorem Way.more {n:Nat} {s:St4} {r:List St4} (w:Way n (s::r)) {p q:Int} (hpq:p≤q) (c:s.p*q < p*s.q):∃ t r',r=t::r':=by
  cases r with
  | nil =>
    obtain ⟨e1,e2⟩:=w.one
    rw [e1,e2] at c
    omega
  | cons t r'=>exact ⟨t,r',rfl⟩
theorem pk_cons_lt {s:St4} {r:List St4} {p q:Int} (h:s.p*q < p*s.q):pk (s::r) p q=pk r p q:=by
  unfold pk
  rw [List.find?_cons]
  simp only [decide_eq_true h,Bool.not_true]
theorem pk_cons_ge {s:St4} {r:List St4} {p q:Int} (h:¬s.p*q < p*s.q):pk (s::r) p q=some s:=by
  unfold pk
  rw [List.find?_cons]
  simp only [decide_eq_false h,Bool.not_false]
theorem nlt_trans {a b c d e f:Int} (hb:0 < b) (hd:0 < d) (hf:0 < f) (h1:a*d < c*b) (h2:¬a*f < e*b):¬c*f < e*d:=by
  intro h
  exact h2 (lt_trans' hb hd hf h1 h)
theorem OkB.q0 {n:Nat} {s:St4} (h:OkB n s):0 < s.q:=by have:=h.1;have:=h.2.1;omega
theorem frac_eq {p q a b:Int} (hq:0 < q) (hb:0 < b) (g1:Lo.gc p q=1) (g2:Lo.gc a b=1) (e:p*b=a*q):p=a∧q=b:=by
  obtain ⟨z1,z2⟩:=Lo.low_own hq g1
  obtain ⟨z3,z4⟩:=Lo.low_own hb g2
  have t1:=Lo.lowT_mul (f:=b) (by omega) p (b:=q) (by omega)
  have t2:=Lo.lowB_mul (f:=b) (by omega) p (b:=q) (by omega)
  have t3:=Lo.lowT_mul (f:=q) (by omega) a (b:=b) (by omega)
  have t4:=Lo.lowB_mul (f:=q) (by omega) a (b:=b) (by omega)
  have e1:b*p=q*a:=by rw [Int.mul_comm,e,Int.mul_comm]
  rw [e1,Int.mul_comm b q] at t1 t2
  exact ⟨by rw [← z1,← t1,t3,z3],by rw [← z2,← t2,t4,z4]⟩
noncomputable def jnR:List St4→List St4
  | []=>[]
  | [s]=>[s]
  | s::t::r=>if s.m=t.m∧s.h=t.h then jnR (t::r) else s::jnR (t::r)
theorem jn_fold:∀(r:List St4) (A:List St4) (s:St4),r.foldl jnStep (A++[s])=A++jnR (s::r)
  | [],_,_=>rfl
  | t::r,A,s=>by
    rw [List.foldl_cons]
    by_cases c:s.m=t.m∧s.h=t.h
    · rw [jnStep_same c.1 c.2,jn_fold r A t]
      show _=A++(if s.m=t.m∧s.h=t.h then jnR (t::r) else s::jnR (t::r))
      rw [if_pos c]
    · have e:jnStep (A++[s]) t=(A++[s])++[t]:=by
        unfold jnStep
        rw [List.getLast?_append,List.getLast?_singleton,Option.some_or]
        simp only [c,if_false]
      rw [e,jn_fold r (A++[s]) t]
      show _=A++(if s.m=t.m∧s.h=t.h then jnR (t::r) else s::jnR (t::r))
      rw [if_neg c,List.append_assoc]
      rfl
theorem jn_eq:∀(M:List St4),jn M=jnR M
  | []=>rfl
  | s::r=>by
    have:=jn_fold r [] s
    rw [List.nil_append,List.nil_append] at this
    rw [← this]
    rfl
theorem jnR_head {n:Nat}:∀{s:St4} {r:List St4},Way n (s::r)→∃ u v,jnR (s::r)=u::v∧u.m=s.m∧u.h=s.h∧(u=s∨s.p*u.q < u.p*s.q)∧OkB n u
  | s,[],w=>⟨s,[],rfl,rfl,rfl,.inl rfl,w.hd⟩
  | s,t::r,w=>by
    by_cases c:s.m=t.m∧s.h=t.h
    · obtain ⟨u,v,e,e1,e2,e3,o⟩:=jnR_head w.tail
      refine ⟨u,v,?_,e1.trans c.1.symm,e2.trans c.2.symm,.inr ?_,o⟩
      · show (if s.m=t.m∧s.h=t.h then jnR (t::r) else s::jnR (t::r))=_
        rw [if_pos c,e]
      · have a:=w.ch.1.1
        rcases e3 with rfl | e3
        · exact a
        · exact lt_trans' w.hd.q0 w.tail.hd.q0 o.q0 a e3
    · refine ⟨s,jnR (t::r),?_,rfl,rfl,.inl rfl,w.hd⟩
      show (if s.m=t.m∧s.h=t.h then jnR (t::r) else s::jnR (t::r))=_
      rw [if_neg c]
theorem jnR_line {n:Nat}:∀{M:List St4},Way n M→LineB n (jnR M)
  | [],w=>w.ne.elim
  | [s],w=>⟨w.ok,trivial,w.last⟩
  | s::t::r,w=>by
    have L:=jnR_line w.tail
    by_cases c:s.m=t.m∧s.h=t.h
    · have e:jnR (s::t::r)=jnR (t::r):=by
        show (if s.m=t.m∧s.h=t.h then jnR (t::r) else s::jnR (t::r))=_
        rw [if_pos c]
      rw [e];exact L
    · have e:jnR (s::t::r)=s::jnR (t::r):=by
        show (if s.m=t.m∧s.h=t.h then jnR (t::r) else s::jnR (t::r))=_
        rw [if_neg c]
      obtain ⟨u,v,e0,e1,e2,e3,o⟩:=jnR_head w.tail
      rw [e]
      rw [e0] at L ⊢
      have a:=w.ch.1
      refine ⟨fun x hx=>?_,⟨⟨?_,?_,?_⟩,L.ch⟩,?_⟩
      · rcases List.mem_cons.mp hx with z | z
        · rw [z];exact w.hd
        · exact L.ok x z
      · rcases e3 with rfl | e3
        · exact a.1
        · exact lt_trans' w.hd.q0 w.tail.hd.q0 o.q0 a.1 e3
      · rw [e1,e2];exact a.2
      · intro q
        rw [e1] at q
        apply c
        refine ⟨q.symm,?_⟩
        have a2:=a.2
        rw [q,Int.sub_self,Int.zero_mul,Int.zero_add] at a2
        rcases Int.mul_eq_zero.mp a2 with z | z
        · omega
        · have:=w.hd.q0;omega
      · obtain ⟨x,h1,h2⟩:=L.last
        exact ⟨x,by rw [List.getLast?_cons_cons];exact h1,h2⟩
theorem jnR_pk {n:Nat} {p q:Int} (hq:0 < q) (hpq:p≤q):∀{M:List St4},Way n M→∃ s u,pk M p q=some s∧pk (jnR M) p q=some u∧u.m=s.m∧u.h=s.h
  | [],w=>w.ne.elim
  | [s],w=>by
    obtain ⟨e1,e2⟩:=w.one
    have:pk [s] p q=some s:=pk_cons_ge (by rw [e1,e2];omega)
    exact ⟨s,s,this,this,rfl,rfl⟩
  | s::t::r,w=>by
    by_cases c:s.m=t.m∧s.h=t.h
    · have e:jnR (s::t::r)=jnR (t::r):=by
        show (if s.m=t.m∧s.h=t.h then jnR (t::r) else s::jnR (t::r))=_
        rw [if_pos c]
      rw [e]
      by_cases l:s.p*q < p*s.q
      · rw [pk_cons_lt l]
        exact jnR_pk hq hpq w.tail
      · obtain ⟨u,v,e0,e1,e2,e3,o⟩:=jnR_head w.tail
        refine ⟨s,u,pk_cons_ge l,?_,e1.trans c.1.symm,e2.trans c.2.symm⟩
        rw [e0]
        refine pk_cons_ge ?_
        have lt:s.p*u.q < u.p*s.q:=by
          rcases e3 with rfl | e3
          · exact w.ch.1.1
          · exact lt_trans' w.hd.q0 w.tail.hd.q0 o.q0 w.ch.1.1 e3
        exact nlt_trans w.hd.q0 o.q0 hq lt l
    · have e:jnR (s::t::r)=s::jnR (t::r):=by
        show (if s.m=t.m∧s.h=t.h then jnR (t::r) else s::jnR (t::r))=_
        rw [if_neg c]
      rw [e]
      by_cases l:s.p*q < p*s.q
      · rw [pk_cons_lt l,pk_cons_lt l]
        exact jnR_pk hq hpq w.tail
      · exact ⟨s,s,pk_cons_ge l,pk_cons_ge l,rfl,rfl⟩
end Ln
end Mine
namespace Mine
namespace Ln
structure Pc where
  p:Int
  q:Int
  a:St4
  b:St4
noncomputable def sbs:List St4→List St4→List Pc
  | [],_=>[]
  | _::_,[]=>[]
  | a::A,b::B =>
    if a.p*b.q < b.p*a.q then ⟨a.p,a.q,a,b⟩::sbs A (b::B)
    else if a.p=b.p∧a.q=b.q then ⟨b.p,b.q,a,b⟩::sbs A B
    else ⟨b.p,b.q,a,b⟩::sbs (a::A) B
termination_by A B=>A.length+B.length
theorem sbs_nil (B:List St4):sbs [] B=[]:=by rw [sbs]
theorem sbs_nil':∀(A:List St4),sbs A []=[]
  | []=>by rw [sbs]
  | _::_=>by rw [sbs]
theorem sbs_lt {a b:St4} {A B:List St4} (h:a.p*b.q < b.p*a.q):sbs (a::A) (b::B)=⟨a.p,a.q,a,b⟩::sbs A (b::B):=by
  rw [sbs,if_pos h]
theorem sbs_eq {a b:St4} {A B:List St4} (e:a.p=b.p∧a.q=b.q):sbs (a::A) (b::B)=⟨b.p,b.q,a,b⟩::sbs A B:=by
  rw [sbs,if_neg (by rw [e.1,e.2];omega),if_pos e]
theorem sbs_gt {a b:St4} {A B:List St4} (h:¬a.p*b.q < b.p*a.q) (e:¬ (a.p=b.p∧a.q=b.q)):sbs (a::A) (b::B)=⟨b.p,b.q,a,b⟩::sbs (a::A) B:=by
  rw [sbs,if_neg h,if_neg e]
theorem ends_cases {n:Nat} {a b:St4} (ha:OkB n a) (hb:OkB n b):a.p*b.q < b.p*a.q∨(a.p=b.p∧a.q=b.q)∨(b.p*a.q < a.p*b.q∧¬a.p*b.q < b.p*a.q∧¬ (a.p=b.p∧a.q=b.q)):=by
  rcases Int.lt_trichotomy (a.p*b.q) (b.p*a.q) with h | h | h
  · exact .inl h
  · exact .inr (.inl (frac_eq ha.q0 hb.q0 ha.2.2.1 hb.2.2.1 h))
  · refine .inr (.inr ⟨h,by omega,fun e=>?_⟩)
    rw [e.1,e.2] at h
    omega
theorem sbs_len:∀(A B:List St4),(sbs A B).length≤A.length+B.length
  | [],B=>by rw [sbs_nil];exact Nat.zero_le _
  | _::_,[]=>by rw [sbs_nil'];exact Nat.zero_le _
  | a::A,b::B=>by
    by_cases h:a.p*b.q < b.p*a.q
    · rw [sbs_lt h]
      have:=sbs_len A (b::B)
      simp only [List.length_cons] at *
      omega
    · by_cases e:a.p=b.p∧a.q=b.q
      · rw [sbs_eq e]
        have:=sbs_len A B
        simp only [List.length_cons] at *
        omega
      · rw [sbs_gt h e]
        have:=sbs_len (a::A) B
        simp only [List.length_cons] at *
        omega
termination_by A B=>A.length+B.length
noncomputable def pkP (P:List Pc) (p q:Int):Option Pc:=P.find? fun c=>!decide (c.p*q < p*c.q)
theorem pkP_lt {c:Pc} {r:List Pc} {p q:Int} (h:c.p*q < p*c.q):pkP (c::r) p q=pkP r p q:=by
  unfold pkP
  rw [List.find?_cons]
  simp only [decide_eq_true h,Bool.not_true]
theorem pkP_ge {c:Pc} {r:List Pc} {p q:Int} (h:¬c.p*q < p*c.q):pkP (c::r) p q=some c:=by
  unfold pkP
  rw [List.find?_cons]
  simp only [decide_eq_false h,Bool.not_false]
theorem sbs_pk {n:Nat} {p q:Int} (hq:0 < q) (hpq:p≤q):∀(A B:List St4),Way n A→Way n B→∃ c,pkP (sbs A B) p q=some c∧pk A p q=some c.a∧pk B p q=some c.b
  | [],_,w,_=>w.ne.elim
  | _::_,[],_,w=>w.ne.elim
  | a::A,b::B,wa,wb=>by
    rcases ends_cases wa.hd wb.hd with h | h | ⟨h,h1,h2⟩
    · rw [sbs_lt h]
      by_cases l:a.p*q < p*a.q
      · obtain ⟨t,A',rfl⟩:=wa.more hpq l
        rw [pkP_lt (c:=⟨a.p,a.q,a,b⟩) l,pk_cons_lt (s:=a) l]
        exact sbs_pk hq hpq (t::A') (b::B) wa.tail wb
      · exact ⟨⟨a.p,a.q,a,b⟩,pkP_ge (c:=⟨a.p,a.q,a,b⟩) l,pk_cons_ge l,pk_cons_ge (nlt_trans wa.hd.q0 wb.hd.q0 hq h l)⟩
    · rw [sbs_eq h]
      by_cases l:b.p*q < p*b.q
      · have la:a.p*q < p*a.q:=by rw [h.1,h.2];exact l
        obtain ⟨t,A',rfl⟩:=wa.more hpq la
        obtain ⟨u,B',rfl⟩:=wb.more hpq l
        rw [pkP_lt (c:=⟨b.p,b.q,a,b⟩) l,pk_cons_lt (s:=a) la,pk_cons_lt (s:=b) l]
        exact sbs_pk hq hpq (t::A') (u::B') wa.tail wb.tail
      · have la:¬a.p*q < p*a.q:=by rw [h.1,h.2];exact l
        exact ⟨⟨b.p,b.q,a,b⟩,pkP_ge (c:=⟨b.p,b.q,a,b⟩) l,pk_cons_ge la,pk_cons_ge l⟩
    · rw [sbs_gt h1 h2]
      by_cases l:b.p*q < p*b.q
      · obtain ⟨u,B',rfl⟩:=wb.more hpq l
        rw [pkP_lt (c:=⟨b.p,b.q,a,b⟩) l,pk_cons_lt (s:=b) l]
        exact sbs_pk hq hpq (a::A) (u::B') wa wb.tail
      · exact ⟨⟨b.p,b.q,a,b⟩,pkP_ge (c:=⟨b.p,b.q,a,b⟩) l,pk_cons_ge (nlt_trans wb.hd.q0 wa.hd.q0 hq h l),pk_cons_ge l⟩
termination_by A B=>A.length+B.length
noncomputable def AdjP (c d:Pc):Prop:=c.p*d.q < d.p*c.q∧(d.a.m - c.a.m)*c.p+(d.a.h - c.a.h)*c.q=0∧(d.b.m - c.b.m)*c.p+(d.b.h - c.b.h)*c.q=0
noncomputable def ChP:List Pc→Prop
  | []=>True
  | [_]=>True
  | c::d::r=>AdjP c d∧ChP (d::r)
theorem ChP.cons {c:Pc} {r:List Pc} (h:ChP r) (k:∀ d r',r=d::r'→AdjP c d):ChP (c::r):=by
  cases r with
  | nil=>trivial
  | cons d r'=>exact ⟨k d r' rfl,h⟩
structure PcOk (n:Nat) (c:Pc):Prop where
  a:OkB n c.a
  b:OkB n c.b
  e:0 < c.p∧c.p≤c.q∧Lo.gc c.p c.q=1∧c.q.natAbs < 2 ^ n
theorem sbs_head {n:Nat} {a b:St4} {A B:List St4} (ha:OkB n a) (hb:OkB n b):∃ c r,sbs (a::A) (b::B)=c::r∧c.a=a∧c.b=b∧((c.p=a.p∧c.q=a.q)∨(c.p=b.p∧c.q=b.q)):=by
  rcases ends_cases ha hb with h | h | ⟨h,h1,h2⟩
  · exact ⟨_,_,sbs_lt h,rfl,rfl,.inl ⟨rfl,rfl⟩⟩
  · exact ⟨_,_,sbs_eq h,rfl,rfl,.inr ⟨rfl,rfl⟩⟩
  · exact ⟨_,_,sbs_gt h1 h2,rfl,rfl,.inr ⟨rfl,rfl⟩⟩
theorem self0 (s:St4) (p q:Int):(s.m - s.m)*p+(s.h - s.h)*q=0:=by
  rw [Int.sub_self,Int.sub_self,Int.zero_mul,Int.zero_mul];rfl
theorem Way.only {n:Nat} {s:St4} {r:List St4} (w:Way n (s::r)) (e:s.p=s.q):r=[]:=by
  cases r with
  | nil=>rfl
  | cons t r' =>
    exfalso
    have h:=w.ch.1.1
    have o:=w.tail.hd
    have q0:=w.hd.q0
    rw [e] at h
    have h2:s.q*t.q < s.q*t.p:=by rw [Int.mul_comm s.q t.p];exact h
    have:=Int.lt_of_mul_lt_mul_left h2 (by omega)
    have:=o.2.1
    omega
theorem sbs_way {n:Nat}:∀(A B:List St4),Way n A→Way n B→(∀ c∈sbs A B,PcOk n c)∧ChP (sbs A B)∧∃ c,(sbs A B).getLast?=some c∧c.p=1∧c.q=1
  | [],_,w,_=>w.ne.elim
  | _::_,[],_,w=>w.ne.elim
  | a::A,b::B,wa,wb=>by
    have oa:=wa.hd
    have ob:=wb.hd
    have okA:∀{p q:Int},p=a.p→q=a.q→PcOk n ⟨p,q,a,b⟩:=fun e1 e2=>by subst e1 e2;exact ⟨oa,ob,oa.1,oa.2.1,oa.2.2.1,oa.2.2.2.1⟩
    have okB:∀{p q:Int},p=b.p→q=b.q→PcOk n ⟨p,q,a,b⟩:=fun e1 e2=>by subst e1 e2;exact ⟨oa,ob,ob.1,ob.2.1,ob.2.2.1,ob.2.2.2.1⟩
    have lastc:∀{c:Pc} {r:List Pc},(∃ d,r.getLast?=some d∧d.p=1∧d.q=1)→∃ d,(c::r).getLast?=some d∧d.p=1∧d.q=1:=fun {c r} ⟨d,h1,h2⟩=>by
      cases r with
      | nil=>cases h1
      | cons x r'=>exact ⟨d,by rw [List.getLast?_cons_cons];exact h1,h2⟩
    have allc:∀{c:Pc} {r:List Pc},PcOk n c→(∀ d∈r,PcOk n d)→∀ d∈c::r,PcOk n d:=fun h1 h2 d hd=>by
      rcases List.mem_cons.mp hd with e | e
      · rw [e];exact h1
      · exact h2 d e
    rcases ends_cases oa ob with h | h | ⟨h,h1,h2⟩
    · obtain ⟨t,A',rfl⟩:=wa.more ob.2.1 h
      obtain ⟨i1,i2,i3⟩:=sbs_way (t::A') (b::B) wa.tail wb
      rw [sbs_lt h]
      refine ⟨allc (okA rfl rfl) i1,i2.cons fun d r' e=>?_,lastc i3⟩
      obtain ⟨c,r,e0,e1,e2,e3⟩:=sbs_head (A:=A') (B:=B) wa.tail.hd ob
      rw [e0] at e
      cases e
      refine ⟨?_,?_,?_⟩
      · show a.p*d.q < d.p*a.q
        rcases e3 with ⟨z1,z2⟩ | ⟨z1,z2⟩
        · rw [z1,z2];exact wa.ch.1.1
        · rw [z1,z2];exact h
      · show (d.a.m - a.m)*a.p+(d.a.h - a.h)*a.q=0
        rw [e1];exact wa.ch.1.2
      · show (d.b.m - b.m)*a.p+(d.b.h - b.h)*a.q=0
        rw [e2];exact self0 b _ _
    · rw [sbs_eq h]
      cases A with
      | nil =>
        obtain ⟨z1,z2⟩:=wa.one
        have eb:B=[]:=wb.only (by rw [← h.1,← h.2,z1,z2])
        subst eb
        rw [sbs_nil]
        exact ⟨allc (okB rfl rfl) (fun _ h=>nomatch h),trivial,⟨⟨b.p,b.q,a,b⟩,rfl,by show b.p=1;rw [← h.1];exact z1,by show b.q=1;rw [← h.2];exact z2⟩⟩
      | cons t A' =>
        have lb:b.p*t.q < t.p*b.q:=by have:=wa.ch.1.1;rw [h.1,h.2] at this;exact this
        obtain ⟨u,B',rfl⟩:=wb.more wa.tail.hd.2.1 lb
        obtain ⟨i1,i2,i3⟩:=sbs_way (t::A') (u::B') wa.tail wb.tail
        refine ⟨allc (okB rfl rfl) i1,i2.cons fun d r' e=>?_,lastc i3⟩
        obtain ⟨c,r,e0,e1,e2,e3⟩:=sbs_head (A:=A') (B:=B') wa.tail.hd wb.tail.hd
        rw [e0] at e
        cases e
        refine ⟨?_,?_,?_⟩
        · show b.p*d.q < d.p*b.q
          rcases e3 with ⟨z1,z2⟩ | ⟨z1,z2⟩
          · rw [z1,z2];exact lb
          · rw [z1,z2];exact wb.ch.1.1
        · show (d.a.m - a.m)*b.p+(d.a.h - a.h)*b.q=0
          rw [e1,← h.1,← h.2];exact wa.ch.1.2
        · show (d.b.m - b.m)*b.p+(d.b.h - b.h)*b.q=0
          rw [e2];exact wb.ch.1.2
    · obtain ⟨u,B',rfl⟩:=wb.more oa.2.1 h
      obtain ⟨i1,i2,i3⟩:=sbs_way (a::A) (u::B') wa wb.tail
      rw [sbs_gt h1 h2]
      refine ⟨allc (okB rfl rfl) i1,i2.cons fun d r' e=>?_,lastc i3⟩
      obtain ⟨c,r,e0,e1,e2,e3⟩:=sbs_head (A:=A) (B:=B') oa wb.tail.hd
      rw [e0] at e
      cases e
      refine ⟨?_,?_,?_⟩
      · show b.p*d.q < d.p*b.q
        rcases e3 with ⟨z1,z2⟩ | ⟨z1,z2⟩
        · rw [z1,z2];exact h
        · rw [z1,z2];exact wb.ch.1.1
      · show (d.a.m - a.m)*b.p+(d.a.h - a.h)*b.q=0
        rw [e1];exact self0 a _ _
      · show (d.b.m - b.m)*b.p+(d.b.h - b.h)*b.q=0
        rw [e2];exact wb.ch.1.2
termination_by A B=>A.length+B.length
end Ln
end Mine
namespace Mine
noncomputable def St4.at (u:St4) (p q:Int):Int:=u.m*p+u.h*q
namespace Ln
noncomputable def ad (P:List Pc):List St4:=P.map fun c=>⟨c.p,c.q,c.a.m+c.b.m,c.a.h+c.b.h⟩
theorem ad_ch:∀{P:List Pc},ChP P→ChW (ad P)
  | [],_=>trivial
  | [_],_=>trivial
  | c::d::r,h=>by
    refine ⟨⟨h.1.1,?_⟩,ad_ch (P:=d::r) h.2⟩
    have h1:=h.1.2.1
    have h2:=h.1.2.2
    show (d.a.m+d.b.m - (c.a.m+c.b.m))*c.p+(d.a.h+d.b.h - (c.a.h+c.b.h))*c.q=0
    grind
theorem ad_pk {p q:Int}:∀{P:List Pc} {c:Pc},pkP P p q=some c→pk (ad P) p q=some ⟨c.p,c.q,c.a.m+c.b.m,c.a.h+c.b.h⟩
  | [],_,h=>by cases h
  | d::r,c,h=>by
    by_cases l:d.p*q < p*d.q
    · rw [pkP_lt l] at h
      show pk (⟨d.p,d.q,d.a.m+d.b.m,d.a.h+d.b.h⟩::ad r) p q=_
      rw [pk_cons_lt (s:=⟨d.p,d.q,d.a.m+d.b.m,d.a.h+d.b.h⟩) l]
      exact ad_pk h
    · rw [pkP_ge l] at h
      cases h
      exact pk_cons_ge (s:=⟨d.p,d.q,d.a.m+d.b.m,d.a.h+d.b.h⟩) l
theorem ad_way {n:Nat} {A B:List St4} (wa:Way n A) (wb:Way n B):Way (n+1) (ad (sbs A B)):=by
  obtain ⟨h1,h2,c,h3,h4⟩:=sbs_way A B wa wb
  refine ⟨fun s hs=>?_,ad_ch h2,⟨_,by unfold ad;rw [List.getLast?_map,h3];rfl,h4⟩⟩
  obtain ⟨c,hc,rfl⟩:=List.mem_map.mp hs
  obtain ⟨⟨_,_,_,_,a5,a6⟩,⟨_,_,_,_,b5,b6⟩,e1,e2,e3,e4⟩:=h1 c hc
  have:2 ^ (n+1)=2 ^ n+2 ^ n:=by rw [Nat.pow_succ];omega
  exact ⟨e1,e2,e3,by show c.q.natAbs < 2 ^ (n+1);omega,by show (c.a.m+c.b.m).natAbs < 2 ^ (n+1);omega,by show (c.a.h+c.b.h).natAbs < 2 ^ (n+1);omega⟩
theorem added_line {n:Nat} {A B:List St4} (wa:Way n A) (wb:Way n B):LineB (n+1) (jn (ad (sbs A B))):=by rw [jn_eq];exact jnR_line (ad_way wa wb)
theorem added_at {n:Nat} {A B:List St4} (wa:Way n A) (wb:Way n B) {p q:Int} (hq:0 < q) (hpq:p≤q) :
    ∃ s t u,pk A p q=some s∧pk B p q=some t∧pk (jn (ad (sbs A B))) p q=some u∧u.at p q=s.at p q+t.at p q:=by
  obtain ⟨c,h1,h2,h3⟩:=sbs_pk hq hpq A B wa wb
  obtain ⟨v,u,h4,h5,h6,h7⟩:=jnR_pk hq hpq (ad_way wa wb)
  rw [ad_pk h1] at h4
  cases h4
  refine ⟨c.a,c.b,u,h2,h3,by rw [jn_eq];exact h5,?_⟩
  unfold St4.at
  rw [h6,h7]
  show (c.a.m+c.b.m)*p+(c.a.h+c.b.h)*q=_
  rw [Int.add_mul,Int.add_mul]
  omega
theorem map_pk {f:St4→St4} (h:∀ s,(f s).p=s.p∧(f s).q=s.q) {p q:Int}:∀(L:List St4),pk (L.map f) p q=(pk L p q).map f
  | []=>rfl
  | s::r=>by
    rw [List.map_cons]
    by_cases l:s.p*q < p*s.q
    · rw [pk_cons_lt l,pk_cons_lt (by rw [(h s).1,(h s).2];exact l)]
      exact map_pk h r
    · rw [pk_cons_ge l,pk_cons_ge (by rw [(h s).1,(h s).2];exact l)]
      rfl
theorem map_ch {f:St4→St4} (h:∀ s t,Adj s t→Adj (f s) (f t)):∀{L:List St4},Ch L→Ch (L.map f)
  | [],_=>trivial
  | [_],_=>trivial
  | _::b::r,c=>⟨h _ _ c.1,map_ch h (L:=b::r) c.2⟩
theorem map_line {f:St4→St4} {n k:Nat} {L:List St4} (h:∀ s,(f s).p=s.p∧(f s).q=s.q) (ha:∀ s t,Adj s t→Adj (f s) (f t)) (hb:∀ s,OkB n s→OkB k (f s)) (l:LineB n L):LineB k (L.map f):=by
  refine ⟨fun s hs=>?_,map_ch ha l.ch,?_⟩
  · obtain ⟨t,ht,rfl⟩:=List.mem_map.mp hs
    exact hb t (l.ok t ht)
  · obtain ⟨s,h1,h2,h3⟩:=l.last
    exact ⟨f s,by rw [List.getLast?_map,h1];rfl,by rw [(h s).1];exact h2,by rw [(h s).2];exact h3⟩
noncomputable def tnS (s:St4):St4:=⟨s.p,s.q,-s.m,-s.h⟩
noncomputable def rsS (k:Int) (s:St4):St4:=⟨s.p,s.q,s.m,s.h+k⟩
theorem turned_line {n:Nat} {L:List St4} (l:LineB n L):LineB n (L.map tnS):=by
  refine map_line (fun s=>⟨rfl,rfl⟩) (fun s t a=>⟨a.1,?_,?_⟩) (fun s o=>⟨o.1,o.2.1,o.2.2.1,o.2.2.2.1,?_,?_⟩) l
  · have:=a.2.1
    show (-t.m - -s.m)*s.p+(-t.h - -s.h)*s.q=0
    grind
  · have:=a.2.2
    show -t.m≠-s.m
    omega
  · have:=o.2.2.2.2.1
    show (-s.m).natAbs < _
    omega
  · have:=o.2.2.2.2.2
    show (-s.h).natAbs < _
    omega
theorem raised_line {n:Nat} {k:Int} {L:List St4} (hk:k.natAbs < 2 ^ n) (l:LineB n L):LineB (n+1) (L.map (rsS k)):=by
  have e:2 ^ (n+1)=2 ^ n+2 ^ n:=by rw [Nat.pow_succ];omega
  refine map_line (fun s=>⟨rfl,rfl⟩) (fun s t a=>⟨a.1,?_,a.2.2⟩) (fun s o=>⟨o.1,o.2.1,o.2.2.1,?_,?_,?_⟩) l
  · have:=a.2.1
    show (t.m - s.m)*s.p+(t.h+k - (s.h+k))*s.q=0
    rw [show t.h+k - (s.h+k)=t.h - s.h by omega]
    exact this
  · have:=o.2.2.2.1
    show s.q.natAbs < _
    omega
  · have:=o.2.2.2.2.1
    show s.m.natAbs < _
    omega
  · have:=o.2.2.2.2.2
    show (s.h+k).natAbs < _
    omega
theorem turned_at {L:List St4} {p q:Int} {s:St4} (h:pk L p q=some s):pk (L.map tnS) p q=some (tnS s)∧(tnS s).at p q = -(s.at p q):=by
  refine ⟨by rw [map_pk (f:=tnS) (fun s=>⟨rfl,rfl⟩),h];rfl,?_⟩
  show -s.m*p + -s.h*q = -(s.m*p+s.h*q)
  rw [Int.neg_mul,Int.neg_mul]
  omega
theorem raised_at {L:List St4} {k p q:Int} {s:St4} (h:pk L p q=some s):pk (L.map (rsS k)) p q=some (rsS k s)∧(rsS k s).at p q=s.at p q+k*q:=by
  refine ⟨by rw [map_pk (f:=rsS k) (fun s=>⟨rfl,rfl⟩),h];rfl,?_⟩
  show s.m*p+(s.h+k)*q=s.m*p+s.h*q+k*q
  rw [Int.add_mul]
  omega
theorem LineB.mono {n k:Nat} {L:List St4} (l:LineB n L) (e:n≤k):LineB k L:=⟨fun s h=>(l.ok s h).mono e,l.ch,l.last⟩
end Ln
end Mine
namespace Mine
namespace Ln
theorem interp (p q p1 q1 p2 q2 s h:Int):(p2*q1 - p1*q2)*(s*p+h*q)=(p2*q - p*q2)*(s*p1+h*q1)+(p*q1 - p1*q)*(s*p2+h*q2):=by grind
theorem between {p q p1 q1 p2 q2 s h:Int} (l:p1*q2 < p2*q1) (l1:p1*q≤p*q1) (l2:p*q2≤p2*q) (d1:0≤s*p1+h*q1) (d2:0≤s*p2+h*q2):0≤s*p+h*q:=by
  have e:=interp p q p1 q1 p2 q2 s h
  have z1:0≤(p2*q - p*q2)*(s*p1+h*q1):=Int.mul_nonneg (by omega) d1
  have z2:0≤(p*q1 - p1*q)*(s*p2+h*q2):=Int.mul_nonneg (by omega) d2
  rcases int_or (s*p+h*q) 0 with z | z
  · exfalso
    have:=Int.mul_neg_of_pos_of_neg (show 0 < p2*q1 - p1*q2 by omega) z
    omega
  · exact z
theorem between' {p q p1 q1 p2 q2 s h:Int} (l:p1*q2 < p2*q1) (l1:p1*q≤p*q1) (l2:p*q2≤p2*q) (d1:s*p1+h*q1≤0) (d2:s*p2+h*q2≤0):s*p+h*q≤0:=by
  have n:∀ x y:Int,-s*x + -h*y = -(s*x+h*y):=fun x y=>by rw [Int.neg_mul,Int.neg_mul];omega
  have:=between (s:=-s) (h:=-h) l l1 l2 (by rw [n];omega) (by rw [n];omega)
  rw [n] at this
  omega
theorem meet_in {p1 q1 p2 q2 x y s h:Int} (hq1:0 < q1) (hq2:0 < q2) (hy:0 < y) (l:p1*q2 < p2*q1) (e:s*x+h*y=0) (d1:0 < s*p1+h*q1) (d2:s*p2+h*q2 < 0):p1*y < x*q1∧x*q2 < p2*y:=by
  refine ⟨?_,?_⟩
  · rcases int_or (p1*y) (x*q1) with z | z
    · exact z
    · exfalso
      have l3:x*q2 < p2*y:=by
        rcases int_or (x*q1) (p1*y) with z' | z'
        · exact lt_trans' hy hq1 hq2 z' l
        · have e1:x*q1=p1*y:=by omega
          have z1:y*(p1*q2) < y*(p2*q1):=Int.mul_lt_mul_of_pos_left l hy
          have z2:y*(p1*q2)=q1*(x*q2):=by
            rw [← Int.mul_assoc,Int.mul_comm y p1,← e1,Int.mul_comm x q1,Int.mul_assoc]
          have z3:y*(p2*q1)=q1*(p2*y):=by rw [Int.mul_comm y,Int.mul_comm p2 q1,Int.mul_assoc]
          rw [z2,z3] at z1
          exact Int.lt_of_mul_lt_mul_left z1 (by omega)
      have:=between' (p:=p1) (q:=q1) (p1:=x) (q1:=y) (p2:=p2) (q2:=q2) (s:=s) (h:=h) l3 z (by omega) (by omega) (by omega)
      omega
  · rcases int_or (x*q2) (p2*y) with z | z
    · exact z
    · exfalso
      have l3:p1*y < x*q1:=by
        rcases int_or (p2*y) (x*q2) with z' | z'
        · exact lt_trans' hq1 hq2 hy l z'
        · have e1:x*q2=p2*y:=by omega
          have z1:y*(p1*q2) < y*(p2*q1):=Int.mul_lt_mul_of_pos_left l hy
          have z2:y*(p1*q2)=q2*(p1*y):=by rw [Int.mul_comm y,Int.mul_comm p1 q2,Int.mul_assoc]
          have z3:y*(p2*q1)=q2*(x*q1):=by
            rw [← Int.mul_assoc,Int.mul_comm y p2,← e1,Int.mul_comm x q2,Int.mul_assoc]
          rw [z2,z3] at z1
          exact Int.lt_of_mul_lt_mul_left z1 (by omega)
      have:=between (p:=p2) (q:=q2) (p1:=p1) (q1:=q1) (p2:=x) (q2:=y) (s:=s) (h:=h) l3 (by omega) z (by omega) (by omega)
      omega
theorem meet_in' {p1 q1 p2 q2 x y s h:Int} (hq1:0 < q1) (hq2:0 < q2) (hy:0 < y) (l:p1*q2 < p2*q1) (e:s*x+h*y=0) (d:(s*p1+h*q1)*(s*p2+h*q2) < 0):p1*y < x*q1∧x*q2 < p2*y:=by
  have n:∀ x y:Int,-s*x + -h*y = -(s*x+h*y):=fun x y=>by rw [Int.neg_mul,Int.neg_mul];omega
  rcases Int.lt_trichotomy (s*p1+h*q1) 0 with z | z | z
  · have z2:0 < s*p2+h*q2:=by
      rcases int_or 0 (s*p2+h*q2) with w | w
      · exact w
      · have:=Int.mul_nonneg_of_nonpos_of_nonpos (a:=s*p1+h*q1) (b:=s*p2+h*q2) (by omega) w
        omega
    exact meet_in (s:=-s) (h:=-h) hq1 hq2 hy l (by rw [n];omega) (by rw [n];omega) (by rw [n];omega)
  · rw [z,Int.zero_mul] at d
    omega
  · have z2:s*p2+h*q2 < 0:=by
      rcases int_or (s*p2+h*q2) 0 with w | w
      · exact w
      · have:=Int.mul_nonneg (a:=s*p1+h*q1) (b:=s*p2+h*q2) (by omega) w
        omega
    exact meet_in hq1 hq2 hy l e z z2
noncomputable def gs (sp sq:Int) (c:Pc):List St4 :=
  if ((c.a.m - c.b.m)*sp+(c.a.h - c.b.h)*sq)*((c.a.m - c.b.m)*c.p+(c.a.h - c.b.h)*c.q) < 0 then
    [⟨Lo.lowT (-(c.a.h - c.b.h)) (c.a.m - c.b.m),Lo.lowB (-(c.a.h - c.b.h)) (c.a.m - c.b.m),(if 0 < (c.a.m - c.b.m)*sp+(c.a.h - c.b.h)*sq then c.a else c.b).m,(if 0 < (c.a.m - c.b.m)*sp+(c.a.h - c.b.h)*sq then c.a else c.b).h⟩,
     ⟨c.p,c.q,(if 0 < (c.a.m - c.b.m)*c.p+(c.a.h - c.b.h)*c.q then c.a else c.b).m,(if 0 < (c.a.m - c.b.m)*c.p+(c.a.h - c.b.h)*c.q then c.a else c.b).h⟩]
  else if (c.a.m - c.b.m)*sp+(c.a.h - c.b.h)*sq=0 then
    [⟨c.p,c.q,(if 0 < (c.a.m - c.b.m)*c.p+(c.a.h - c.b.h)*c.q then c.a else c.b).m,(if 0 < (c.a.m - c.b.m)*c.p+(c.a.h - c.b.h)*c.q then c.a else c.b).h⟩]
  else [⟨c.p,c.q,(if 0 < (c.a.m - c.b.m)*sp+(c.a.h - c.b.h)*sq then c.a else c.b).m,(if 0 < (c.a.m - c.b.m)*sp+(c.a.h - c.b.h)*sq then c.a else c.b).h⟩]
noncomputable def mx (c:Pc) (p q:Int):Int:=max (c.a.at p q) (c.b.at p q)
theorem dif_at (c:Pc) (p q:Int):(c.a.m - c.b.m)*p+(c.a.h - c.b.h)*q=c.a.at p q - c.b.at p q:=by
  unfold St4.at
  rw [Int.sub_mul,Int.sub_mul]
  omega
theorem at_mk (p' q':Int) (u:St4) (p q:Int):(St4.mk p' q' u.m u.h).at p q=u.at p q:=rfl
theorem gs_spec {n:Nat} {sp sq:Int} {c:Pc} (hc:PcOk n c) (h0:0≤sp) (hs:0 < sq) (l:sp*c.q < c.p*sq) :
    (∃ u,gs sp sq c=[u]∧OkB (n+1) u∧u.p=c.p∧u.q=c.q∧∀ p q,sp*q≤p*sq→p*c.q≤c.p*q→u.at p q=mx c p q)∨
    (∃ v u,gs sp sq c=[v,u]∧OkB (n+1) v∧OkB (n+1) u∧u.p=c.p∧u.q=c.q∧sp*v.q < v.p*sq∧AdjW v u∧(∀ p q,sp*q≤p*sq→p*v.q≤v.p*q→v.at p q=mx c p q)∧∀ p q,v.p*q≤p*v.q→p*c.q≤c.p*q→u.at p q=mx c p q):=by
  obtain ⟨⟨_,_,_,_,a5,a6⟩,⟨_,_,_,_,b5,b6⟩,e1,e2,e3,e4⟩:=hc
  have cq:0 < c.q:=by omega
  have pw:2 ^ (n+1)=2 ^ n+2 ^ n:=by rw [Nat.pow_succ];omega
  have okE:∀ g:St4,g=c.a∨g=c.b→OkB (n+1) ⟨c.p,c.q,g.m,g.h⟩:=fun g hg=>by
    refine ⟨e1,e2,e3,by show c.q.natAbs < _;omega,?_,?_⟩
    · show g.m.natAbs < _
      rcases hg with rfl | rfl <;> omega
    · show g.h.natAbs < _
      rcases hg with rfl | rfl <;> omega
  have pick:∀(b:Prop) [Decidable b],(if b then c.a else c.b)=c.a∨(if b then c.a else c.b)=c.b:=fun b _=>by split;exact .inl rfl;exact .inr rfl
  unfold gs
  generalize hd1:(c.a.m - c.b.m)*sp+(c.a.h - c.b.h)*sq=d1
  generalize hd2:(c.a.m - c.b.m)*c.p+(c.a.h - c.b.h)*c.q=d2
  by_cases k:d1*d2 < 0
  · rw [if_pos k]
    right
    have sl:c.a.m - c.b.m≠0:=by
      intro z
      rw [z,Int.zero_mul,Int.zero_add] at hd1 hd2
      subst hd1 hd2
      have:0≤((c.a.h - c.b.h)*(c.a.h - c.b.h))*(sq*c.q):=Int.mul_nonneg (by
        rcases int_or (c.a.h - c.b.h) 0 with w | w
        · exact Int.mul_nonneg_of_nonpos_of_nonpos (by omega) (by omega)
        · exact Int.mul_nonneg w w) (Int.mul_nonneg (by omega) (by omega))
      have e:(c.a.h - c.b.h)*sq*((c.a.h - c.b.h)*c.q)=((c.a.h - c.b.h)*(c.a.h - c.b.h))*(sq*c.q):=by
        generalize c.a.h - c.b.h=z
        grind
      omega
    have mq:=Lo.lowB_pos (t:=-(c.a.h - c.b.h)) sl
    have ml:=Lo.lowB_le (t:=-(c.a.h - c.b.h)) sl
    have mg:=Lo.low_gc (t:=-(c.a.h - c.b.h)) sl
    have mr:=rule_at (m:=-(c.a.h - c.b.h)) sl
    generalize Lo.lowT (-(c.a.h - c.b.h)) (c.a.m - c.b.m)=x at *
    generalize Lo.lowB (-(c.a.h - c.b.h)) (c.a.m - c.b.m)=y at *
    have me:(c.a.m - c.b.m)*x+(c.a.h - c.b.h)*y=0:=by rw [mr,Int.neg_mul];omega
    obtain ⟨m1,m2⟩:=meet_in' hs cq mq l me (by rw [hd1,hd2];exact k)
    have xp:0 < x:=by
      rcases int_or 0 x with z | z
      · exact z
      · exfalso
        have z1:0≤sp*y:=Int.mul_nonneg h0 (by omega)
        have z2:x*sq≤0:=Int.mul_nonpos_of_nonpos_of_nonneg z (by omega)
        omega
    have xy:x < y:=by
      have z1:c.p*y≤c.q*y:=Int.mul_le_mul_of_nonneg_right e2 (by omega)
      have z2:c.q*x < c.q*y:=by rw [Int.mul_comm c.q x];omega
      exact Int.lt_of_mul_lt_mul_left z2 (by omega)
    have sg1:(0 < d1∧d2 < 0)∨(d1 < 0∧0 < d2):=by
      rcases Int.lt_trichotomy d1 0 with z | z | z
      · right
        refine ⟨z,?_⟩
        rcases int_or 0 d2 with w | w
        · exact w
        · have:=Int.mul_nonneg_of_nonpos_of_nonpos (a:=d1) (b:=d2) (by omega) w
          omega
      · rw [z,Int.zero_mul] at k;omega
      · left
        refine ⟨z,?_⟩
        rcases int_or d2 0 with w | w
        · exact w
        · have:=Int.mul_nonneg (a:=d1) (b:=d2) (by omega) w
          omega
    refine ⟨_,_,rfl,⟨xp,by show x≤y;omega,mg,by show y.natAbs < _;omega,?_,?_⟩,okE _ (pick _),rfl,rfl,m1,⟨m2,?_⟩,?_,?_⟩
    · show (if 0 < d1 then c.a else c.b).m.natAbs < _
      rcases pick (0 < d1) with e | e <;> rw [e] <;> omega
    · show (if 0 < d1 then c.a else c.b).h.natAbs < _
      rcases pick (0 < d1) with e | e <;> rw [e] <;> omega
    · show ((if 0 < d2 then c.a else c.b).m - (if 0 < d1 then c.a else c.b).m)*x+((if 0 < d2 then c.a else c.b).h - (if 0 < d1 then c.a else c.b).h)*y=0
      rcases sg1 with ⟨z1,z2⟩ | ⟨z1,z2⟩
      · rw [if_neg (by omega),if_pos z1]
        have:(c.b.m - c.a.m)*x+(c.b.h - c.a.h)*y = -((c.a.m - c.b.m)*x+(c.a.h - c.b.h)*y):=by
          rw [show c.b.m - c.a.m = -(c.a.m - c.b.m) by omega,show c.b.h - c.a.h = -(c.a.h - c.b.h) by omega,Int.neg_mul,Int.neg_mul]
          omega
        rw [this,me];rfl
      · rw [if_pos z2,if_neg (by omega)]
        exact me
    · intro p q hp1 hp2
      rw [at_mk]
      unfold mx
      rcases sg1 with ⟨z1,z2⟩ | ⟨z1,z2⟩
      · rw [if_pos z1]
        have:=between (p:=p) (q:=q) (s:=c.a.m - c.b.m) (h:=c.a.h - c.b.h) m1 hp1 hp2 (by omega) (by omega)
        rw [dif_at] at this
        omega
      · rw [if_neg (by omega)]
        have:=between' (p:=p) (q:=q) (s:=c.a.m - c.b.m) (h:=c.a.h - c.b.h) m1 hp1 hp2 (by omega) (by omega)
        rw [dif_at] at this
        omega
    · intro p q hp1 hp2
      rw [at_mk]
      unfold mx
      rcases sg1 with ⟨z1,z2⟩ | ⟨z1,z2⟩
      · rw [if_neg (by omega)]
        have:=between' (p:=p) (q:=q) (s:=c.a.m - c.b.m) (h:=c.a.h - c.b.h) m2 hp1 hp2 (by omega) (by omega)
        rw [dif_at] at this
        omega
      · rw [if_pos z2]
        have:=between (p:=p) (q:=q) (s:=c.a.m - c.b.m) (h:=c.a.h - c.b.h) m2 hp1 hp2 (by omega) (by omega)
        rw [dif_at] at this
        omega
  · rw [if_neg k]
    left
    by_cases z0:d1=0
    · rw [if_pos z0]
      refine ⟨_,rfl,okE _ (pick _),rfl,rfl,fun p q hp1 hp2=>?_⟩
      rw [at_mk]
      unfold mx
      by_cases z:0 < d2
      · rw [if_pos z]
        have:=between (p:=p) (q:=q) (s:=c.a.m - c.b.m) (h:=c.a.h - c.b.h) l hp1 hp2 (by omega) (by omega)
        rw [dif_at] at this
        omega
      · rw [if_neg z]
        have:=between' (p:=p) (q:=q) (s:=c.a.m - c.b.m) (h:=c.a.h - c.b.h) l hp1 hp2 (by omega) (by omega)
        rw [dif_at] at this
        omega
    · rw [if_neg z0]
      refine ⟨_,rfl,okE _ (pick _),rfl,rfl,fun p q hp1 hp2=>?_⟩
      rw [at_mk]
      unfold mx
      by_cases z:0 < d1
      · rw [if_pos z]
        have w:0≤d2:=by
          rcases int_or d2 0 with w | w
          · have:=Int.mul_neg_of_pos_of_neg z w
            omega
          · exact w
        have:=between (p:=p) (q:=q) (s:=c.a.m - c.b.m) (h:=c.a.h - c.b.h) l hp1 hp2 (by omega) (by omega)
        rw [dif_at] at this
        omega
      · rw [if_neg z]
        have w:d2≤0:=by
          rcases int_or 0 d2 with w | w
          · have:=Int.mul_neg_of_neg_of_pos (show d1 < 0 by omega) w
            omega
          · exact w
        have:=between' (p:=p) (q:=q) (s:=c.a.m - c.b.m) (h:=c.a.h - c.b.h) l hp1 hp2 (by omega) (by omega)
        rw [dif_at] at this
        omega
end Ln
end Mine
namespace Mine
namespace Ln
noncomputable def gr:Int→Int→List Pc→List St4
  | _,_,[]=>[]
  | sp,sq,c::r=>gs sp sq c++gr c.p c.q r
theorem adj_at {s t:St4}:(t.m - s.m)*s.p+(t.h - s.h)*s.q=t.at s.p s.q - s.at s.p s.q:=by
  unfold St4.at
  rw [Int.sub_mul,Int.sub_mul]
  omega
theorem AdjP.mx {c d:Pc} (h:AdjP c d):mx d c.p c.q=mx c c.p c.q:=by
  have h1:=h.2.1
  have h2:=h.2.2
  have z1:d.a.at c.p c.q=c.a.at c.p c.q:=by
    have:(d.a.m - c.a.m)*c.p+(d.a.h - c.a.h)*c.q=d.a.at c.p c.q - c.a.at c.p c.q:=by
      unfold St4.at
      rw [Int.sub_mul,Int.sub_mul]
      omega
    omega
  have z2:d.b.at c.p c.q=c.b.at c.p c.q:=by
    have:(d.b.m - c.b.m)*c.p+(d.b.h - c.b.h)*c.q=d.b.at c.p c.q - c.b.at c.p c.q:=by
      unfold St4.at
      rw [Int.sub_mul,Int.sub_mul]
      omega
    omega
  unfold Ln.mx
  rw [z1,z2]
theorem gr_spec {n:Nat}:∀(P:List Pc) (c:Pc) (sp sq:Int),0≤sp→0 < sq→sp*c.q < c.p*sq→(∀ d∈c::P,PcOk n d)→ChP (c::P)→(∃ d,(c::P).getLast?=some d∧d.p=1∧d.q=1)→
    (∀ s∈gr sp sq (c::P),OkB (n+1) s)∧ChW (gr sp sq (c::P))∧End1 (gr sp sq (c::P))∧
    (∃ u r,gr sp sq (c::P)=u::r∧sp*u.q < u.p*sq∧u.at sp sq=mx c sp sq)∧
    ∀ p q,0 < q→p≤q→sp*q≤p*sq→∃ d u,pkP (c::P) p q=some d∧pk (gr sp sq (c::P)) p q=some u∧u.at p q=mx d p q
  | P,c,sp,sq,h0,hs,l,ok,ch,last=>by
    have oc:=ok c List.mem_cons_self
    have cq:0 < c.q:=by have:=oc.e.1;have:=oc.e.2.1;omega
    have rest:(P=[]∧c.p=1∧c.q=1)∨∃ d r,P=d::r∧AdjP c d∧
        (∀ s∈gr c.p c.q P,OkB (n+1) s)∧ChW (gr c.p c.q P)∧End1 (gr c.p c.q P)∧
        (∃ u r,gr c.p c.q P=u::r∧c.p*u.q < u.p*c.q∧u.at c.p c.q=mx c c.p c.q)∧
        ∀ p q,0 < q→p≤q→c.p*q≤p*c.q→∃ d u,pkP P p q=some d∧pk (gr c.p c.q P) p q=some u∧u.at p q=mx d p q:=by
      cases P with
      | nil =>
        obtain ⟨d,h1,h2⟩:=last
        cases h1
        exact .inl ⟨rfl,h2⟩
      | cons d r =>
        right
        have i:=gr_spec r d c.p c.q (by have:=oc.e.1;omega) cq ch.1.1 (fun x hx=>ok x (List.mem_cons_of_mem _ hx)) ch.2 (by
          obtain ⟨x,h1,h2⟩:=last
          rw [List.getLast?_cons_cons] at h1
          exact ⟨x,h1,h2⟩)
        obtain ⟨i1,i2,i3,⟨u,r',i4,i5,i6⟩,i7⟩:=i
        exact ⟨d,r,rfl,ch.1,i1,i2,i3,⟨u,r',i4,i5,by rw [i6];exact ch.1.mx⟩,i7⟩
    have joinE:∀ u:St4,OkB (n+1) u→u.p=c.p→u.q=c.q→u.at c.p c.q=mx c c.p c.q→
        (∀ s∈u::gr c.p c.q P,OkB (n+1) s)∧ChW (u::gr c.p c.q P)∧End1 (u::gr c.p c.q P):=fun u ou e1 e2 e3=>by
      rcases rest with ⟨rfl,z1,z2⟩ | ⟨d,r,_,_,i1,i2,i3,⟨v,r',i4,i5,i6⟩,_⟩
      · refine ⟨fun s hs=>?_,trivial,⟨u,rfl,e1.trans z1,e2.trans z2⟩⟩
        rw [List.mem_singleton.mp hs]
        exact ou
      · rw [i4] at i1 i2 i3 ⊢
        refine ⟨fun s hs=>?_,⟨⟨by rw [e1,e2];exact i5,?_⟩,i2⟩,?_⟩
        · rcases List.mem_cons.mp hs with z | z
          · rw [z];exact ou
          · exact i1 s z
        · rw [adj_at,e1,e2,i6,e3]
          omega
        · obtain ⟨x,h1,h2⟩:=i3
          exact ⟨x,by rw [List.getLast?_cons_cons];exact h1,h2⟩
    have nle:∀{a b:Int},¬a < b→b≤a:=fun h=>by omega
    have pkR:∀(u:St4),u.p=c.p→u.q=c.q→∀ p q,0 < q→p≤q→(p*c.q≤c.p*q→u.at p q=mx c p q)→
        ∃ d w,pkP (c::P) p q=some d∧pk (u::gr c.p c.q P) p q=some w∧w.at p q=mx d p q:=fun u e1 e2 p q hq hpq hm=>by
      by_cases k:c.p*q < p*c.q
      · rcases rest with ⟨rfl,z1,z2⟩ | ⟨d,r,_,_,_,_,_,_,i7⟩
        · rw [z1,z2] at k
          omega
        · rw [pkP_lt k,pk_cons_lt (s:=u) (by rw [e1,e2];exact k)]
          exact i7 p q hq hpq (by omega)
      · exact ⟨c,u,pkP_ge k,pk_cons_ge (by rw [e1,e2];exact k),hm (nle k)⟩
    rcases gs_spec oc h0 hs l with ⟨u,g,ou,e1,e2,hm⟩ | ⟨v,u,g,ov,ou,e1,e2,lv,av,hv,hm⟩
    · have e:gr sp sq (c::P)=u::gr c.p c.q P:=by
        show gs sp sq c++gr c.p c.q P=_
        rw [g];rfl
      rw [e]
      obtain ⟨j1,j2,j3⟩:=joinE u ou e1 e2 (hm _ _ (by omega) (by omega))
      exact ⟨j1,j2,j3,⟨u,_,rfl,by rw [e1,e2];exact l,hm _ _ (by omega) (by omega)⟩,fun p q hq hpq hsp=>pkR u e1 e2 p q hq hpq fun z=>hm p q hsp z⟩
    · have e:gr sp sq (c::P)=v::u::gr c.p c.q P:=by
        show gs sp sq c++gr c.p c.q P=_
        rw [g];rfl
      rw [e]
      have vu:v.p*c.q < c.p*v.q:=by have:=av.1;rw [e1,e2] at this;exact this
      obtain ⟨j1,j2,j3⟩:=joinE u ou e1 e2 (hm _ _ (by omega) (by omega))
      refine ⟨fun s hs=>?_,⟨av,j2⟩,?_,⟨v,_,rfl,lv,hv _ _ (by omega) (by omega)⟩,fun p q hq hpq hsp=>?_⟩
      · rcases List.mem_cons.mp hs with z | z
        · rw [z];exact ov
        · exact j1 s z
      · obtain ⟨x,h1,h2⟩:=j3
        exact ⟨x,by rw [List.getLast?_cons_cons];exact h1,h2⟩
      · by_cases k:v.p*q < p*v.q
        · rw [pk_cons_lt k]
          exact pkR u e1 e2 p q hq hpq fun z=>hm p q (by omega) z
        · refine ⟨c,v,pkP_ge (nlt_trans ov.q0 cq hq vu k),pk_cons_ge k,hv p q hsp (nle k)⟩
theorem greater_way {n:Nat} {A B:List St4} (wa:Way n A) (wb:Way n B):Way (n+1) (gr 0 1 (sbs A B))∧∀ p q,0 < q→0≤p→p≤q→
    ∃ s t u,pk A p q=some s∧pk B p q=some t∧pk (gr 0 1 (sbs A B)) p q=some u∧u.at p q=max (s.at p q) (t.at p q):=by
  obtain ⟨h1,h2,h3⟩:=sbs_way A B wa wb
  cases e:sbs A B with
  | nil =>
    rw [e] at h3
    obtain ⟨_,z,_⟩:=h3
    cases z
  | cons c P =>
    rw [e] at h1 h2 h3
    have oc:=h1 c List.mem_cons_self
    obtain ⟨i1,i2,i3,_,i5⟩:=gr_spec P c 0 1 (by omega) (by omega) (by have:=oc.e.1;omega) h1 h2 h3
    refine ⟨⟨i1,i2,i3⟩,fun p q hq h0 hpq=>?_⟩
    obtain ⟨d,u,k1,k2,k3⟩:=i5 p q hq hpq (by omega)
    obtain ⟨d',k4,k5,k6⟩:=sbs_pk hq hpq A B wa wb
    rw [e,k1] at k4
    cases k4
    exact ⟨d.a,d.b,u,k5,k6,k2,k3⟩
theorem greater_line {n:Nat} {A B:List St4} (wa:Way n A) (wb:Way n B):LineB (n+1) (jn (gr 0 1 (sbs A B))):=by rw [jn_eq];exact jnR_line (greater_way wa wb).1
theorem greater_at {n:Nat} {A B:List St4} (wa:Way n A) (wb:Way n B) {p q:Int} (hq:0 < q) (h0:0≤p) (hpq:p≤q) :
    ∃ s t u,pk A p q=some s∧pk B p q=some t∧pk (jn (gr 0 1 (sbs A B))) p q=some u∧u.at p q=max (s.at p q) (t.at p q):=by
  obtain ⟨w,h⟩:=greater_way wa wb
  obtain ⟨s,t,v,h1,h2,h3,h4⟩:=h p q hq h0 hpq
  obtain ⟨v',u,h5,h6,h7,h8⟩:=jnR_pk hq hpq w
  rw [h3] at h5
  cases h5
  refine ⟨s,t,u,h1,h2,by rw [jn_eq];exact h6,?_⟩
  rw [← h4]
  unfold St4.at
  rw [h7,h8]
theorem gs_len (sp sq:Int) (c:Pc):(gs sp sq c).length≤2:=by
  unfold gs
  split
  · exact Nat.le_refl _
  · split <;> exact Nat.le_succ _
end Ln
end Mine
namespace Mine
namespace Ln
structure LineK (L:List St4):Prop where
  b:LineB 45 L
  few:L.length≤1000
theorem LineK.ok {L:List St4} (l:LineK L):∀ s∈L,OkB 45 s:=l.b.ok
theorem LineK.way {L:List St4} (l:LineK L):Way 45 L:=l.b.way
theorem LineK.at {L:List St4} (l:LineK L) {i:Nat} {s:St4} (h:L[i]?=some s):OkB 45 s:=l.ok s (List.mem_of_getElem? h)
theorem sbs_step {A B:List St4} {i j:Nat} {a b:St4} (ha:A[i]?=some a) (hb:B[j]?=some b) :
    sbs (A.drop i) (B.drop j)=if a.p*b.q < b.p*a.q then ⟨a.p,a.q,a,b⟩::sbs (A.drop (i+1)) (B.drop j) else if a.p=b.p∧a.q=b.q then ⟨b.p,b.q,a,b⟩::sbs (A.drop (i+1)) (B.drop (j+1)) else ⟨b.p,b.q,a,b⟩::sbs (A.drop i) (B.drop (j+1)):=by
  obtain ⟨h1,e1⟩:=List.getElem?_eq_some_iff.mp ha
  obtain ⟨h2,e2⟩:=List.getElem?_eq_some_iff.mp hb
  have d1:A.drop i=a::A.drop (i+1):=by rw [List.drop_eq_getElem_cons h1,e1]
  have d2:B.drop j=b::B.drop (j+1):=by rw [List.drop_eq_getElem_cons h2,e2]
  by_cases c:a.p*b.q < b.p*a.q
  · rw [if_pos c,d1]
    rw [show sbs (a::A.drop (i+1)) (B.drop j)=sbs (a::A.drop (i+1)) (b::B.drop (j+1)) by rw [d2],sbs_lt c,d2]
  · rw [if_neg c]
    by_cases e:a.p=b.p∧a.q=b.q
    · rw [if_pos e,d1,d2,sbs_eq e]
    · rw [if_neg e,d2,d1,sbs_gt c e]
theorem sbs_stop {A B:List St4} {i j:Nat} (h:A.length≤i∨B.length≤j):sbs (A.drop i) (B.drop j)=[]:=by
  rcases h with h | h
  · rw [List.drop_eq_nil_of_le h,sbs_nil]
  · rw [List.drop_eq_nil_of_le h,sbs_nil']
end Ln
end Mine
namespace Mine
namespace Ln
theorem lin0 {a b sp sq ep eq:Int} (he:0 < eq) (l:sp*eq < ep*sq) (h1:a*ep+b*eq=0) (h2:a*(sp+ep)+b*(sq+eq)=0):a=0∧b=0:=by
  have h3:a*sp+b*sq=0:=by grind
  have h4:a*(sp*eq - ep*sq)=0:=by grind
  have a0:a=0:=by
    rcases Int.mul_eq_zero.mp h4 with z | z
    · exact z
    · omega
  subst a0
  have h5:b*eq=0:=by omega
  rcases Int.mul_eq_zero.mp h5 with z | z
  · exact ⟨rfl,z⟩
  · omega
theorem rule_one {s t:St4} {sp sq ep eq:Int} (he:0 < eq) (l:sp*eq < ep*sq) (h1:s.at ep eq=t.at ep eq) (h2:s.at (sp+ep) (sq+eq)=t.at (sp+ep) (sq+eq)):s.m=t.m∧s.h=t.h:=by
  have e1:s.m*ep+s.h*eq=t.m*ep+t.h*eq:=h1
  have e2:s.m*(sp+ep)+s.h*(sq+eq)=t.m*(sp+ep)+t.h*(sq+eq):=h2
  obtain ⟨z1,z2⟩:=lin0 (a:=s.m - t.m) (b:=s.h - t.h) he l (by grind) (by grind)
  omega
theorem med {sp sq ep eq:Int} (hs:0 < sq) (he:0 < eq) (l:sp*eq < ep*sq):0 < sq+eq∧sp*(sq+eq) < (sp+ep)*sq∧(sp+ep)*eq < ep*(sq+eq):=by
  refine ⟨by omega,?_,?_⟩ <;> grind
theorem first_rule {n m:Nat} {s t:St4} {L M:List St4} {sp sq:Int} (hs:0 < sq) (os:OkB n s) (ot:OkB m t) (l1:sp*s.q < s.p*sq) (l2:sp*t.q < t.p*sq) (hle:s.p*t.q≤t.p*s.q)
    (H:∀ p q,0 < q→sp*q < p*sq→p≤q→∀ a b,pk (s::L) p q=some a→pk (t::M) p q=some b→a.at p q=b.at p q):s.m=t.m∧s.h=t.h:=by
  have hq:=os.q0
  have tq:=ot.q0
  obtain ⟨m0,m1,m2⟩:=med hs hq l1
  have pq:=os.2.1
  refine rule_one hq l1 ?_ ?_
  · refine H s.p s.q hq l1 pq s t (pk_cons_ge (by omega)) (pk_cons_ge (by omega))
  · have n1:¬s.p*(sq+s.q) < (sp+s.p)*s.q:=by omega
    have n2:¬t.p*(sq+s.q) < (sp+s.p)*t.q:=by
      intro z
      have:=lt_trans' (a:=t.p) (b:=t.q) (c:=sp+s.p) (d:=sq+s.q) (e:=s.p) (f:=s.q) tq m0 hq z m2
      omega
    refine H (sp+s.p) (sq+s.q) m0 m1 ?_ s t (pk_cons_ge n1) (pk_cons_ge n2)
    have:(sp+s.p)*s.q < s.p*(sq+s.q):=m2
    rcases Int.lt_or_le (sq+s.q) (sp+s.p) with z | z
    · exfalso
      have y1:s.p*(sq+s.q)≤s.q*(sq+s.q):=Int.mul_le_mul_of_nonneg_right pq (by omega)
      have y2:s.q*(sq+s.q) < s.q*(sp+s.p):=Int.mul_lt_mul_of_pos_left z hq
      rw [Int.mul_comm s.q (sp+s.p)] at y2
      omega
    · exact z
theorem uniq_aux {n m:Nat}:∀(L M:List St4) (sp sq:Int),0 < sq→(∀ s∈L,OkB n s)→(∀ t∈M,OkB m t)→Ch L→Ch M→End1 L→End1 M→(∀ s,L.head?=some s→sp*s.q < s.p*sq)→(∀ t,M.head?=some t→sp*t.q < t.p*sq)→
    (∀ p q,0 < q→sp*q < p*sq→p≤q→∀ a b,pk L p q=some a→pk M p q=some b→a.at p q=b.at p q)→L=M
  | [],_,_,_,_,_,_,_,_,e,_,_,_,_=>by obtain ⟨s,h,_⟩:=e;cases h
  | _::_,[],_,_,_,_,_,_,_,_,e,_,_,_=>by obtain ⟨s,h,_⟩:=e;cases h
  | s::L,t::M,sp,sq,hs,oL,oM,cL,cM,eL,eM,lL,lM,H=>by
    have os:=oL s List.mem_cons_self
    have ot:=oM t List.mem_cons_self
    have sq0:=os.q0
    have tq0:=ot.q0
    have l1:=lL s rfl
    have l2:=lM t rfl
    have ends:∀{n m:Nat} {s t:St4} {L M:List St4},(∀ a∈s::L,OkB n a)→(∀ a∈t::M,OkB m a)→Ch (s::L)→End1 (s::L)→s.m=t.m→(∀ p q,0 < q→sp*q < p*sq→p≤q→∀ a b,pk (s::L) p q=some a→pk (t::M) p q=some b→a.at p q=b.at p q)→sp*s.q < s.p*sq→¬s.p*t.q < t.p*s.q:=by
      intro n m s t L M oL oM cL eL em H l1 z
      have os:=oL s List.mem_cons_self
      have ot:=oM t List.mem_cons_self
      have sq0:=os.q0
      have tq0:=ot.q0
      cases L with
      | nil =>
        obtain ⟨u,hu,u1,u2⟩:=eL
        have e:s=u:=by simpa using hu
        subst e
        rw [u1,u2] at z
        have:=ot.2.1
        omega
      | cons u r =>
        have ou:=oL u (List.mem_cons_of_mem _ List.mem_cons_self)
        have ad:=cL.1
        have uq0:=ou.q0
        have up:∀ p q,0 < q→s.p*q < p*s.q→sp*q < p*sq:=fun p q hq hl=>lt_trans' hs sq0 hq l1 hl
        have H2:∀ p q,0 < q→s.p*q < p*s.q→p≤q→∀ a b,pk (u::r) p q=some a→pk (t::M) p q=some b→a.at p q=b.at p q:=fun p q hq hl hpq a b ha hb=>H p q hq (up p q hq hl) hpq a b (by rw [pk_cons_lt hl];exact ha) hb
        have ru:u.m=t.m:=by
          rcases Int.lt_or_le (t.p*u.q) (u.p*t.q) with y | y
          · exact (first_rule (s:=t) (t:=u) (L:=M) (M:=r) sq0 ot ou z ad.1 (by omega) fun p q hq hl hpq a b ha hb=>(H2 p q hq hl hpq b a hb ha).symm).1.symm
          · exact (first_rule (s:=u) (t:=t) (L:=r) (M:=M) sq0 ou ot ad.1 z (by omega) H2).1
        exact ad.2.2 (by omega)
    have rr:s.m=t.m∧s.h=t.h:=by
      rcases Int.lt_or_le (t.p*s.q) (s.p*t.q) with y | y
      · have:=first_rule (s:=t) (t:=s) (L:=M) (M:=L) hs ot os l2 l1 (by omega) fun p q hq hl hpq a b ha hb=>(H p q hq hl hpq b a hb ha).symm
        exact ⟨this.1.symm,this.2.symm⟩
      · exact first_rule hs os ot l1 l2 y H
    have n1:=ends oL oM cL eL rr.1 H l1
    have n2:=ends oM oL cM eM rr.1.symm (fun p q hq hl hpq a b ha hb=>(H p q hq hl hpq b a hb ha).symm) l2
    obtain ⟨e1,e2⟩:=frac_eq sq0 tq0 os.2.2.1 ot.2.2.1 (show s.p*t.q=t.p*s.q by omega)
    have est:s=t:=by
      obtain ⟨a,b,c,d⟩:=s
      obtain ⟨a',b',c',d'⟩:=t
      simp only at e1 e2 rr
      rw [e1,e2,rr.1,rr.2]
    subst est
    congr 1
    cases L with
    | nil =>
      cases M with
      | nil=>rfl
      | cons u r =>
        exfalso
        obtain ⟨v,hv,v1,v2⟩:=eL
        have e:s=v:=by simpa using hv
        subst e
        have ad:=cM.1
        have ou:=oM u (List.mem_cons_of_mem _ List.mem_cons_self)
        have:=ad.1
        have:=ou.2.1
        rw [v1,v2] at *
        omega
    | cons u r =>
      cases M with
      | nil =>
        exfalso
        obtain ⟨v,hv,v1,v2⟩:=eM
        have e:s=v:=by simpa using hv
        subst e
        have ad:=cL.1
        have ou:=oL u (List.mem_cons_of_mem _ List.mem_cons_self)
        have:=ad.1
        have:=ou.2.1
        rw [v1,v2] at *
        omega
      | cons v k =>
        refine uniq_aux (u::r) (v::k) s.p s.q sq0 (fun a ha=>oL a (List.mem_cons_of_mem _ ha)) (fun a ha=>oM a (List.mem_cons_of_mem _ ha)) cL.2 cM.2 eL.tail eM.tail (fun a ha=>?_) (fun a ha=>?_) fun p q hq hl hpq a b ha hb=>?_
        · have e:u=a:=by simpa using ha
          subst e
          exact cL.1.1
        · have e:v=a:=by simpa using ha
          subst e
          exact cM.1.1
        · exact H p q hq (lt_trans' hs sq0 hq l1 hl) hpq a b (by rw [pk_cons_lt hl];exact ha) (by rw [pk_cons_lt hl];exact hb)
theorem uniq {n m:Nat} {L M:List St4} (hL:LineB n L) (hM:LineB m M) (H:∀ p q,0 < q→0≤p→p≤q→∀ a b,pk L p q=some a→pk M p q=some b→a.at p q=b.at p q):L=M :=
  uniq_aux L M 0 1 (by decide) hL.ok hM.ok hL.ch hM.ch hL.last hM.last (fun s h=>by have:=(hL.ok s (List.mem_of_head? h)).1;omega) (fun s h=>by have:=(hM.ok s (List.mem_of_head? h)).1;omega) fun p q hq hl hpq=>H p q hq (by omega) hpq
end Ln
end Mine
namespace Mine
noncomputable def hAt (L:List St4) (p q:Int):Int:=match Ln.pk L p q with
  | some s=>s.at p q
  | none=>0
theorem hAt_of {L:List St4} {p q:Int} {s:St4} (h:Ln.pk L p q=some s):hAt L p q=s.at p q:=by unfold hAt;rw [h]
theorem hAt_some {n:Nat} {L:List St4} (w:Ln.Way n L) {p q:Int} (hq:0 < q) (hpq:p≤q):∃ s,Ln.pk L p q=some s:=by
  obtain ⟨s,u,h,_⟩:=Ln.jnR_pk hq hpq w
  exact ⟨s,h⟩
theorem line_one {n m:Nat} {L M:List St4} (hL:Ln.LineB n L) (hM:Ln.LineB m M) (H:∀ p q,0 < q→0≤p→p≤q→hAt L p q=hAt M p q):L=M :=
  Ln.uniq hL hM fun p q hq h0 hpq a b ha hb=>by
    have:=H p q hq h0 hpq
    rwa [hAt_of ha,hAt_of hb] at this
noncomputable def up (A B:List St4):List St4:=Ln.jn (Ln.gr 0 1 (Ln.sbs A B))
noncomputable def le (A B:List St4):List St4:=(up (A.map Ln.tnS) (B.map Ln.tnS)).map Ln.tnS
theorem up_line {n:Nat} {A B:List St4} (a:Ln.LineB n A) (b:Ln.LineB n B):Ln.LineB (n+1) (up A B):=Ln.greater_line a.way b.way
theorem up_at {n:Nat} {A B:List St4} (a:Ln.LineB n A) (b:Ln.LineB n B) {p q:Int} (hq:0 < q) (h0:0≤p) (hpq:p≤q):hAt (up A B) p q=max (hAt A p q) (hAt B p q):=by
  obtain ⟨s,t,u,h1,h2,h3,h4⟩:=Ln.greater_at a.way b.way hq h0 hpq
  unfold up
  rw [hAt_of h1,hAt_of h2,hAt_of h3]
  exact h4
theorem tn_at {n:Nat} {A:List St4} (a:Ln.LineB n A) {p q:Int} (hq:0 < q) (hpq:p≤q):hAt (A.map Ln.tnS) p q = - hAt A p q:=by
  obtain ⟨s,h1⟩:=hAt_some a.way hq hpq
  obtain ⟨h2,h3⟩:=Ln.turned_at h1
  rw [hAt_of h1,hAt_of h2]
  omega
theorem le_line {n:Nat} {A B:List St4} (a:Ln.LineB n A) (b:Ln.LineB n B):Ln.LineB (n+1) (le A B):=Ln.turned_line (up_line (Ln.turned_line a) (Ln.turned_line b))
theorem le_at {n:Nat} {A B:List St4} (a:Ln.LineB n A) (b:Ln.LineB n B) {p q:Int} (hq:0 < q) (h0:0≤p) (hpq:p≤q):hAt (le A B) p q=min (hAt A p q) (hAt B p q):=by
  have e:=tn_at (up_line (Ln.turned_line a) (Ln.turned_line b)) hq hpq
  have e2:=up_at (Ln.turned_line a) (Ln.turned_line b) hq h0 hpq
  rw [tn_at a hq hpq,tn_at b hq hpq] at e2
  show hAt ((up (A.map Ln.tnS) (B.map Ln.tnS)).map Ln.tnS) p q=_
  rw [e,e2]
  omega
noncomputable def St1 (h:Int):List St4:=[⟨1,1,0,h⟩]
theorem st1_line {h:Int} (hh:h.natAbs < 2 ^ 40):Ln.LineB 40 (St1 h) :=
  ⟨fun s hs=>by rw [List.mem_singleton.mp hs];exact ⟨show (0:Int) < 1 by decide,show (1:Int)≤1 by decide,show Lo.gc 1 1=1 by decide,show (1:Int).natAbs < 2 ^ 40 by decide,show (0:Int).natAbs < 2 ^ 40 by decide,hh⟩,trivial,⟨_,rfl,rfl,rfl⟩⟩
theorem st1_at {h p q:Int} (hpq:p≤q):hAt (St1 h) p q=h*q:=by
  have:Ln.pk (St1 h) p q=some ⟨1,1,0,h⟩:=Ln.pk_cons_ge (by show ¬1*q < p*1;omega)
  rw [hAt_of this]
  show 0*p+h*q=_
  omega
noncomputable def cut (A:List St4):List St4:=le (up A (St1 0)) (St1 1)
theorem s0_line {n:Nat} (h:40≤n):Ln.LineB n (St1 0):=(st1_line (by decide)).mono h
theorem s1_line {n:Nat} (h:40≤n):Ln.LineB n (St1 1):=(st1_line (by decide)).mono h
theorem up0_line {n:Nat} {A:List St4} (h:40≤n) (a:Ln.LineB n A):Ln.LineB (n+1) (up A (St1 0)):=up_line a (s0_line h)
theorem cut_line {n:Nat} {A:List St4} (h:40≤n) (a:Ln.LineB n A):Ln.LineB (n+2) (cut A):=le_line (up0_line h a) (s1_line (by omega))
theorem up0_at {n:Nat} {A:List St4} (h:40≤n) (a:Ln.LineB n A) {p q:Int} (hq:0 < q) (h0:0≤p) (hpq:p≤q):hAt (up A (St1 0)) p q=max (hAt A p q) 0:=by
  rw [up_at a (s0_line h) hq h0 hpq,st1_at hpq,Int.zero_mul]
theorem cut_at {n:Nat} {A:List St4} (h:40≤n) (a:Ln.LineB n A) {p q:Int} (hq:0 < q) (h0:0≤p) (hpq:p≤q):hAt (cut A) p q=min (max (hAt A p q) 0) q:=by
  unfold cut
  rw [le_at (up0_line h a) (s1_line (by omega)) hq h0 hpq,up0_at h a hq h0 hpq,st1_at hpq,Int.one_mul]
noncomputable def Inn (A:List St4):Prop:=∀ p q,0 < q→0≤p→p≤q→0≤hAt A p q∧hAt A p q≤q
theorem cut_inn {n:Nat} {A:List St4} (h:40≤n) (a:Ln.LineB n A):Inn (cut A):=fun p q hq h0 hpq=>by
  rw [cut_at h a hq h0 hpq]
  omega
noncomputable def endsL (L:List St4):List (Int×Int):=(0,1)::L.map fun s=>(s.p,s.q)
noncomputable def inB (t q:Int):Bool:=decide (0≤t∧t≤q)
noncomputable def wi (L:List St4):Bool:=(endsL L).all fun x=>inB (hAt L x.1 x.2) x.2
noncomputable def bdL (L:List St4):List (St4×Int×Int):=(L.take 1).map (fun s=>(s,0,1))++L.map fun s=>(s,s.p,s.q)
namespace Ln
theorem LineB.rise {n:Nat} {L:List St4} (l:LineB n L):∀{k i:Nat} {s t:St4},L[i]?=some s→L[i+k+1]?=some t→s.p*t.q < t.p*s.q
  | 0,_,_,_,h,g=>(l.ch.get h g).1
  | k+1,i,s,t,h,g=>by
    have hl:i+k+1 < L.length:=by have:=(List.getElem?_eq_some_iff.mp g).1;omega
    have hu:L[i+k+1]?=some (L[i+k+1]):=List.getElem?_eq_getElem hl
    have r1:=l.rise (k:=k) h hu
    have r2:=(l.ch.get (i:=i+k+1) hu g).1
    have o1:=l.ok _ (List.mem_of_getElem? h)
    have o2:=l.ok _ (List.mem_of_getElem? hu)
    have o3:=l.ok _ (List.mem_of_getElem? g)
    exact lt_trans' o1.q0 o2.q0 o3.q0 r1 r2
theorem LineB.own {n:Nat} {L:List St4} (l:LineB n L) {s:St4} (h:s∈L):pk L s.p s.q=some s:=by
  obtain ⟨i,hi,e⟩:=List.mem_iff_getElem.mp h
  have h:L[i]?=some s:=by rw [List.getElem?_eq_getElem hi,e]
  refine pk_at (k:=i) (fun j hj t ht=>?_) h (by omega)
  have e:i=j+(i - j - 1)+1:=by omega
  rw [e] at h
  exact l.rise ht h
theorem LineB.first {n:Nat} {s:St4} {r:List St4} (l:LineB n (s::r)):pk (s::r) 0 1=some s:=by
  have:=(l.ok s List.mem_cons_self).1
  exact pk_cons_ge (by omega)
end Ln
theorem wi_bd {n:Nat} {L:List St4} (l:Ln.LineB n L):(bdL L).all (fun b=>inB (b.1.at b.2.1 b.2.2) b.2.2)=wi L:=by
  unfold bdL wi endsL
  cases L with
  | nil=>obtain ⟨s,h,_⟩:=l.last;cases h
  | cons s r =>
    rw [List.all_append,List.all_cons,hAt_of l.first]
    congr 1
    · show (inB (s.at 0 1) 1 && true)=inB (s.at 0 1) 1
      rw [Bool.and_true]
    · rw [List.all_map,List.all_map]
      rw [Bool.eq_iff_iff,List.all_eq_true,List.all_eq_true]
      refine ⟨fun h x hx=>?_,fun h x hx=>?_⟩
      · have:=h x hx
        show inB (hAt (s::r) x.p x.q) x.q=true
        rw [hAt_of (l.own hx)]
        exact this
      · have:=h x hx
        show inB (x.at x.p x.q) x.q=true
        rw [← hAt_of (l.own hx)]
        exact this
theorem wi_iff {L:List St4}:wi L=true↔∀ x∈endsL L,0≤hAt L x.1 x.2∧hAt L x.1 x.2≤x.2:=by
  unfold wi
  rw [List.all_eq_true]
  exact ⟨fun h x hx=>of_decide_eq_true (h x hx),fun h x hx=>decide_eq_true (h x hx)⟩
theorem in_stretch {s:St4} {sp sq p q:Int} (l:sp*s.q < s.p*sq) (l1:sp*q≤p*sq) (l2:p*s.q≤s.p*q) (d1:0≤s.at sp sq∧s.at sp sq≤sq) (d2:0≤s.at s.p s.q∧s.at s.p s.q≤s.q):0≤s.at p q∧s.at p q≤q:=by
  obtain ⟨a1,a2⟩:=d1
  obtain ⟨b1,b2⟩:=d2
  have e:∀ x y:Int,s.at x y=s.m*x+s.h*y:=fun x y=>rfl
  rw [e] at *
  refine ⟨Ln.between l l1 l2 a1 b1,?_⟩
  have z:=Ln.between' (s:=s.m) (h:=s.h - 1) l l1 l2 (by rw [Int.sub_mul];omega) (by rw [Int.sub_mul];omega)
  rw [Int.sub_mul] at z
  omega
theorem inn_aux {n:Nat}:∀(L:List St4) (sp sq:Int),0 < sq→(∀ s∈L,Ln.OkB n s)→Ln.Ch L→(∀ s,L.head?=some s→sp*s.q < s.p*sq∧0≤s.at sp sq∧s.at sp sq≤sq)→(∀ s∈L,0≤s.at s.p s.q∧s.at s.p s.q≤s.q)→
    ∀ p q,0 < q→sp*q≤p*sq→∀ s,Ln.pk L p q=some s→0≤s.at p q∧s.at p q≤q
  | [],_,_,_,_,_,_,_,_,_,_,_,_,h=>by cases h
  | t::r,sp,sq,hs,ok,ch,hd,al,p,q,hq,hl,s,h=>by
    by_cases c:t.p*q < p*t.q
    · rw [Ln.pk_cons_lt c] at h
      have ot:=ok t List.mem_cons_self
      have at0:=al t List.mem_cons_self
      refine inn_aux r t.p t.q ot.q0 (fun a ha=>ok a (List.mem_cons_of_mem _ ha)) ?_ (fun a ha=>?_) (fun a ha=>al a (List.mem_cons_of_mem _ ha)) p q hq (by omega) s h
      · cases r with
        | nil=>trivial
        | cons u r'=>exact ch.2
      · cases r with
        | nil=>cases ha
        | cons u r' =>
          have e0:u=a:=by simpa using ha
          subst e0
          have j:=ch.1
          have e:=Ln.adj_at (s:=t) (t:=u)
          rw [j.2.1] at e
          exact ⟨j.1,by omega,by omega⟩
    · rw [Ln.pk_cons_ge c] at h
      cases h
      obtain ⟨h1,h2⟩:=hd t rfl
      exact in_stretch h1 hl (by omega) h2 (al t List.mem_cons_self)
theorem wi_inn {n:Nat} {L:List St4} (l:Ln.LineB n L) (h:wi L=true):Inn L:=fun p q hq h0 hpq=>by
  have hw:=wi_iff.mp h
  obtain ⟨s,hs⟩:=hAt_some l.way hq hpq
  rw [hAt_of hs]
  refine inn_aux L 0 1 (by decide) l.ok l.ch (fun a ha=>?_) (fun a ha=>?_) p q hq (by omega) s hs
  · cases L with
    | nil=>cases ha
    | cons u r =>
      have e0:u=a:=by simpa using ha
      subst e0
      have:=(l.ok u List.mem_cons_self).1
      have z:=hw (0,1) List.mem_cons_self
      rw [hAt_of l.first] at z
      exact ⟨by omega,z⟩
  · have z:=hw (a.p,a.q) (List.mem_cons_of_mem _ (List.mem_map.mpr ⟨a,ha,rfl⟩))
    rw [hAt_of (l.own ha)] at z
    exact z
end Mine
set_option maxHeartbeats 1000000
namespace Mine
namespace Ln
theorem jnStep_mem {A:List St4} {s t:St4} (h:t∈jnStep A s):t∈A∨t=s:=by
  unfold jnStep at h
  split at h
  · split at h
    · rcases List.mem_append.mp h with h | h
      · exact .inl ((List.dropLast_sublist A).subset h)
      · exact .inr (List.mem_singleton.mp h)
    · rcases List.mem_append.mp h with h | h
      · exact .inl h
      · exact .inr (List.mem_singleton.mp h)
  · rcases List.mem_append.mp h with h | h
    · exact .inl h
    · exact .inr (List.mem_singleton.mp h)
theorem jn_mem_aux:∀(M A:List St4) (t:St4),t∈M.foldl jnStep A→t∈A∨t∈M
  | [],A,t,h=>.inl h
  | s::M,A,t,h=>by
    rcases jn_mem_aux M (jnStep A s) t h with h | h
    · rcases jnStep_mem h with h | h
      · exact .inl h
      · exact .inr (by rw [h];simp)
    · exact .inr (List.mem_cons_of_mem _ h)
theorem jn_mem {M:List St4} {t:St4} (h:t∈jn M):t∈M:=by
  rcases jn_mem_aux M [] t h with h | h
  · cases h
  · exact h
theorem sbs_mem:∀(n:Nat) (A B:List St4),A.length+B.length≤n→∀ c∈sbs A B,c.a∈A∧c.b∈B
  | 0,A,B,h,c,hc=>by
    have:A=[]:=List.length_eq_zero_iff.mp (by omega)
    subst this
    rw [sbs_nil] at hc
    cases hc
  | n+1,[],B,h,c,hc=>by rw [sbs_nil] at hc;cases hc
  | n+1,a::A,[],h,c,hc=>by rw [sbs_nil'] at hc;cases hc
  | n+1,a::A,b::B,h,c,hc=>by
    have h':A.length+1+(B.length+1)≤n+1:=h
    rw [sbs] at hc
    split at hc
    · rcases List.mem_cons.mp hc with rfl | hc
      · exact ⟨by simp,by simp⟩
      · obtain ⟨x,y⟩:=sbs_mem n A (b::B) (by simp;omega) c hc
        exact ⟨List.mem_cons_of_mem _ x,y⟩
    · split at hc
      · rcases List.mem_cons.mp hc with rfl | hc
        · exact ⟨by simp,by simp⟩
        · obtain ⟨x,y⟩:=sbs_mem n A B (by omega) c hc
          exact ⟨List.mem_cons_of_mem _ x,List.mem_cons_of_mem _ y⟩
      · rcases List.mem_cons.mp hc with rfl | hc
        · exact ⟨by simp,by simp⟩
        · obtain ⟨x,y⟩:=sbs_mem n (a::A) B (by simp;omega) c hc
          exact ⟨x,List.mem_cons_of_mem _ y⟩
theorem gs_m {sp sq:Int} {c:Pc} {s:St4} (h:s∈gs sp sq c):s.m=c.a.m∨s.m=c.b.m:=by
  have ite:∀(P:Prop) [Decidable P],(if P then c.a else c.b).m=c.a.m∨(if P then c.a else c.b).m=c.b.m:=fun P _=>by
    by_cases z:P
    · rw [if_pos z];exact .inl rfl
    · rw [if_neg z];exact .inr rfl
  unfold gs at h
  split at h
  · rcases List.mem_cons.mp h with rfl | h
    · exact ite _
    · rw [List.mem_singleton.mp h];exact ite _
  · split at h
    · rw [List.mem_singleton.mp h];exact ite _
    · rw [List.mem_singleton.mp h];exact ite _
theorem gr_m:∀(P:List Pc) (sp sq:Int) (s:St4),s∈gr sp sq P→∃ c∈P,s.m=c.a.m∨s.m=c.b.m
  | [],_,_,s,h=>by cases h
  | c::P,sp,sq,s,h=>by
    rcases List.mem_append.mp h with h | h
    · exact ⟨c,by simp,gs_m h⟩
    · obtain ⟨d,hd,e⟩:=gr_m P c.p c.q s h
      exact ⟨d,List.mem_cons_of_mem _ hd,e⟩
noncomputable def Slp (n:Nat) (L:List St4):Prop:=∀ s∈L,s.m.natAbs≤n
theorem Slp.mono {n k:Nat} {L:List St4} (h:Slp n L) (e:n≤k):Slp k L:=fun s hs=>Nat.le_trans (h s hs) e
theorem slp_up {n k:Nat} {A B:List St4} (a:Slp n A) (b:Slp k B):Slp (max n k) (up A B):=fun s hs=>by
  obtain ⟨c,hc,e⟩:=gr_m _ _ _ _ (jn_mem hs)
  obtain ⟨h1,h2⟩:=sbs_mem _ A B (Nat.le_refl _) c hc
  have:=a _ h1
  have:=b _ h2
  rcases e with e | e <;> rw [e] <;> omega
theorem slp_tn {n:Nat} {A:List St4} (a:Slp n A):Slp n (A.map tnS):=fun s hs=>by
  obtain ⟨t,ht,rfl⟩:=List.mem_map.mp hs
  have:=a t ht
  show (-t.m).natAbs≤n
  omega
theorem slp_rs {n:Nat} {k:Int} {A:List St4} (a:Slp n A):Slp n (A.map (rsS k)):=fun s hs=>by
  obtain ⟨t,ht,rfl⟩:=List.mem_map.mp hs
  exact a t ht
theorem slp_le {n k:Nat} {A B:List St4} (a:Slp n A) (b:Slp k B):Slp (max n k) (le A B):=slp_tn (slp_up (slp_tn a) (slp_tn b))
theorem slp_ad {n k:Nat} {A B:List St4} (a:Slp n A) (b:Slp k B):Slp (n+k) (jn (ad (sbs A B))):=fun s hs=>by
  obtain ⟨c,hc,rfl⟩:=List.mem_map.mp (jn_mem hs)
  obtain ⟨h1,h2⟩:=sbs_mem _ A B (Nat.le_refl _) c hc
  have:=a _ h1
  have:=b _ h2
  show (c.a.m+c.b.m).natAbs≤n+k
  omega
theorem slp_st (h:Int):Slp 0 (St1 h):=fun s hs=>by rw [List.mem_singleton.mp hs];exact Nat.le_refl _
theorem slp_cut {n:Nat} {A:List St4} (a:Slp n A):Slp n (cut A):=(slp_le (slp_up a (slp_st 0)) (slp_st 1)).mono (by omega)
theorem nodup_len {α:Type} [DecidableEq α]:∀(l m:List α),l.Nodup→(∀ x∈l,x∈m)→l.length≤m.length
  | [],_,_,_=>Nat.zero_le _
  | x::l,m,h,hs=>by
    have hx:=hs x (by simp)
    have hn:=List.nodup_cons.mp h
    have ih:=nodup_len l (m.erase x) hn.2 fun y hy=>by
      have hne:y≠x:=fun z=>hn.1 (z ▸ hy)
      exact (List.mem_erase_of_ne hne).mpr (hs y (List.mem_cons_of_mem _ hy))
    have e:=List.length_erase_of_mem hx
    have:0 < m.length:=List.length_pos_of_mem hx
    simp only [List.length_cons]
    omega
noncomputable def far (n:Nat):List (Int×Int):=(List.range n).flatMap fun (q:Nat)=>((List.range (q+1)).filter fun (p:Nat)=>decide (Lo.gc ((p:Int)+1) ((q:Int)+1)=1)).map fun (p:Nat)=>(((p:Int)+1),((q:Int)+1))
theorem far_mem {n:Nat} {p q:Int} (h1:0 < p) (h2:p≤q) (h3:q≤n) (g:Lo.gc p q=1):(p,q)∈far n:=by
  refine List.mem_flatMap.mpr ⟨(q - 1).toNat,List.mem_range.mpr (by omega),List.mem_map.mpr ⟨(p - 1).toNat,List.mem_filter.mpr ⟨List.mem_range.mpr (by omega),?_⟩,?_⟩⟩
  · have e1:(((p - 1).toNat:Nat):Int)+1=p:=by omega
    have e2:(((q - 1).toNat:Nat):Int)+1=q:=by omega
    rw [e1,e2]
    exact decide_eq_true g
  · have e1:(((p - 1).toNat:Nat):Int)+1=p:=by omega
    have e2:(((q - 1).toNat:Nat):Int)+1=q:=by omega
    rw [e1,e2]
theorem far_len:(far 50).length≤800:=by decide +kernel
theorem adj_q {n k:Nat} {s t:St4} (os:OkB k s) (a:Adj s t) (hs:s.m.natAbs≤n) (ht:t.m.natAbs≤n):s.q≤2*n:=by
  obtain ⟨_,e,ne⟩:=a
  have q0:=os.q0
  have g:Int.gcd s.p s.q=1:=by have:=os.2.2.1;unfold Lo.gc at this;exact_mod_cast this
  have d:s.q∣(t.m - s.m)*s.p:=⟨-(t.h - s.h),by grind⟩
  have d2:s.q.natAbs∣(t.m - s.m).natAbs:=by
    have d':=Int.natAbs_dvd_natAbs.mpr d
    rw [Int.natAbs_mul] at d'
    have c:Nat.Coprime s.q.natAbs s.p.natAbs:=by
      show Nat.gcd s.q.natAbs s.p.natAbs=1
      rw [Nat.gcd_comm]
      exact g
    exact c.dvd_of_dvd_mul_right d'
  have:=Nat.le_of_dvd (by omega) d2
  omega
theorem ends_q {n k:Nat} (hn:1≤n):∀{L:List St4},LineB k L→Slp n L→∀ s∈L,s.q≤2*n
  | [],_,_,s,h=>by cases h
  | [u],l,_,s,h=>by
    rw [List.mem_singleton.mp h]
    obtain ⟨v,e1,e2,e3⟩:=l.last
    have e:some u=some v:=e1
    cases e
    rw [e3];omega
  | u::v::r,l,sl,s,h=>by
    rcases List.mem_cons.mp h with rfl | h
    · exact adj_q (l.ok _ (by simp)) l.ch.1 (sl _ (by simp)) (sl _ (by simp))
    · exact ends_q hn ⟨fun x hx=>l.ok x (List.mem_cons_of_mem _ hx),l.ch.2,l.last.tail⟩ (fun x hx=>sl x (List.mem_cons_of_mem _ hx)) s h
theorem ends_nodup {k:Nat} {L:List St4} (l:LineB k L):(L.map fun s=>(s.p,s.q)).Nodup:=by
  rw [List.nodup_iff_pairwise_ne,List.pairwise_iff_getElem]
  intro i j hi hj hij e
  rw [List.length_map] at hi hj
  rw [List.getElem_map,List.getElem_map] at e
  obtain ⟨d,rfl⟩:∃ d,j=i+d+1:=⟨j - i - 1,by omega⟩
  have:=l.rise (List.getElem?_eq_getElem hi) (List.getElem?_eq_getElem hj)
  have e1:=congrArg Prod.fst e
  have e2:=congrArg Prod.snd e
  simp only at e1 e2
  rw [e1,e2] at this
  omega
theorem few {k:Nat} {L:List St4} (l:LineB k L) (sl:Slp 25 L):L.length≤800:=by
  have h:=nodup_len (L.map fun s=>(s.p,s.q)) (far 50) (ends_nodup l) fun x hx=>by
    obtain ⟨s,hs,rfl⟩:=List.mem_map.mp hx
    have o:=l.ok s hs
    exact far_mem o.1 o.2.1 (ends_q (by decide) l sl s hs) o.2.2.1
  rw [List.length_map] at h
  exact Nat.le_trans h far_len
noncomputable def Hgt (b:Nat) (L:List St4):Prop:=∀ p q,0 < q→0≤p→p≤q→(hAt L p q).natAbs≤b*q.natAbs
theorem tight {k b:Nat} {L:List St4} (l:LineB k L) (sl:Slp 25 L) (ht:Hgt b L) (hb:b≤25):LineB 10 L:=by
  refine ⟨fun s hs=>?_,l.ch,l.last⟩
  have o:=l.ok s hs
  have q1:=ends_q (by decide) l sl s hs
  have m1:=sl s hs
  have q0:=o.q0
  refine ⟨o.1,o.2.1,o.2.2.1,by omega,by omega,?_⟩
  have h1:=ht s.p s.q q0 (by have:=o.1;omega) o.2.1
  rw [hAt_of (l.own hs)] at h1
  have e:s.at s.p s.q=s.m*s.p+s.h*s.q:=rfl
  rw [e] at h1
  have h2:(s.h*s.q).natAbs≤b*s.q.natAbs+25*s.q.natAbs:=by
    have a1:(s.m*s.p).natAbs≤25*s.q.natAbs:=by
      rw [Int.natAbs_mul]
      exact Nat.mul_le_mul m1 (by have:=o.1;have:=o.2.1;omega)
    omega
  rw [Int.natAbs_mul,← Nat.add_mul] at h2
  have h3:s.h.natAbs≤b+25:=Nat.le_of_mul_le_mul_right h2 (by omega)
  omega
end Ln
end Mine
namespace Mine
open Ln
structure Gd (n:Nat) (L:List St4):Prop where
  b:LineB 10 L
  s:Slp n L
  i:Inn L
theorem k_of {k b:Nat} {L:List St4} (l:LineB k L) (sl:Slp 25 L) (ht:Hgt b L) (hb:b≤25):LineK L:=⟨(tight l sl ht hb).mono (by decide),Nat.le_trans (few l sl) (by decide)⟩
theorem Gd.k {n:Nat} {L:List St4} (g:Gd n L) (h:n≤25):LineK L:=⟨g.b.mono (by decide),Nat.le_trans (few g.b (g.s.mono h)) (by decide)⟩
theorem Gd.len {n:Nat} {L:List St4} (g:Gd n L) (h:n≤25):L.length≤800:=few g.b (g.s.mono h)
theorem inn_hgt {L:List St4} (i:Inn L):Hgt 1 L:=fun p q hq h0 hpq=>by
  obtain ⟨a,b⟩:=i p q hq h0 hpq
  omega
noncomputable def addL (A B:List St4):List St4:=jn (ad (sbs A B))
theorem add_at {n:Nat} {A B:List St4} (a:LineB n A) (b:LineB n B) {p q:Int} (hq:0 < q) (hpq:p≤q):hAt (addL A B) p q=hAt A p q+hAt B p q:=by
  obtain ⟨s,t,u,h1,h2,h3,h4⟩:=added_at a.way b.way hq hpq
  rw [hAt_of h1,hAt_of h2]
  unfold addL
  rw [hAt_of h3,h4]
theorem rs_at {n:Nat} {A:List St4} (a:LineB n A) (k:Int) {p q:Int} (hq:0 < q) (hpq:p≤q):hAt (A.map (rsS k)) p q=hAt A p q+k*q:=by
  obtain ⟨s,h⟩:=hAt_some a.way hq hpq
  obtain ⟨h1,h2⟩:=raised_at (k:=k) h
  rw [hAt_of h,hAt_of h1,h2]
structure CutOk (X:List St4):Prop where
  k:LineK X
  u:LineK (up X (St1 0))
  c:(cut X).length≤1000
theorem cut_facts {k n b:Nat} {X:List St4} (l:LineB k X) (s:Slp n X) (hn:n≤25) (h:Hgt b X) (hb:b≤25):CutOk X∧Gd n (cut X)∧∀ p q,0 < q→0≤p→p≤q→hAt (cut X) p q=min (max (hAt X p q) 0) q:=by
  have t:=tight l (s.mono hn) h hb
  have t40:LineB 40 X:=t.mono (by decide)
  have ul:=up0_line (by decide) t40
  have us:Slp 25 (up X (St1 0)):=(slp_up s (slp_st 0)).mono (by omega)
  have uh:Hgt b (up X (St1 0)):=fun p q hq h0 hpq=>by
    rw [up0_at (by decide) t40 hq h0 hpq]
    have:=h p q hq h0 hpq
    omega
  have cl:=cut_line (by decide) t40
  have cs:Slp n (cut X):=slp_cut s
  have ci:Inn (cut X):=cut_inn (by decide) t40
  have ct:=tight cl (cs.mono hn) (inn_hgt ci) (by decide)
  exact ⟨⟨k_of l (s.mono hn) h hb,k_of ul us uh hb,Nat.le_trans (few cl (cs.mono hn)) (by decide)⟩,⟨ct,cs,ci⟩,fun p q hq h0 hpq=>cut_at (by decide) t40 hq h0 hpq⟩
theorem Gd.at {n:Nat} {L:List St4} (g:Gd n L) {p q:Int} (hq:0 < q) (h0:0≤p) (hpq:p≤q):0≤hAt L p q∧hAt L p q≤q:=g.i p q hq h0 hpq
noncomputable def W5.steep:W5→Nat→Nat→Nat
  | .greater,n,k=>max n k
  | .lesser,n,k=>max n k
  | _,n,k=>n+k
noncomputable def lineF:W5→List St4→List St4→List St4
  | .more,A,B=>cut (addL A B)
  | .less,A,B=>cut ((addL A B).map (rsS (-1)))
  | .greater,A,B=>up A B
  | .lesser,A,B=>le A B
  | .leads,A,B=>cut ((addL (A.map tnS) B).map (rsS 1))
noncomputable def FoldOk:W5→List St4→List St4→Prop
  | .more,A,B=>LineK A∧LineK B∧CutOk (addL A B)
  | .less,A,B=>LineK A∧LineK B∧(addL A B).length≤1000∧CutOk ((addL A B).map (rsS (-1)))
  | .greater,A,B=>LineK A∧LineK B
  | .lesser,A,B=>LineK A∧LineK B∧(le A B).length≤1000
  | .leads,A,B=>A.length≤1000∧LineK (A.map tnS)∧LineK B∧(addL (A.map tnS) B).length≤1000∧CutOk ((addL (A.map tnS) B).map (rsS 1))
theorem fold_facts {n k:Nat} {A B:List St4} (u:W5) (a:Gd n A) (b:Gd k B) (h:u.steep n k≤25) :
    FoldOk u A B∧Gd (u.steep n k) (lineF u A B)∧∀ p q,0 < q→0≤p→p≤q→hAt (lineF u A B) p q=u.worth q (hAt A p q) (hAt B p q):=by
  have hn:n≤25:=by cases u <;> simp only [W5.steep] at h <;> omega
  have hk:k≤25:=by cases u <;> simp only [W5.steep] at h <;> omega
  have ka:=a.k hn
  have kb:=b.k hk
  cases u with
  | more =>
    have h':n+k≤25:=h
    have hg:Hgt 2 (addL A B):=fun p q hq h0 hpq=>by
      rw [add_at a.b b.b hq hpq]
      have:=a.at hq h0 hpq
      have:=b.at hq h0 hpq
      omega
    obtain ⟨c1,c2,c3⟩:=cut_facts (added_line a.b.way b.b.way) (slp_ad a.s b.s) h' hg (by decide)
    refine ⟨⟨ka,kb,c1⟩,c2,fun p q hq h0 hpq=>?_⟩
    have x:=a.at hq h0 hpq
    have y:=b.at hq h0 hpq
    show hAt (cut (addL A B)) p q=min (hAt A p q+hAt B p q) q
    have e:=c3 p q hq h0 hpq
    unfold addL at *
    rw [e,show hAt (jn (ad (sbs A B))) p q=hAt A p q+hAt B p q from add_at a.b b.b hq hpq]
    omega
  | less =>
    have h':n+k≤25:=h
    have al:=added_line a.b.way b.b.way
    have as:=slp_ad a.s b.s
    have hg:Hgt 3 ((addL A B).map (rsS (-1))):=fun p q hq h0 hpq=>by
      rw [rs_at (show LineB 11 (addL A B) from al) _ hq hpq,add_at a.b b.b hq hpq]
      have:=a.at hq h0 hpq
      have:=b.at hq h0 hpq
      omega
    obtain ⟨c1,c2,c3⟩:=cut_facts (raised_line (k:=-1) (by decide) (show LineB 11 (addL A B) from al)) (slp_rs (show Slp (n+k) (addL A B) from as)) h' hg (by decide)
    refine ⟨⟨ka,kb,Nat.le_trans (few al (as.mono h')) (by decide),c1⟩,c2,fun p q hq h0 hpq=>?_⟩
    have x:=a.at hq h0 hpq
    have y:=b.at hq h0 hpq
    show hAt (cut ((addL A B).map (rsS (-1)))) p q=max (hAt A p q+hAt B p q - q) 0
    rw [c3 p q hq h0 hpq,rs_at (show LineB 11 (addL A B) from al) _ hq hpq,add_at a.b b.b hq hpq]
    omega
  | greater =>
    have h':max n k≤25:=h
    have at_:∀ p q,0 < q→0≤p→p≤q→hAt (up A B) p q=max (hAt A p q) (hAt B p q):=fun p q hq h0 hpq=>up_at a.b b.b hq h0 hpq
    have inn:Inn (up A B):=fun p q hq h0 hpq=>by
      rw [at_ p q hq h0 hpq]
      have:=a.at hq h0 hpq
      have:=b.at hq h0 hpq
      omega
    have sl:=slp_up a.s b.s
    exact ⟨⟨ka,kb⟩,⟨tight (up_line a.b b.b) (sl.mono h') (inn_hgt inn) (by decide),sl,inn⟩,at_⟩
  | lesser =>
    have h':max n k≤25:=h
    have at_:∀ p q,0 < q→0≤p→p≤q→hAt (le A B) p q=min (hAt A p q) (hAt B p q):=fun p q hq h0 hpq=>le_at a.b b.b hq h0 hpq
    have inn:Inn (le A B):=fun p q hq h0 hpq=>by
      rw [at_ p q hq h0 hpq]
      have:=a.at hq h0 hpq
      have:=b.at hq h0 hpq
      omega
    have sl:=slp_le a.s b.s
    have ll:=le_line a.b b.b
    exact ⟨⟨ka,kb,Nat.le_trans (few ll (sl.mono h')) (by decide)⟩,⟨tight ll (sl.mono h') (inn_hgt inn) (by decide),sl,inn⟩,at_⟩
  | leads =>
    have h':n+k≤25:=h
    have tl:=turned_line a.b
    have ts:=slp_tn a.s
    have th:∀ p q,0 < q→p≤q→hAt (A.map tnS) p q = - hAt A p q:=fun p q hq hpq=>tn_at a.b hq hpq
    have al:=added_line tl.way b.b.way
    have as:=slp_ad ts b.s
    have ah:∀ p q,0 < q→p≤q→hAt (addL (A.map tnS) B) p q = - hAt A p q+hAt B p q:=fun p q hq hpq=>by rw [add_at tl b.b hq hpq,th p q hq hpq]
    have hg:Hgt 2 ((addL (A.map tnS) B).map (rsS 1)):=fun p q hq h0 hpq=>by
      rw [rs_at (show LineB 11 (addL (A.map tnS) B) from al) _ hq hpq,ah p q hq hpq]
      have:=a.at hq h0 hpq
      have:=b.at hq h0 hpq
      omega
    have hgt:Hgt 1 (A.map tnS):=fun p q hq h0 hpq=>by
      rw [th p q hq hpq]
      have:=a.at hq h0 hpq
      omega
    obtain ⟨c1,c2,c3⟩:=cut_facts (raised_line (k:=1) (by decide) (show LineB 11 (addL (A.map tnS) B) from al)) (slp_rs (show Slp (n+k) (addL (A.map tnS) B) from as)) h' hg (by decide)
    refine ⟨⟨Nat.le_trans (a.len hn) (by decide),k_of tl (ts.mono hn) hgt (by decide),kb,Nat.le_trans (few al (as.mono h')) (by decide),c1⟩,c2,fun p q hq h0 hpq=>?_⟩
    have x:=a.at hq h0 hpq
    have y:=b.at hq h0 hpq
    show hAt (cut ((addL (A.map tnS) B).map (rsS 1))) p q=min (q - hAt A p q+hAt B p q) q
    rw [c3 p q hq h0 hpq,rs_at (show LineB 11 (addL (A.map tnS) B) from al) _ hq hpq,ah p q hq hpq]
    omega
noncomputable def lineNo (A:List St4):List St4:=(A.map tnS).map (rsS 1)
theorem no_facts {n:Nat} {A:List St4} (a:Gd n A) (hn:n≤25):A.length≤1000∧Gd n (lineNo A)∧∀ p q,0 < q→0≤p→p≤q→hAt (lineNo A) p q=q - hAt A p q:=by
  have tl:=turned_line a.b
  have at_:∀ p q,0 < q→0≤p→p≤q→hAt (lineNo A) p q=q - hAt A p q:=fun p q hq h0 hpq=>by
    unfold lineNo
    rw [rs_at tl _ hq hpq,tn_at a.b hq hpq]
    omega
  have inn:Inn (lineNo A):=fun p q hq h0 hpq=>by
    rw [at_ p q hq h0 hpq]
    have:=a.at hq h0 hpq
    omega
  have sl:Slp n (lineNo A):=slp_rs (slp_tn a.s)
  exact ⟨Nat.le_trans (a.len hn) (by decide),⟨tight (raised_line (k:=1) (by decide) tl) (sl.mono hn) (inn_hgt inn) (by decide),sl,inn⟩,at_⟩
noncomputable def lineP:List St4:=[⟨1,1,1,0⟩]
theorem p_line:LineB 10 lineP:=⟨fun s hs=>by rw [List.mem_singleton.mp hs];exact ⟨by decide,by decide,by decide,by decide,by decide,by decide⟩,trivial,⟨_,rfl,rfl,rfl⟩⟩
theorem p_at {p q:Int} (hpq:p≤q):hAt lineP p q=p:=by
  have e:pk lineP p q=some ⟨1,1,1,0⟩:=pk_cons_ge (s:=⟨1,1,1,0⟩) (by show ¬1*q < p*1;omega)
  rw [hAt_of e]
  show 1*p+0*q=p
  omega
theorem p_gd:Gd 1 lineP:=⟨p_line,fun s hs=>by rw [List.mem_singleton.mp hs];exact Nat.le_refl _,fun p q hq h0 hpq=>by rw [p_at hpq];omega⟩
theorem st_gd {h:Int} (hh:h=0∨h=1):Gd 0 (St1 h):=by
  refine ⟨?_,slp_st h,fun p q hq h0 hpq=>?_⟩
  · exact ⟨fun s hs=>by rw [List.mem_singleton.mp hs];rcases hh with rfl | rfl <;> exact ⟨by decide,by decide,by decide,by decide,by decide,by decide⟩,trivial,⟨_,rfl,rfl,rfl⟩⟩
  · rw [st1_at hpq]
    rcases hh with rfl | rfl <;> omega
end Mine
set_option maxHeartbeats 4000000
namespace L2
open PySem PySem.Spec PySem.Calls PyProof.Rows PySem.W
section
variable {P:Program} {w:World} {K:PySem.W.Frag} {mg:Str→Option Value} {base:Heap} {N:List Str} {qual:Str} {scope:Scope} {f:Addr} {cd:Value} {A:Around} {outer:List Env} {s:Shared} {H:Hp} {E:XK}
end
end L2
namespace L2
open PySem PySem.Spec PyProof.Rows PySem.W
end L2
namespace L2
open PySem PySem.Spec PyProof.Rows
variable {X:Cx}
noncomputable def plainArg (e:Expr):Bool:=match e with
  | .Starred _ _=>false
  | _=>true
theorem star_plain {e:Expr} {es:List Expr} {env:Env} (h:plainArg e=true):starEach (e::es) env=(false,eval e env)::starEach es env:=by
  cases e <;> first | rfl | cases h
theorem paS {e:Expr} {es:List Expr} {te:TE} {t:TA} (ha:PE X e te) (hr:PA X es t) (h:plainArg e=true:=by rfl):PA X (e::es) (tCons te t):=pa_cons ha hr (star_plain h)
end L2
namespace L2
open PySem
section
variable {prog:Program} {w:World} {A:Around} {E:Value→Shared→Prop} {h:Heap} {g:Array GenState} {d:Drawn} {t:Nat} {os:OsState}
variable {C fI:Addr} {bmB:List Value} {B newId initId:String}
end
end L2
namespace L2
open PySem
section
variable {M:Model} {A:Around} {E:Value→Shared→Prop} {s:Shared} {base:Heap} {env:Env} {outer l:List Env} {L e:Addr} {cl fl:Value} {dc:Option Addr} {Q:Unit→Shared→Prop}
end
end L2
namespace L2
open PySem PySem.Spec PySem.Calls PyProof.Rows PySem.W PySem.Builtin PySem.Builtin.ObjectAttr
section
variable {prog:Program} {w:World} {A:Around} {s:Shared} {K:Frag} {x C:Addr} {ox:Obj} {od:Option Obj} {name:Str} {v:Value}
end
end L2
namespace L2
open PySem PySem.Spec PySem.Calls PyProof.Rows PySem.W
section
variable {P:Program} {w:World} {H:Hp} {h:Heap} {e C d:Addr} {dc:Option Addr} {fs:List (Str×V)}
end
section
variable {X:Cx} {pins:List (Addr×Obj)} {σ:St} {H:Hp} {s:Shared} {a C d:Addr} {fs:List (Str×V)} {f:Str} {y:V} {u:Value} {A:Around} {E:Value→Shared→Prop} {Q:Unit→Shared→Prop}
end
end L2
namespace L2
open PySem PySem.Spec PySem.Calls PyProof.Rows PySem.W
section
variable {X:Cx} {k:Nat} {f C:Addr} {fd:FuncData} {ps:List Str} {sp:Sp} {x:Str} {p pos:Pos} {e:Expr} {es:List Expr} {t:TA}
end
end L2
namespace L2
open PySem PySem.Spec PySem.Calls PyProof.Rows PySem.W
section
variable {P:Program} {w:World} {K:PySem.W.Frag} {mg:Str→Option Value} {base:Heap} {N:List Str} {qual:Str} {scope:Scope} {f:Addr} {cd:Value} {A:Around} {outer:List Env} {s:Shared} {H:Hp} {E:XK}
end
end L2
namespace L2
open PySem PySem.Spec PySem.Calls PyProof.Rows PySem.W PySem.Builtin.Getset_descriptor
section
variable {P:Program} {w:World} {K:PySem.W.Frag} {mg:Str→Option Value} {base:Heap} {N:List Str} {qual:Str} {scope:Scope} {f:Addr} {cd:Value} {A:Around} {outer:List Env} {s:Shared} {H:Hp} {E:XK}
end
section
variable {X:Cx}
end
end L2
namespace L2
open PySem PySem.Spec PySem.Calls PyProof.Rows PySem.W
section
variable {P:Program} {w:World} {K:PySem.W.Frag} {mg:Str→Option Value} {base:Heap} {N:List Str} {qual:Str} {scope:Scope} {f:Addr} {cd:Value} {A:Around} {outer:List Env} {s:Shared} {H:Hp} {E:XK}
end
end L2
namespace L2
open PySem PySem.Spec PySem.Calls PyProof.Rows PySem.W PySem.Builtin.Getset_descriptor
section
variable {P:Program} {w:World} {K:PySem.W.Frag} {mg:Str→Option Value} {base:Heap} {N:List Str} {qual:Str} {scope:Scope} {f:Addr} {cd:Value} {A:Around} {outer:List Env} {s:Shared} {H:Hp} {E:XK}
end
end L2
namespace L2
open PySem PySem.Spec PySem.Calls PyProof.Rows PySem.W PySem.Builtin.Getset_descriptor
end L2
namespace L2
open PySem PySem.Spec PyProof.Rows
inductive Lt where
  | non | bl (b:Bool) | int (i:Int) | str (x:Str) | var (i:Nat) | tup (xs:List Lt) | lst (xs:List Lt) | dic
noncomputable def visB (sc:Scope) (x:Str):Bool:=match sc.names.lookup x with
  | some .local=>true
  | some .cell=>true
  | some .free=>true
  | _=>false
mutual
noncomputable def litE (N:List Str) (sc:Scope):Expr→Option Lt
  | .Constant .none _ _=>some .non
  | .Constant (.bool b) _ _=>some (.bl b)
  | .Constant (.int i) _ _=>some (.int i)
  | .Constant (.str x) _ _=>some (.str x)
  | .UnaryOp .USub (.Constant (.int i) _ _) _=>some (.int (-i))
  | .Name x _=>match N.idxOf? x with
    | some i=>if visB sc x && !(x == ("__debug__":Str)) && !(x == ("__classdict__":Str)) then some (.var i) else none
    | none=>none
  | .Tuple es _ _=>match litEs N sc es with
    | some xs=>some (.tup xs)
    | none=>none
  | .List es _=>match litEs N sc es with
    | some xs=>some (.lst xs)
    | none=>none
  | .Dict [] [] _=>some .dic
  | _=>none
noncomputable def litEs (N:List Str) (sc:Scope):List Expr→Option (List Lt)
  | []=>some []
  | e::es=>match litE N sc e,litEs N sc es with
    | some x,some xs=>if plainArg e then some (x::xs) else none
    | _,_=>none
end
mutual
noncomputable def tLit:Lt→TE
  | .non=>tC .non
  | .bl b=>tC (.bl b)
  | .int i=>tC (.int i)
  | .str x=>tC (.str x)
  | .var i=>tVar i
  | .tup xs=>tTup (tLits xs)
  | .lst xs=>tLst (tLits xs)
  | .dic=>tDNewK
noncomputable def tLits:List Lt→TA
  | []=>tNil
  | x::xs=>tCons (tLit x) (tLits xs)
end
mutual
noncomputable def LtV (σ:St) (H:Hp):Lt→V→Prop
  | .non,v=>v=.non
  | .bl b,v=>v=.bl b
  | .int i,v=>v=.int i
  | .str x,v=>v=.str x
  | .var i,v=>σ[i]?=some (some v)
  | .tup xs,v=>∃ a us,v=.ref a∧H a=some (.tup us)∧LtVs σ H xs us
  | .lst xs,v=>∃ a us,v=.ref a∧H a=some (.lst us)∧LtVs σ H xs us
  | .dic,v=>∃ a,v=.ref a∧H a=some (.dK [])
noncomputable def LtVs (σ:St) (H:Hp):List Lt→List V→Prop
  | [],us=>us=[]
  | x::xs,us=>∃ u r,us=u::r∧LtV σ H x u∧LtVs σ H xs r
end
mutual
noncomputable def ltVar (σ:St):Lt→Bool
  | .var i=>match σ[i]? with | some (some _)=>true | _=>false
  | .tup xs=>decide (xs.length≤1000) && ltVars σ xs
  | .lst xs=>decide (xs.length≤1000) && ltVars σ xs
  | _=>true
noncomputable def ltVars (σ:St):List Lt→Bool
  | []=>true
  | x::xs=>ltVar σ x && ltVars σ xs
end
mutual
theorem LtV.same {σ:St} {H H':Hp} (s:Same H H'):∀{l:Lt} {v:V},LtV σ H l v→LtV σ H' l v
  | .non,_,h=>h
  | .bl _,_,h=>h
  | .int _,_,h=>h
  | .str _,_,h=>h
  | .var _,_,h=>h
  | .tup _,_,⟨a,us,h1,h2,h3⟩=>⟨a,us,h1,s _ _ h2,LtVs.same s h3⟩
  | .lst _,_,⟨a,us,h1,h2,h3⟩=>⟨a,us,h1,s _ _ h2,LtVs.same s h3⟩
  | .dic,_,⟨a,h1,h2⟩=>⟨a,h1,s _ _ h2⟩
theorem LtVs.same {σ:St} {H H':Hp} (s:Same H H'):∀{l:List Lt} {us:List V},LtVs σ H l us→LtVs σ H' l us
  | [],_,h=>h
  | _::_,_,⟨u,r,h1,h2,h3⟩=>⟨u,r,h1,LtV.same s h2,LtVs.same s h3⟩
end
theorem LtVs.len {σ:St} {H:Hp}:∀{l:List Lt} {us:List V},LtVs σ H l us→us.length=l.length
  | [],_,h=>by cases (show _=([]:List V) from h);rfl
  | _::_,_,⟨u,r,h1,_,h3⟩=>by subst h1;simp [LtVs.len h3]
theorem sameNew {H:Hp} {p:Addr} (h:H p=none) (o:HO):Same H (upd H p o):=fun b u z=>by rw [upd_ne (ne_of_none z h)];exact z
mutual
theorem lit_ok {σ:St}:∀(l:Lt) {H:Hp} {Q:VK},ltVar σ l=true→(∀ v H',Same H H'→LtV σ H' l v→Q v H')→tLit l σ H Q
  | .non,H,Q,_,q=>q _ _ (fun _ _ z=>z) rfl
  | .bl _,H,Q,_,q=>q _ _ (fun _ _ z=>z) rfl
  | .int _,H,Q,_,q=>q _ _ (fun _ _ z=>z) rfl
  | .str _,H,Q,_,q=>q _ _ (fun _ _ z=>z) rfl
  | .var i,H,Q,h,q=>by
    have h':(match σ[i]? with | some (some _)=>true | _=>false)=true:=h
    cases e:σ[i]? with
    | none=>rw [e] at h';cases h'
    | some o =>
      cases o with
      | none=>rw [e] at h';cases h'
      | some v=>exact ⟨v,e,q v H (fun _ _ z=>z) e⟩
  | .tup xs,H,Q,h,q=>by
    have h':(decide (xs.length≤1000) && ltVars σ xs)=true:=h
    rw [Bool.and_eq_true] at h'
    refine lits_ok xs h'.2 fun us H1 s1 l1=>⟨?_,fun p hp=>?_⟩
    · rw [l1.len];exact Nat.le_trans (of_decide_eq_true h'.1) (by decide)
    · have s2:=sameNew hp (.tup us)
      exact q _ _ (fun b o z=>s2 _ _ (s1 _ _ z)) ⟨p,us,rfl,upd_same,l1.same s2⟩
  | .lst xs,H,Q,h,q=>by
    have h':(decide (xs.length≤1000) && ltVars σ xs)=true:=h
    rw [Bool.and_eq_true] at h'
    refine lits_ok xs h'.2 fun us H1 s1 l1=>⟨?_,fun p hp=>?_⟩
    · rw [l1.len];exact Nat.le_trans (of_decide_eq_true h'.1) (by decide)
    · have s2:=sameNew hp (.lst us)
      exact q _ _ (fun b o z=>s2 _ _ (s1 _ _ z)) ⟨p,us,rfl,upd_same,l1.same s2⟩
  | .dic,H,Q,_,q=>fun p hp=>q _ _ (sameNew hp _) ⟨p,rfl,upd_same⟩
theorem lits_ok {σ:St}:∀(l:List Lt) {H:Hp} {Q:List V→Hp→Prop},ltVars σ l=true→(∀ us H',Same H H'→LtVs σ H' l us→Q us H')→tLits l σ H Q
  | [],H,Q,_,q=>q [] H (fun _ _ z=>z) rfl
  | x::xs,H,Q,h,q=>by
    have h':(ltVar σ x && ltVars σ xs)=true:=h
    rw [Bool.and_eq_true] at h'
    refine lit_ok x h'.1 fun v H1 s1 l1=>lits_ok xs h'.2 fun us H2 s2 l2=>?_
    exact q _ _ (fun b o z=>s2 _ _ (s1 _ _ z)) ⟨v,us,rfl,l1.same s2,l2⟩
end
section
variable {X:Cx}
theorem idxOf_at {N:List Str} {x:Str} {i:Nat} (h:N.idxOf? x=some i):N[i]?=some x:=by
  have:=List.of_findIdx?_eq_some (p:=fun y=>y == x) (xs:=N) h
  cases e:N[i]? with
  | none=>rw [e] at this;cases this
  | some y =>
    rw [e] at this
    have:(y == x)=true:=this
    rw [beq_iff_eq] at this
    rw [this]
theorem vis_of {sc:Scope} {x:Str} (h:visB sc x=true):Vis sc x:=by
  unfold visB at h
  unfold Vis
  cases e:sc.names.lookup x with
  | none=>rw [e] at h;cases h
  | some k =>
    rw [e] at h
    cases k with
    | «local»=>exact .inl rfl
    | cell=>exact .inr (.inl rfl)
    | free=>exact .inr (.inr rfl)
    | globalExplicit=>cases h
    | globalImplicit=>cases h
mutual
theorem pe_litN {N:List Str} {sc:Scope} (eN:X.N=N) (es:X.env.scope=sc):∀(e:Expr) {l:Lt},litE N sc e=some l→PE X e (tLit l):=fun e l h=>by
  cases e with
  | Constant c k p =>
    cases c with
    | none=>cases h;exact pe_non
    | bool b=>cases h;exact pe_bl
    | int i=>cases h;exact pe_int
    | str x=>cases h;exact pe_str
    | _=>cases h
  | UnaryOp o a p =>
    cases o with
    | USub =>
      cases a with
      | Constant c k q =>
        cases c with
        | int i =>
          cases h
          intro pins s σ H Q I q
          exact pe_un un_neg pe_int pins s σ H Q I ⟨i,rfl,q⟩
        | _=>cases h
      | _=>cases h
    | _=>cases h
  | Name x p =>
    unfold litE at h
    cases z:N.idxOf? x with
    | none=>rw [z] at h;cases h
    | some i =>
      rw [z] at h
      dsimp only at h
      by_cases c:(visB sc x && !(x == ("__debug__":Str)) && !(x == ("__classdict__":Str)))=true
      · rw [if_pos c] at h
        cases h
        rw [Bool.and_eq_true,Bool.and_eq_true] at c
        exact pe_var (by rw [eN];exact idxOf_at z) (by rw [es];exact vis_of c.1.1) (by simpa using c.1.2) (by simpa using c.2)
      · rw [if_neg c] at h;cases h
  | Tuple xs c p =>
    unfold litE at h
    cases z:litEs N sc xs with
    | none=>rw [z] at h;cases h
    | some ls=>rw [z] at h;cases h;exact pe_tup (pa_lits eN es xs z)
  | List xs p =>
    unfold litE at h
    cases z:litEs N sc xs with
    | none=>rw [z] at h;cases h
    | some ls=>rw [z] at h;cases h;exact pe_lst (pa_lits eN es xs z)
  | Dict ks vs p =>
    cases ks with
    | nil =>
      cases vs with
      | nil=>cases h;exact pe_dnewK
      | cons _ _=>cases h
    | cons _ _=>cases h
  | _=>cases h
theorem pa_lits {N:List Str} {sc:Scope} (eN:X.N=N) (es:X.env.scope=sc):∀(xs:List Expr) {ls:List Lt},litEs N sc xs=some ls→PA X xs (tLits ls)
  | [],ls,h=>by cases h;exact pa_nil
  | e::r,ls,h=>by
    unfold litEs at h
    cases z1:litE N sc e with
    | none=>rw [z1] at h;cases h
    | some x =>
      cases z2:litEs N sc r with
      | none=>rw [z1,z2] at h;cases h
      | some ys =>
        rw [z1,z2] at h
        dsimp only at h
        by_cases c:plainArg e=true
        · rw [if_pos c] at h
          cases h
          exact paS (pe_litN eN es e z1) (pa_lits eN es r z2) c
        · rw [if_neg c] at h;cases h
end
theorem lit_ex {N:List Str} {sc:Scope} {l:Lt} {e:Expr} (h:litE N sc e=some l) (eN:X.N=N) (es:X.env.scope=sc):∃ te,PE X e te∧∀ σ H Q,ltVar σ l=true→(∀ v H',Same H H'→LtV σ H' l v→Q v H')→te σ H Q :=
  ⟨_,pe_litN eN es e h,fun σ H Q hv q=>lit_ok l hv q⟩
structure Hold (X:Cx) (ss:List Stmt) (t:TS):Prop where
  h:PSs X ss t
theorem pss_consH {st:Stmt} {rest:List Stmt} {t u:TS} (h1:PS X st t) (h2:Hold X rest u):PSs X (st::rest) (tSeq t u):=pss_cons h1 h2.h
theorem set_lit {N:List Str} {sc:Scope} {l:Lt} {e:Expr} {i:Nat} {x:Str} {p pos:Pos} {rest:List Stmt} {tr:TS} (h:litE N sc e=some l) (hr:Hold X rest tr) (eN:X.N=N) (es:X.env.scope=sc) (hN:X.N.Nodup) (hi:X.N[i]?=some x) (hx:Loc X.env.scope x) (hs:swapsWith e (some (.Name x p)) pos.line X.env=pure false) (hf:X.fn x=true∨X.env.scope.names.lookup x=some .local) :
    ∃ t,Hold X (.Assign [.Name x p] e pos::rest) t∧∀ D σ H,ltVar σ l=true→(∀ v H',Same H H'→LtV σ H' l v→tr D (σ.set i (some v)) H')→t D σ H :=
  ⟨_,⟨pss_cons (ps_set hN hi hx (pe_litN eN es e h) hs hf) hr.h⟩,fun D σ H hv q=>lit_ok l hv fun v H' s' lv=>q v H' s' lv⟩
theorem ex_imp {X:Cx} {ss:List Stmt} {A R:TS→Prop} (h:∃ t,Hold X ss t∧A t) (k:∀ t,A t→R t):∃ t,Hold X ss t∧R t:=by
  obtain ⟨t,h1,h2⟩:=h
  exact ⟨t,h1,k t h2⟩
end
end L2
namespace L2
open PySem PySem.Spec PyProof.Rows
section
variable {X:Cx}
noncomputable def noFlt:V→Bool
  | .flt _=>false
  | .byt _=>false
  | _=>true
noncomputable def rSam (K:PySem.W.Frag) (neg:Bool):R2:=fun x y H Q=>∃ a b xs ys,x=.ref a∧y=.ref b∧SqL K H a xs∧SqL K H b ys∧((xs=ys∧(∀ v∈xs,noFlt v=true)∧Q (.bl (!neg)) H)∨(xs.length≠ys.length∧Q (.bl neg) H))
theorem eqAt_rel {A:Around} {s:Shared} {v:V} {u u':Value} (h:noFlt v=true) (r:RelV v u) (r':RelV v u'):PySem.SeqAt.EqAt A s u u' true:=by
  cases v with
  | non=>cases (show u=Value.none from r);cases (show u'=Value.none from r');exact PySem.SeqAt.EqAt.same _
  | bl b=>cases (show u=Value.bool b from r);cases (show u'=Value.bool b from r');exact PySem.SeqAt.EqAt.same _
  | int i =>
    obtain ⟨t,rfl⟩:=(show ∃ t,u=Value.int i t from r)
    obtain ⟨t',rfl⟩:=(show ∃ t,u'=Value.int i t from r')
    have:=PySem.SeqAt.EqAt.int_int (A:=A) (s:=s) i t i t'
    rwa [beq_self_eq_true] at this
  | str x =>
    obtain ⟨t,rfl⟩:=(show ∃ t,u=Value.str x t from r)
    obtain ⟨t',rfl⟩:=(show ∃ t,u'=Value.str x t from r')
    have:=PySem.SeqAt.EqAt.str_str (A:=A) (s:=s) x t x t'
    rwa [beq_self_eq_true] at this
  | byt b=>cases h
  | flt b=>cases h
  | ref a=>cases (show u=Value.ref a from r);cases (show u'=Value.ref a from r');exact PySem.SeqAt.EqAt.same _
  | ty n=>cases (show u=Value.type n from r);cases (show u'=Value.type n from r');exact PySem.SeqAt.EqAt.same _
theorem sam_items {A:Around} {s:Shared} {xs:List V} {us ws:List Value} (h:∀ v∈xs,noFlt v=true) (r:Vals xs us) (r':Vals xs ws):∀ j (h1:j < us.toArray.size) (h2:j < ws.toArray.size),PySem.SeqAt.EqAt A s us.toArray[j] ws.toArray[j] true:=by
  intro j h1 h2
  have l1:=r.length
  have h1':j < us.length:=by simpa using h1
  have hj:j < xs.length:=by omega
  obtain ⟨u,e1,e2⟩:=r.get (List.getElem?_eq_getElem hj)
  obtain ⟨u',e3,e4⟩:=r'.get (List.getElem?_eq_getElem hj)
  have e5:us.toArray[j]=u:=by
    obtain ⟨_,z⟩:=List.getElem?_eq_some_iff.mp e1
    simpa using z
  have e6:ws.toArray[j]=u':=by
    obtain ⟨_,z⟩:=List.getElem?_eq_some_iff.mp e3
    simpa using z
  rw [e5,e6]
  exact eqAt_rel (h _ (List.getElem_mem hj)) e2 e4
theorem all_true (n:Nat):(List.range n).all (fun _=>true)=true:=by
  rw [List.all_eq_true]
  exact fun _ _=>rfl
theorem op_samEq (hu:X.A.units+64 < cLine):OpR X (compareOp .Eq) (rSam X.K false):=by
  intro pins s σ H x y v u Q I rx ry h
  obtain ⟨a,b,xs,ys,rfl,rfl,ha,hb,q⟩:=h
  cases (show v=Value.ref a from rx)
  cases (show u=Value.ref b from ry)
  obtain ⟨us,ru,⟨o,n,ho,hc,_,hd⟩,_⟩:=I.list ha
  obtain ⟨ws,rw_,⟨o',n',ho',hc',_,hd'⟩,_⟩:=I.list hb
  have l1:s.heap.IsList a us.toArray:=⟨o,ho,hc,n,hd⟩
  have l2:s.heap.IsList b ws.toArray:=⟨o',ho',hc',n',hd'⟩
  have n1:=ru.length
  have n2:=rw_.length
  rcases q with ⟨rfl,hv,q⟩ | ⟨ne,q⟩
  · have z:=PySem.SeqAt.RcAt.lists (A:=X.A) (s:=s) (e:=fun _=>true) l1 l2 (by simp;omega) (by omega) (sam_items hv ru rw_)
    rw [all_true] at z
    exact z _ _ _ _ ⟨.bl true,H,I,rfl,q⟩
  · have z:=PySem.SeqAt.RcAt.lists_lengths (A:=X.A) (s:=s) l1 l2 (by simp;omega) (by omega)
    exact z _ _ _ _ ⟨.bl false,H,I,rfl,q⟩
theorem op_samNe (hu:X.A.units+64 < cLine):OpR X (compareOp .NotEq) (rSam X.K true):=by
  intro pins s σ H x y v u Q I rx ry h
  obtain ⟨a,b,xs,ys,rfl,rfl,ha,hb,q⟩:=h
  cases (show v=Value.ref a from rx)
  cases (show u=Value.ref b from ry)
  obtain ⟨us,ru,⟨o,n,ho,hc,_,hd⟩,_⟩:=I.list ha
  obtain ⟨ws,rw_,⟨o',n',ho',hc',_,hd'⟩,_⟩:=I.list hb
  have l1:s.heap.IsList a us.toArray:=⟨o,ho,hc,n,hd⟩
  have l2:s.heap.IsList b ws.toArray:=⟨o',ho',hc',n',hd'⟩
  have n1:=ru.length
  have n2:=rw_.length
  rcases q with ⟨rfl,hv,q⟩ | ⟨ne,q⟩
  · have z:=PySem.SeqAt.RcNeAt.lists (A:=X.A) (s:=s) (e:=fun _=>true) l1 l2 (by simp;omega) (by omega) (sam_items hv ru rw_)
    rw [all_true] at z
    exact z _ _ _ _ ⟨.bl false,H,I,rfl,q⟩
  · have z:=PySem.SeqAt.RcNeAt.lists_lengths (A:=X.A) (s:=s) l1 l2 (by simp;omega) (by omega)
    exact z _ _ _ _ ⟨.bl true,H,I,rfl,q⟩
end
end L2
namespace L2
open PySem PySem.Spec PyProof.Rows
end L2
namespace Mine
open PySem L2
theorem comp_range {wi:TI} {te:TE} {js:List Nat} {σ:St} {H0:Hp} {Q:VK} {lo:Int} {n:Nat} (Src:Hp→Prop) (hwi:∀ R:It→Hp→Prop,(∀ H,Src H→R (Itr lo n) H)→wi σ H0 R) (hx:n≤1000)
    (Pv:Addr→Nat→List V→Hp→Prop) (h0:∀ H D,Src H→H D=none→Pv D 0 [] (upd H D (.lst [])))
    (hs:∀ D i ys H',i < n→H' D=some (.lst ys)→Pv D i ys H'→∀ N:VK,(∀ y H'',H'' D=some (.lst ys)→Pv D (i+1) (ys++[y]) (upd H'' D (.lst (ys++[y])))→N y H'')→te (some (.int (lo+i))::cVals js σ) H' N)
    (hd:∀ D ys H',H' D=some (.lst ys)→Pv D n ys H'→Q (.ref D) H'):tComp wi tNoIf te js σ H0 Q:=by
  refine hwi _ fun H src=>?_
  intro D hD
  refine ⟨fun i m H'=>m=n - i∧i≤n∧∃ ys,ys.length=i∧H' D=some (.lst ys)∧Pv D i ys H',⟨n,rfl,Nat.zero_le _,[],rfl,upd_same,h0 H D src hD⟩,?_⟩
  rintro i m H2 ⟨rfl,hi,ys,hy,eD,p⟩
  by_cases hlt:i < n
  · refine .inr ⟨hlt,fun v H3 y=>?_⟩
    obtain ⟨eh,ev⟩:=y
    subst eh ev
    refine tNoIf_go ?_
    refine hs D i ys _ hlt eD p _ fun y H5 z2 z3=>?_
    exact ⟨ys,z2,Nat.lt_of_le_of_lt (show ys.length≤1000 by omega) (by decide),n - (i+1),by omega,rfl,hlt,ys++[y],by rw [List.length_append,hy];rfl,upd_same,z3⟩
  · have ei:i=n:=by omega
    subst ei
    exact .inl ⟨Nat.le_refl _,hd D ys H2 eD p⟩
theorem All2.mem {α:Type} {R R':V→α→Prop} {us:List V} {ts:List α} (h:All2 R us ts) (k:∀ v∈us,∀ t,R v t→R' v t):All2 R' us ts:=by
  induction h with
  | nil=>exact .nil
  | cons r _ ih=>exact .cons (k _ List.mem_cons_self _ r) (ih fun v hv=>k v (List.mem_cons_of_mem _ hv))
theorem comp_rangeM {wi:TI} {te:TE} {js:List Nat} {σ:St} {H:Hp} {Q:VK} {lo:Int} {n:Nat} (R:Hp→V→Nat→Prop) (hR:∀ D H H' v i,SB (.ref D) H H'→v≠.ref D→R H v i→R H' v i) (Src:Hp→Prop) (hwi:∀ R:It→Hp→Prop,(∀ H,Src H→R (Itr lo n) H)→wi σ H R) (hsrc:∀ H',Src H'→Same H H') (hx:n≤1000)
    (hs:∀ i H' (N:VK),i < n→Same H H'→(∀ v H'',Same H' H''→(∀ a,v=.ref a→H' a=none)→R H'' v i→N v H'')→te (some (.int (lo+i))::cVals js σ) H' N)
    (hd:∀ D ys H',Same H H'→H D=none→H' D=some (.lst ys)→All2 (R H') ys (List.range n)→Q (.ref D) H'):tComp wi tNoIf te js σ H Q:=by
  refine comp_range Src hwi hx (fun D i ys H'=>H D=none∧Same H H'∧(∀ v∈ys,v≠.ref D)∧All2 (R H') ys (List.range i)) (fun H' D src hD=>⟨(hsrc H' src).free hD,(hsrc H' src).trans (same_new hD _),(fun _ z=>nomatch z),.nil⟩) (fun D i ys H' hi eD h N hN=>?_) (fun D ys H' eD h=>hd D ys H' h.2.1 h.1 eD h.2.2.2)
  obtain ⟨hD,sm,nD,al⟩:=h
  refine hs i H' N hi sm fun v H'' s2 fr r=>?_
  have eD2:=s2 _ _ eD
  have nv:v≠.ref D:=fun z=>by have:=fr D z;rw [eD] at this;cases this
  have sb1:SB (.ref D) H' (upd H'' D (.lst (ys++[v]))):=(SB.of s2).trans (sb_upd _ _)
  refine hN v H'' eD2 ⟨hD,same_mut (sm.trans s2) hD _,fun u hu=>?_,?_⟩
  · rcases List.mem_append.mp hu with hu | hu
    · exact nD u hu
    · rw [List.mem_singleton.mp hu];exact nv
  · rw [List.range_succ]
    exact (al.mem fun u hu t ru=>hR D _ _ _ _ sb1 (nD u hu) ru).app (.cons (hR D _ _ _ _ (sb_upd _ _) nv r) .nil)
end Mine
namespace L2
open PySem
theorem small9000 {n:Nat} (h:n≤9000):n < sizeLine:=Nat.lt_of_le_of_lt h (by decide)
end L2
namespace Mine
open PySem L2
noncomputable def top (i:Nat):Stmt:=PySem.Challenge.pw_leansay_k32_whole_built_lines_back.main.body.getD i (.Pass ⟨0,0,0,0⟩)
noncomputable abbrev s_common_factor:Stmt:=top 7
noncomputable abbrev n_common_factor:List Str:=["one","other","greater","lesser","rest"]
theorem sc_common_factor:FnScope n_common_factor ["one","other"] (defScope s_common_factor):=⟨rfl,rfl,rfl,by decide +kernel,rfl,by decide +kernel,by decide +kernel⟩
noncomputable abbrev s_fraction:Stmt:=top 8
noncomputable abbrev n_fraction:List Str:=["top","bottom","factor"]
theorem sc_fraction:FnScope n_fraction ["top","bottom"] (defScope s_fraction):=⟨rfl,rfl,rfl,by decide +kernel,rfl,by decide +kernel,by decide +kernel⟩
noncomputable abbrev s_less:Stmt:=top 9
noncomputable abbrev n_less:List Str:=["one","other"]
theorem sc_less:FnScope n_less ["one","other"] (defScope s_less):=⟨rfl,rfl,rfl,by decide +kernel,rfl,by decide +kernel,by decide +kernel⟩
noncomputable abbrev s_is_outside:Stmt:=top 13
noncomputable abbrev n_is_outside:List Str:=["x"]
theorem sc_is_outside:FnScope n_is_outside ["x"] (defScope s_is_outside):=⟨rfl,rfl,rfl,by decide +kernel,rfl,by decide +kernel,by decide +kernel⟩
noncomputable abbrev s_told_by_stretch:Stmt:=top 14
noncomputable abbrev n_told_by_stretch:List Str:=["stretch","x"]
theorem sc_told_by_stretch:FnScope n_told_by_stretch ["stretch","x"] (defScope s_told_by_stretch):=⟨rfl,rfl,rfl,by decide +kernel,rfl,by decide +kernel,by decide +kernel⟩
noncomputable abbrev s_joined:Stmt:=top 15
noncomputable abbrev n_joined:List Str:=["stretches","line","stretch"]
theorem sc_joined:FnScope n_joined ["stretches"] (defScope s_joined):=⟨rfl,rfl,rfl,by decide +kernel,rfl,by decide +kernel,by decide +kernel⟩
noncomputable abbrev s_put_steeper:Stmt:=top 18
noncomputable abbrev n_put_steeper:List Str:=["rows","places","letter","steeper","k"]
theorem sc_put_steeper:FnScope n_put_steeper ["rows","places","letter"] (defScope s_put_steeper):=⟨rfl,rfl,rfl,by decide +kernel,rfl,by decide +kernel,by decide +kernel⟩
noncomputable abbrev s_flat_rows:Stmt:=top 19
noncomputable abbrev n_flat_rows:List Str:=["height"]
theorem sc_flat_rows:FnScope n_flat_rows ["height"] (defScope s_flat_rows):=⟨rfl,rfl,rfl,by decide +kernel,rfl,by decide +kernel,by decide +kernel⟩
noncomputable abbrev s_straight_rows:Stmt:=top 20
noncomputable abbrev n_straight_rows:List Str:=["slope","height","rows","lowest","letter","places"]
theorem sc_straight_rows:FnScope n_straight_rows ["slope","height"] (defScope s_straight_rows):=⟨rfl,rfl,rfl,by decide +kernel,rfl,by decide +kernel,by decide +kernel⟩
noncomputable abbrev s_is_out:Stmt:=top 24
noncomputable abbrev n_is_out:List Str:=["stretch","start"]
theorem sc_is_out:FnScope n_is_out ["stretch","start"] (defScope s_is_out):=⟨rfl,rfl,rfl,by decide +kernel,rfl,by decide +kernel,by decide +kernel⟩
noncomputable abbrev s_must_stay:Stmt:=top 25
noncomputable abbrev n_must_stay:List Str:=["line","start","k","stretch"]
theorem sc_must_stay:FnScope n_must_stay ["line"] (defScope s_must_stay):=⟨rfl,rfl,rfl,by decide +kernel,rfl,by decide +kernel,by decide +kernel⟩
noncomputable abbrev s_must_lead_back:Stmt:=top 26
noncomputable abbrev n_must_lead_back:List Str:=["line","k","stretch"]
theorem sc_must_lead_back:FnScope n_must_lead_back ["line"] (defScope s_must_lead_back):=⟨rfl,rfl,rfl,by decide +kernel,rfl,by decide +kernel,by decide +kernel⟩
noncomputable abbrev s_moved:Stmt:=top 27
noncomputable abbrev n_moved:List Str:=["row","by"]
theorem sc_moved:FnScope n_moved ["row","by"] (defScope s_moved):=⟨rfl,rfl,rfl,by decide +kernel,rfl,by decide +kernel,by decide +kernel⟩
noncomputable abbrev s_put_straights:Stmt:=top 28
noncomputable abbrev n_put_straights:List Str:=["rows","line","place_of","stretch","rule","by"]
theorem sc_put_straights:FnScope n_put_straights ["rows","line"] (defScope s_put_straights):=⟨rfl,rfl,rfl,by decide +kernel,rfl,by decide +kernel,by decide +kernel⟩
noncomputable abbrev s_put_folded:Stmt:=top 29
noncomputable abbrev n_put_folded:List Str:=["rows","word","places","folded","place"]
theorem sc_put_folded:FnScope n_put_folded ["rows","word","places"] (defScope s_put_folded):=⟨rfl,rfl,rfl,by decide +kernel,rfl,by decide +kernel,by decide +kernel⟩
noncomputable abbrev s_is_below_at:Stmt:=top 30
noncomputable abbrev n_is_below_at:List Str:=["rule","stretch","x"]
theorem sc_is_below_at:FnScope n_is_below_at ["rule","stretch","x"] (defScope s_is_below_at):=⟨rfl,rfl,rfl,by decide +kernel,rfl,by decide +kernel,by decide +kernel⟩
noncomputable abbrev s_is_below:Stmt:=top 31
noncomputable abbrev n_is_below:List Str:=["rule","stretch","start"]
theorem sc_is_below:FnScope n_is_below ["rule","stretch","start"] (defScope s_is_below):=⟨rfl,rfl,rfl,by decide +kernel,rfl,by decide +kernel,by decide +kernel⟩
noncomputable abbrev s_rows_of_line:Stmt:=top 32
noncomputable abbrev n_rows_of_line:List Str:=["line","rows","place_of","lessers","start","stretch","places"]
theorem sc_rows_of_line:FnScope n_rows_of_line ["line"] (defScope s_rows_of_line):=⟨rfl,rfl,rfl,by decide +kernel,rfl,by decide +kernel,by decide +kernel⟩
noncomputable abbrev s_straight:Stmt:=top 34
noncomputable abbrev n_straight:List Str:=["slope","height"]
theorem sc_straight:FnScope n_straight ["slope","height"] (defScope s_straight):=⟨rfl,rfl,rfl,by decide +kernel,rfl,by decide +kernel,by decide +kernel⟩
noncomputable abbrev s_side_by_side:Stmt:=top 35
noncomputable abbrev n_side_by_side:List Str:=["one","other","pieces","i","j","end"]
theorem sc_side_by_side:FnScope n_side_by_side ["one","other"] (defScope s_side_by_side):=⟨rfl,rfl,rfl,by decide +kernel,rfl,by decide +kernel,by decide +kernel⟩
noncomputable abbrev s_added:Stmt:=top 36
noncomputable abbrev n_added:List Str:=["one","other","pieces"]
theorem sc_added:FnScope n_added ["one","other"] (defScope s_added):=⟨rfl,rfl,rfl,by decide +kernel,rfl,by decide +kernel,by decide +kernel⟩
noncomputable abbrev s_turned:Stmt:=top 37
noncomputable abbrev n_turned:List Str:=["line"]
theorem sc_turned:FnScope n_turned ["line"] (defScope s_turned):=⟨rfl,rfl,rfl,by decide +kernel,rfl,by decide +kernel,by decide +kernel⟩
noncomputable abbrev s_raised:Stmt:=top 38
noncomputable abbrev n_raised:List Str:=["line","by"]
theorem sc_raised:FnScope n_raised ["line","by"] (defScope s_raised):=⟨rfl,rfl,rfl,by decide +kernel,rfl,by decide +kernel,by decide +kernel⟩
noncomputable abbrev s_greater_stretches:Stmt:=top 39
noncomputable abbrev n_greater_stretches:List Str:=["start","end","first","second","slope","height","at_start","at_end","greater_at_start","greater_at_end","meeting"]
theorem sc_greater_stretches:FnScope n_greater_stretches ["start","end","first","second"] (defScope s_greater_stretches):=⟨rfl,rfl,rfl,by decide +kernel,rfl,by decide +kernel,by decide +kernel⟩
noncomputable abbrev s_greater_line:Stmt:=top 40
noncomputable abbrev n_greater_line:List Str:=["one","other","stretches","start","end","first","second"]
theorem sc_greater_line:FnScope n_greater_line ["one","other"] (defScope s_greater_line):=⟨rfl,rfl,rfl,by decide +kernel,rfl,by decide +kernel,by decide +kernel⟩
noncomputable abbrev s_lesser_line:Stmt:=top 41
noncomputable abbrev n_lesser_line:List Str:=["one","other"]
theorem sc_lesser_line:FnScope n_lesser_line ["one","other"] (defScope s_lesser_line):=⟨rfl,rfl,rfl,by decide +kernel,rfl,by decide +kernel,by decide +kernel⟩
noncomputable abbrev s_cut_off:Stmt:=top 42
noncomputable abbrev n_cut_off:List Str:=["line"]
theorem sc_cut_off:FnScope n_cut_off ["line"] (defScope s_cut_off):=⟨rfl,rfl,rfl,by decide +kernel,rfl,by decide +kernel,by decide +kernel⟩
noncomputable abbrev s_is_whole:Stmt:=top 44
noncomputable abbrev n_is_whole:List Str:=["thing"]
theorem sc_is_whole:FnScope n_is_whole ["thing"] (defScope s_is_whole):=⟨rfl,rfl,rfl,by decide +kernel,rfl,by decide +kernel,by decide +kernel⟩
noncomputable abbrev s_how_many_it_takes:Stmt:=top 47
noncomputable abbrev s_is_place_ahead:Stmt:=top 50
noncomputable abbrev s_is_row:Stmt:=top 51
noncomputable abbrev s_rows_fault:Stmt:=top 52
noncomputable abbrev s_must_be_rows:Stmt:=top 53
noncomputable abbrev s_leaf_line:Stmt:=top 55
noncomputable abbrev n_leaf_line:List Str:=["word"]
theorem sc_leaf_line:FnScope n_leaf_line ["word"] (defScope s_leaf_line):=⟨rfl,rfl,rfl,by decide +kernel,rfl,by decide +kernel,by decide +kernel⟩
noncomputable abbrev s_fold_line:Stmt:=top 56
noncomputable abbrev n_fold_line:List Str:=["word","one","other"]
theorem sc_fold_line:FnScope n_fold_line ["word","one","other"] (defScope s_fold_line):=⟨rfl,rfl,rfl,by decide +kernel,rfl,by decide +kernel,by decide +kernel⟩
noncomputable abbrev s_row_line:Stmt:=top 57
noncomputable abbrev n_row_line:List Str:=["row","lines"]
theorem sc_row_line:FnScope n_row_line ["row","lines"] (defScope s_row_line):=⟨rfl,rfl,rfl,by decide +kernel,rfl,by decide +kernel,by decide +kernel⟩
noncomputable abbrev s_last_line:Stmt:=top 58
noncomputable abbrev n_last_line:List Str:=["rows","lines","row"]
theorem sc_last_line:FnScope n_last_line ["rows"] (defScope s_last_line):=⟨rfl,rfl,rfl,by decide +kernel,rfl,by decide +kernel,by decide +kernel⟩
noncomputable abbrev s_must_be_without_q:Stmt:=top 59
noncomputable abbrev n_must_be_without_q:List Str:=["rows"]
theorem sc_must_be_without_q:FnScope n_must_be_without_q ["rows"] (defScope s_must_be_without_q):=⟨rfl,rfl,rfl,by decide +kernel,rfl,by decide +kernel,by decide +kernel⟩
noncomputable abbrev s_line_of_rows:Stmt:=top 60
noncomputable abbrev n_line_of_rows:List Str:=["rows"]
theorem sc_line_of_rows:FnScope n_line_of_rows ["rows"] (defScope s_line_of_rows):=⟨rfl,rfl,rfl,by decide +kernel,rfl,by decide +kernel,by decide +kernel⟩
noncomputable abbrev s_l_cell:Stmt:=top 62
noncomputable abbrev s_l_whole:Stmt:=top 63
noncomputable abbrev n_l_whole:List Str:=["_law_found"]
theorem sc_l_whole:FnScope n_l_whole ["_law_found"] (defScope s_l_whole):=⟨rfl,rfl,rfl,by decide +kernel,rfl,by decide +kernel,by decide +kernel⟩
noncomputable abbrev s_l_row:Stmt:=top 64
noncomputable abbrev n_l_row:List Str:=["_law_thing","_law_at","_law_words"]
theorem sc_l_row:FnScope n_l_row ["_law_thing","_law_at"] (defScope s_l_row):=⟨rfl,rfl,rfl,by decide +kernel,rfl,by decide +kernel,by decide +kernel⟩
noncomputable abbrev s_l_fault:Stmt:=top 65
noncomputable abbrev n_l_fault:List Str:=["_law_things","_law_at"]
theorem sc_l_fault:FnScope n_l_fault ["_law_things"] (defScope s_l_fault):=⟨rfl,rfl,rfl,by decide +kernel,rfl,by decide +kernel,by decide +kernel⟩
noncomputable abbrev s_l_fold:Stmt:=top 66
noncomputable abbrev s_l_worth:Stmt:=top 67
noncomputable abbrev s_l_lowest:Stmt:=top 68
noncomputable abbrev n_l_lowest:List Str:=["_law_top","_law_bottom","_law_one","_law_other"]
theorem sc_l_lowest:FnScope n_l_lowest ["_law_top","_law_bottom"] (defScope s_l_lowest):=⟨rfl,rfl,rfl,by decide +kernel,rfl,by decide +kernel,by decide +kernel⟩
noncomputable abbrev s_l_meet:Stmt:=top 69
noncomputable abbrev n_l_meet:List Str:=["_law_rule","_law_other","_law_top","_law_bottom"]
theorem sc_l_meet:FnScope n_l_meet ["_law_rule","_law_other"] (defScope s_l_meet):=⟨rfl,rfl,rfl,by decide +kernel,rfl,by decide +kernel,by decide +kernel⟩
noncomputable abbrev s_l_inward:Stmt:=top 70
noncomputable abbrev n_l_inward:List Str:=["_law_rule","_law_end","_law_other","_law_here"]
theorem sc_l_inward:FnScope n_l_inward ["_law_rule","_law_end","_law_other"] (defScope s_l_inward):=⟨rfl,rfl,rfl,by decide +kernel,rfl,by decide +kernel,by decide +kernel⟩
noncomputable abbrev s_l_ways:Stmt:=top 71
noncomputable abbrev n_l_ways:List Str:=["_law_rule","_law_begin","_law_steep","_law_found","_law_slope","_law_height_here","_law_end","_law_inside"]
theorem sc_l_ways:FnScope n_l_ways ["_law_rule","_law_begin","_law_steep"] (defScope s_l_ways):=⟨rfl,rfl,rfl,by decide +kernel,rfl,by decide +kernel,by decide +kernel⟩
noncomputable abbrev s_l_way_out:Stmt:=top 72
noncomputable abbrev n_l_way_out:List Str:=["_law_rule","_law_slope","_law_height_here"]
theorem sc_l_way_out:FnScope n_l_way_out ["_law_rule"] (defScope s_l_way_out):=⟨rfl,rfl,rfl,by decide +kernel,rfl,by decide +kernel,by decide +kernel⟩
noncomputable abbrev s_l_built:Stmt:=top 73
noncomputable abbrev n_l_built:List Str:=["_law_script","_law_at","_law_turns","_law_steep","_law_cell_here","_law_rule","_law_line","_law_begin","_law_k","_law_some","_law_other","_law_last"]
theorem sc_l_built:FnScope n_l_built ["_law_script","_law_at","_law_turns","_law_steep"] (defScope s_l_built):=⟨rfl,rfl,rfl,by decide +kernel,rfl,by decide +kernel,by decide +kernel⟩
noncomputable abbrev s_l_height:Stmt:=top 74
noncomputable abbrev n_l_height:List Str:=["_law_line","_law_n","_law_x","_law_end","_law_slope","_law_height_here"]
theorem sc_l_height:FnScope n_l_height ["_law_line","_law_n","_law_x"] (defScope s_l_height):=⟨rfl,rfl,rfl,by decide +kernel,rfl,by decide +kernel,by decide +kernel⟩
noncomputable abbrev s_l_rows_right:Stmt:=top 75
noncomputable abbrev n_l_rows_right:List Str:=["_law_rows","_law_line","_law_n","_law_x"]
theorem sc_l_rows_right:FnScope n_l_rows_right ["_law_rows","_law_line"] (defScope s_l_rows_right):=⟨rfl,rfl,rfl,by decide +kernel,rfl,by decide +kernel,by decide +kernel⟩
noncomputable abbrev s_law:Stmt:=top 76
noncomputable abbrev n_law:List Str:=["_law_script","_law_line","_law_rows"]
theorem sc_law:FnScope n_law ["_law_script"] (defScope s_law):=⟨rfl,rfl,rfl,by decide +kernel,rfl,by decide +kernel,by decide +kernel⟩
end Mine
namespace Mine
open PySem
noncomputable abbrev sFoldF:Stmt:=s_l_fold
end Mine
namespace Mine
open PySem L2
local macro_rules | `(tactic| walk_at "mul") => `(tactic| first | exact mulS (by assumption) (by assumption) | exact mulS (by first | assumption | exact sm_of (by omega) | exact sm_of (by decide) | exact sm_mod (by decide) (by decide)) (by first | assumption | exact sm_of (by omega) | exact sm_of (by decide) | exact sm_mod (by decide) (by decide)))
local macro_rules | `(tactic| walk_at "rd1") => `(tactic| first
  | refine ⟨_,rfl,?_⟩
  | refine ⟨_,_,rfl,rfl,?_⟩
  | (refine' ⟨_,_,_,_,rfl,rfl,?sq,?ia,?k⟩;(case' sq=>first | assumption | exact Scr.l (by assumption));(case' ia=>rfl))
  | refine ⟨rfl,?_⟩
  | (refine ⟨?m,?_⟩;(case' m=>walk_at "mul"))
  | (refine ⟨?m,?_⟩;(case' m=>show (0:Int) < _;decide))
  | (refine ⟨?m,?_⟩;(case' m=>exact ⟨by decide,by decide⟩))
  | (refine ⟨?m,?_⟩;(case' m=>exact ⟨by decide,by decide,by decide⟩)))
local macro_rules | `(tactic| walk_at "rd") => `(tactic| repeat walk_at "rd1")
noncomputable def spFactor:Sp:=fun vs H Q _=>∃ a b:Int,vs=[.int a,.int b]∧Q (.int (Lo.gc a b)) H
noncomputable def spLow:Sp:=fun vs H Q _=>∃ t b:Int,vs=[.int t,.int b]∧b≠0∧Sm b∧∀ a H',Same H H'→H' a=some (.tup [.int (Lo.lowT t b),.int (Lo.lowB t b)])→Q (.ref a) H'
noncomputable def spLess (K:PySem.W.Frag):Sp:=fun vs H Q _=>∃(x y:V) (p q r s:Int),vs=[x,y]∧Dat K H (frD p q) x∧Dat K H (frD r s) y∧Sm p∧Sm q∧Sm r∧Sm s∧Q (.bl (decide (p*s < r*q))) H
section
variable {P:Program} {w:World} {K:PySem.W.Frag} {mg:Str→Option Value} {base:Heap}
theorem ok_factor (T:TopDef K mg "common_factor" s_common_factor) (Z_abs:mg "abs"=none):Def P w K mg base 1 "common_factor" ["one","other"] spFactor:=by
  refine def_of T sc_common_factor (fun _ _ _ _ _ _ us hl=>match us,hl with | [_,_],_=>rfl) (fun vs H Q E h=>?_) (fun f cdv A outer s H vs Q E hr h=>?_)
  · obtain ⟨a,b,rfl,_⟩:=h
    rfl
  obtain ⟨a,b,rfl,q⟩:=h
  have nd:=sc_common_factor.nd
  refine ⟨_,(pss_cons (ps_set (i:=2) nd rfl (Or.inl rfl) (pe_callB call_abs rfl Z_abs (by decide +kernel) (pa_cons (pv 0) pa_nil)))
    (pss_cons (ps_set (i:=3) nd rfl (Or.inl rfl) (pe_callB call_abs rfl Z_abs (by decide +kernel) (pa_cons (pv 1) pa_nil)))
    (pss_cons (ps_while PassesOwn.never (pt_cmpR op_ne (pv 3) pe_int (nomark _)) (pss_cons (ps_set (i:=4) nd rfl (Or.inl rfl) (pe_op op_modN (pv 2) (pv 3)))
    (pss_cons (ps_set (i:=2) nd rfl (Or.inl rfl) (pv 3))
    (pss_one (ps_set (i:=3) nd rfl (Or.inl rfl) (pv 4))))))
    (pss_one (ps_ret (pv 2)))))),?_⟩
  refine ⟨_,rfl,_,rfl,_,rfl,_,rfl,?_⟩
  rw [abs_is,abs_is]
  refine ⟨fun m σ H'=>H'=H∧∃(g l:Int) (o:Option V),σ=[some (.int a),some (.int b),some (.int g),some (.int l),o]∧0≤g∧0≤l∧l.toNat=m∧Lo.gc g l=Lo.gc a b,⟨_,rfl,_,_,_,rfl,by omega,by omega,rfl,Lo.gc_natAbs a b⟩,?_⟩
  rintro m σ H' ⟨rfl,g,l,o,rfl,hg,hl,rfl,e⟩
  refine ⟨_,rfl,rfl,_,rfl,?_⟩
  refine ite2 (fun c=>?_) (fun c=>?_)
  · have c':l≠0:=fun z=>by
      rw [z,decide_eq_true (rfl:V.int 0=V.int 0)] at c
      cases c
    have c2:0 < l:=by omega
    refine ⟨fun σ' H''=>H''=H'∧σ'=[some (.int a),some (.int b),some (.int l),some (.int (g.fmod l)),some (.int (g.fmod l))],?_,?_⟩
    · rintro σ' H'' ⟨rfl,rfl⟩
      have z0:=Int.fmod_nonneg_of_pos g c2
      have z1:=Int.fmod_lt_of_pos g c2
      exact ⟨_,(show (g.fmod l).toNat < l.toNat by omega),rfl,l,g.fmod l,_,rfl,by omega,z0,rfl,by rw [Lo.gc_turn];exact e⟩
    · exact ⟨_,rfl,_,rfl,_,_,rfl,rfl,c',_,rfl,_,rfl,rfl,rfl⟩
  · have l0:l=0:=by
      by_cases z:l=0
      · exact z
      · exfalso
        refine c ?_
        have n:¬ (V.int l=V.int 0):=fun q=>z (V.int.inj q)
        rw [decide_eq_false n]
        rfl
    subst l0
    rw [Lo.gc_zero hg] at e
    subst e
    exact ⟨_,rfl,q⟩
theorem ok_fraction (T:TopDef K mg "fraction" s_fraction) (D_common_factor:Def P w K mg base 1 "common_factor" ["one","other"] spFactor):Def P w K mg base 2 "fraction" ["top","bottom"] spLow:=by
  refine def_of T sc_fraction (fun _ _ _ _ _ _ us hl=>match us,hl with | [_,_],_=>rfl) (fun vs H Q E h=>?_) (fun f cdv A outer s H vs Q E hr h=>?_)
  · obtain ⟨t,b,rfl,_⟩:=h
    rfl
  obtain ⟨t,b,rfl,hb,hs,q⟩:=h
  have nd:=sc_fraction.nd
  refine ⟨_,(pss_cons (ps_if (pt_cmpR op_eq (pv 1) pe_int (nomark _)) (pss_one ps_never) pss_nil)
    (pss_cons (ps_set (i:=2) nd rfl (Or.inl rfl) (pe_def D_common_factor (hr.mono (by decide)) rfl (pa_cons (pv 0) (pa_cons (pv 1) pa_nil))))
    (pss_cons (ps_if (pt_cmpR op_lt (pv 1) pe_int (nomark _)) (pss_one (ps_set (i:=2) nd rfl (Or.inl rfl) (pe_un un_neg (pv 2)))) pss_nil)
    (pss_one (ps_ret (pe_tup (pa_cons (pe_op op_fdivK (pv 0) (pv 2)) (pa_cons (pe_op op_fdivK (pv 1) (pv 2)) pa_nil)))))))),?_⟩
  refine ⟨_,rfl,rfl,_,rfl,?_⟩
  refine ite2 (fun c=>absurd (V.int.inj (of_decide_eq_true c)) hb) (fun c=>?_)
  have hg2:Sm (Lo.sg t b):=Nat.lt_of_le_of_lt (Lo.sg_le hb) hs
  refine ⟨_,rfl,_,rfl,t,b,rfl,?_⟩
  refine ⟨_,rfl,_,_,rfl,rfl,_,rfl,?_⟩
  refine ite2 (fun c=>?_) (fun c=>?_)
  · have c2:b < 0:=of_decide_eq_true c
    have es:-(Lo.gc t b)=Lo.sg t b:=by unfold Lo.sg;rw [if_pos c2]
    refine ⟨_,rfl,_,rfl,_,rfl,_,rfl,_,_,rfl,rfl,(by rw [es];exact div_ok (Lo.sg_ne hb) hg2),_,rfl,_,rfl,_,_,rfl,rfl,(by rw [es];exact div_ok (Lo.sg_ne hb) hg2),(by show 2≤sizeLine;decide),fun p hp=>?_⟩
    rw [es]
    exact q p _ (same_new hp _) upd_same
  · have c2:¬b < 0:=fun z=>c (decide_eq_true z)
    have es:Lo.gc t b=Lo.sg t b:=by unfold Lo.sg;rw [if_neg c2]
    refine ⟨_,rfl,_,rfl,_,_,rfl,rfl,(by rw [es];exact div_ok (Lo.sg_ne hb) hg2),_,rfl,_,rfl,_,_,rfl,rfl,(by rw [es];exact div_ok (Lo.sg_ne hb) hg2),(by show 2≤sizeLine;decide),fun p hp=>?_⟩
    rw [es]
    exact q p _ (same_new hp _) upd_same
theorem ok_less (T:TopDef K mg "less" s_less):Def P w K mg base 1 "less" ["one","other"] (spLess K):=by
  refine def_of T sc_less (fun _ _ _ _ _ _ us hl=>match us,hl with | [_,_],_=>rfl) (fun vs H Q E h=>?_) (fun f cdv A outer s H vs Q E hr h=>?_)
  · obtain ⟨x,y,p,q,r,s,rfl,_⟩:=h
    rfl
  obtain ⟨x,y,p,q,r,s,rfl,hx,hy,b1,b2,b3,b4,k⟩:=h
  obtain ⟨a,rfl,sa⟩:=fr_el hx
  obtain ⟨c,rfl,sc⟩:=fr_el hy
  have nd:=sc_less.nd
  refine ⟨_,(pss_one (ps_ret (pe_cmpR op_lt (pe_op op_mulK (pe_ix ix_tup (pv 0) pe_int (fun _ _=>rfl)) (pe_ix ix_tup (pv 1) pe_int (fun _ _=>rfl))) (pe_op op_mulK (pe_ix ix_tup (pv 1) pe_int (fun _ _=>rfl)) (pe_ix ix_tup (pv 0) pe_int (fun _ _=>rfl))) (nomark _)))),?_⟩
  walk_at "rd"
  exact k
end
end Mine
namespace Mine
open PySem L2
local macro_rules | `(tactic| walk_at "mul") => `(tactic| first | exact mulS (by assumption) (by assumption) | exact mulS (by first | assumption | exact sm_of (by omega) | exact sm_of (by decide) | exact sm_mod (by decide) (by decide)) (by first | assumption | exact sm_of (by omega) | exact sm_of (by decide) | exact sm_mod (by decide) (by decide)))
local macro_rules | `(tactic| walk_at "rd1") => `(tactic| first
  | refine ⟨_,rfl,?_⟩
  | refine ⟨_,_,rfl,rfl,?_⟩
  | (refine' ⟨_,_,_,_,rfl,rfl,?sq,?ia,?k⟩;(case' sq=>first | assumption | exact Scr.l (by assumption));(case' ia=>first | rfl | assumption))
  | refine ⟨rfl,?_⟩
  | (refine ⟨?m,?_⟩;(case' m=>walk_at "mul"))
  | (refine ⟨?m,?_⟩;(case' m=>exact div_ok (by first | assumption | omega) (by assumption)))
  | (refine ⟨?m,?_⟩;(case' m=>show (0:Int) < _;decide))
  | (refine ⟨?m,?_⟩;(case' m=>exact ⟨by decide,by decide⟩))
  | (refine ⟨?m,?_⟩;(case' m=>exact ⟨by decide,by decide,by decide⟩)))
local macro_rules | `(tactic| walk_at "rd") => `(tactic| repeat walk_at "rd1")
theorem stb_sm {s:St4} (h:Ln.OkB 45 s):Sm s.p∧Sm s.q∧Sm s.m∧Sm s.h∧0 < s.q:=by
  obtain ⟨h1,h2,h3,h4,h5,h6⟩:=h
  exact ⟨sm_of (by omega),sm_of (by omega),sm_of (by omega),sm_of (by omega),by omega⟩
noncomputable def LnL (K:PySem.W.Frag) (H:Hp) (M:List St4) (v:V):Prop:=∃ l us,v=.ref l∧SqL K H l us∧DatAll K H (M.map stD) us
noncomputable def spJoined (K:PySem.W.Frag):Sp:=fun vs H Q _=>∃(x:V) (M:List St4),vs=[x]∧LnL K H M x∧M.length≤9000∧∀ v H',Same H H'→Dat K H' (lnD (Ln.jn M)) v→Q v H'
theorem at_last {xs:List V} {x:V} (h:xs.getLast?=some x):atI xs (-1)=some x:=by
  rw [List.getLast?_eq_getElem?] at h
  have hl:=(List.getElem?_eq_some_iff.mp h).1
  have e:ixN xs.length (-1)=some (xs.length - 1):=by
    unfold ixN
    rw [if_neg (by decide),if_pos (by omega)]
    congr 1
    omega
  show (ixN xs.length (-1)).bind (fun j=>xs[j]?)=some x
  rw [e]
  exact h
theorem cut1_ne (e m h:V):¬ (HT.sIx ([e,m,h]:List V).length 0 (some 1)=0∧HT.sIx ([e,m,h]:List V).length ([e,m,h]:List V).length none=([e,m,h]:List V).length):=by
  rintro ⟨z,_⟩
  exact absurd (show (1:Nat)=0 from z) (by decide)
theorem jn_len:∀(M:List St4) (A:List St4),(M.foldl Ln.jnStep A).length≤A.length+M.length
  | [],A=>by simp
  | s::r,A=>by
    have h:=jn_len r (Ln.jnStep A s)
    have h2:(Ln.jnStep A s).length≤A.length+1:=by
      unfold Ln.jnStep
      split
      · split
        · simp <;> omega
        · simp
      · simp
    simp only [List.foldl_cons,List.length_cons]
    omega
theorem DatAll.take {K:PySem.W.Frag} {H:Hp}:∀{ds:List PyData} {xs:List V} (n:Nat),DatAll K H ds xs→DatAll K H (ds.take n) (xs.take n)
  | _,_,0,_=>rfl
  | [],_,_+1,h=>by cases (show _=([]:List V) from h);rfl
  | _::_,_,n+1,⟨x,r,h1,h2,h3⟩=>by subst h1;exact ⟨x,_,rfl,h2,DatAll.take n h3⟩
section
variable {P:Program} {w:World} {K:PySem.W.Frag} {mg:Str→Option Value} {base:Heap}
theorem ok_joined (T:TopDef K mg "joined" s_joined) (Z_tuple:mg "tuple"=none):Def P w K mg base 1 "joined" ["stretches"] (spJoined K):=by
  refine def_of T sc_joined (fun _ _ _ _ _ _ us hl=>match us,hl with | [_],_=>rfl) (fun vs H Q E h=>?_) (fun f cdv A outer s H vs Q E hr h=>?_)
  · obtain ⟨x,M,rfl,_⟩:=h
    rfl
  obtain ⟨x,M,rfl,⟨l,us,rfl,sl,da⟩,few,k⟩:=h
  have nd:=sc_joined.nd
  have hu:=hr.units
  have lus:=ln_len da
  refine ⟨_,(pss_cons (ps_set (i:=1) nd rfl (Or.inl rfl) (pe_lst pa_nil))
    (pss_cons (ps_for PassesOwn.never rfl (pi_list (pv 0)) (pg_name (i:=2) nd rfl (Or.inl rfl)) (pss_cons (ps_if (PW.pt (pw_and (pt_cmpR (op_neD hu) (pv 1) (pe_lst pa_nil) (nomark _)) (pw_and1 (pt_cmpR (op_eqD hu) (pe_slice sl_tup (pe_ix ix_list (pv 1) (pe_un un_neg pe_int) (fun _ _=>rfl)) (po_some pe_int) po_none) (pe_slice sl_tup (pv 2) (po_some pe_int) po_none) (nomark _))))) (pss_one (ps_expr (pe_bm0 PySem.F.plainAttrs_list PySem.F.slot_list_pop PySem.F.type_list_pop mt_pop (pv 1)))) pss_nil)
    (pss_one (ps_expr (pe_bm PySem.F.plainAttrs_list PySem.F.slot_list_append PySem.F.type_list_append mt_append (pv 1) (pa_cons (pv 2) pa_nil))))))
    (pss_one (ps_ret (pe_callTy call_tuple_of rfl Z_tuple (by decide +kernel) (pa_cons (pv 1) pa_nil)))))),?_⟩
  refine ⟨(by show 0≤sizeLine;decide),fun b hb=>?_⟩
  have u0:=same_new hb (.lst [])
  refine ⟨_,rfl,l,rfl,⟨us,u0.seq sl⟩,?_⟩
  refine for_list (xs:=us) (fun i σ H'=>Same H H'∧∃ xs o2,σ=[some (.ref l),some (.ref b),o2]∧H' b=some (.lst xs)∧DatAll K H' ((Ln.jn (M.take i)).map stD) xs) ⟨u0,[],_,rfl,upd_same,rfl⟩ (fun i σ H' _ h=>h.1.seq sl) (fun i x σ H' hx h=>?_) (fun σ H' h=>?_)
  · obtain ⟨sm,xs,o2,rfl,hbx,dx⟩:=h
    obtain ⟨st,hst,dst⟩:=ln_at' (da.ts sm.ts) hx
    have hi:=(List.getElem?_eq_some_iff.mp hst).1
    have tk:Ln.jn (M.take (i+1))=Ln.jnStep (Ln.jn (M.take i)) st:=by
      rw [List.take_add_one,hst]
      exact Ln.jn_snoc _ _
    have lx:xs.length≤9000:=by
      rw [ln_len dx]
      have:=jn_len (M.take i) []
      rw [List.length_take] at this
      show (Ln.jn (M.take i)).length≤9000
      unfold Ln.jn
      simp at this
      omega
    rw [tk]
    refine ⟨_,rfl,(by show 0≤sizeLine;decide),fun e he=>?_⟩
    have u1:=same_new he (.lst [])
    refine ⟨_,_,.inr ⟨(Ln.jn (M.take i)).map stD,b,xs,rfl,rfl,SqL.of (u1 _ _ hbx),dx.ts u1.ts⟩,.inr ⟨[],e,[],rfl,rfl,SqL.of upd_same,rfl⟩,lnl_shaped _,by decide,_,rfl,?_⟩
    have eqn:PyData.eqv (.list ((Ln.jn (M.take i)).map stD)) (.list [])=decide (Ln.jn (M.take i)=[]):=by
      simp only [PyData.eqv]
      exact eqv_map st_eqv _ []
    rw [eqn]
    have app:∀(ys:List V) (B:List St4) (H2:Hp),Same H H2→Tst H' H2→H2 b=some (.lst ys)→ys.length≤9000→DatAll K H2 (B.map stD) ys→B++[st]=Ln.jnStep (Ln.jn (M.take i)) st→
        (Same H (upd H2 b (.lst (ys++[x])))∧∃ xs o2,[some (V.ref l),some (V.ref b),some x]=[some (.ref l),some (.ref b),o2]∧upd H2 b (.lst (ys++[x])) b=some (.lst xs)∧DatAll K (upd H2 b (.lst (ys++[x]))) ((Ln.jnStep (Ln.jn (M.take i)) st).map stD) xs):=by
      intro ys B H2 s2 tH hy hl2 dy eB
      refine ⟨same_mut s2 hb _,ys++[x],_,rfl,upd_same,?_⟩
      rw [← eB,List.map_append]
      have t2:Tst H2 (upd H2 b (.lst (ys++[x]))):=ts_mut hy
      exact (dy.ts t2).snoc (dst.ts (tH.trans t2))
    by_cases hA:Ln.jn (M.take i)=[]
    · rw [decide_eq_true hA]
      refine iteF (iteF ?_)
      have hb1:=u1 _ _ hbx
      refine ⟨_,rfl,.inl ⟨rfl,_,SqL.of hb1⟩,_,rfl,b,xs,_,rfl,rfl,hb1,small9000 lx,?_⟩
      refine app xs (Ln.jn (M.take i)) _ (sm.trans u1) u1.ts hb1 lx (dx.ts u1.ts) ?_
      rw [Ln.jnStep_new (fun t ht=>by rw [hA] at ht;cases ht)]
    · rw [decide_eq_false hA]
      refine iteT ?_
      have hb1:=u1 _ _ hbx
      have hlast:∃ t,(Ln.jn (M.take i)).getLast?=some t:=by
        cases z:(Ln.jn (M.take i)).getLast? with
        | none=>exact absurd (List.getLast?_eq_none_iff.mp z) hA
        | some t=>exact ⟨t,rfl⟩
      obtain ⟨t,ht⟩:=hlast
      obtain ⟨lp,ht'⟩:=Ln.last_at ht
      obtain ⟨y,hy,dy⟩:=ln_at dx ht'
      have hy2:xs.getLast?=some y:=by rw [List.getLast?_eq_getElem?,ln_len dx];exact hy
      obtain ⟨c1,f1,rfl,q1,_⟩:=st_el (dy.ts u1.ts)
      obtain ⟨c2,f2,rfl,q2,_⟩:=st_el (dst.ts u1.ts)
      refine ⟨_,rfl,_,rfl,_,_,_,_,rfl,rfl,SqL.of hb1,at_last hy2,_,rfl,c1,_,rfl,q1,cut1_ne _ _ _,fun p3 h3=>?_⟩
      have u3:=same_new h3 (.tup (cutV [f1,.int t.m,.int t.h] (some 1) none))
      refine ⟨_,rfl,_,rfl,c2,_,rfl,q2.ts u3.ts,cut1_ne _ _ _,fun p4 h4=>?_⟩
      have u4:=same_new h4 (.tup (cutV [f2,.int st.m,.int st.h] (some 1) none))
      refine ⟨_,_,.inl (fr_mk (p:=t.m) (q:=t.h) (SqT.of (u4 _ _ upd_same))),.inl (fr_mk (p:=st.m) (q:=st.h) (SqT.of upd_same)),fr_shaped _ _,fr_shaped _ _,_,rfl,?_⟩
      rw [fr_eqv]
      have ua:=u1.trans (u3.trans u4)
      have hb4:=ua _ _ hbx
      have stepE:Ln.jnStep (Ln.jn (M.take i)) st=if t.m=st.m∧t.h=st.h then (Ln.jn (M.take i)).dropLast++[st] else Ln.jn (M.take i)++[st]:=by
        show (match (Ln.jn (M.take i)).getLast? with | some t=>if t.m=st.m∧t.h=st.h then (Ln.jn (M.take i)).dropLast++[st] else Ln.jn (M.take i)++[st] | none=>_)=_
        rw [ht]
      by_cases same:t.m=st.m∧t.h=st.h
      · rw [decide_eq_true same]
        refine iteT ?_
        have lpx:0 < xs.length:=by rw [ln_len dx];exact lp
        refine ⟨_,rfl,.inl ⟨rfl,_,SqL.of hb4⟩,b,xs,_,rfl,rfl,hb4,List.getElem?_eq_getElem (by omega),?_⟩
        have t5:Tst (upd (upd (upd H' e (.lst [])) p3 (.tup (cutV [f1,.int t.m,.int t.h] (some 1) none))) p4 (.tup (cutV [f2,.int st.m,.int st.h] (some 1) none))) (upd (upd (upd (upd H' e (.lst [])) p3 (.tup (cutV [f1,.int t.m,.int t.h] (some 1) none))) p4 (.tup (cutV [f2,.int st.m,.int st.h] (some 1) none))) b (.lst xs.dropLast)):=ts_mut hb4
        refine ⟨_,rfl,.inl ⟨rfl,_,SqL.of upd_same⟩,_,rfl,b,xs.dropLast,_,rfl,rfl,upd_same,small9000 (by rw [List.length_dropLast];omega),?_⟩
        refine app xs.dropLast (Ln.jn (M.take i)).dropLast _ (same_mut (sm.trans ua) hb _) (ua.ts.trans t5) upd_same (by rw [List.length_dropLast];omega) ?_ (by rw [stepE,if_pos same])
        have dd:=Mine.DatAll.take (xs.length - 1) ((dx.ts ua.ts).ts t5)
        have e1:((Ln.jn (M.take i)).map stD).take (xs.length - 1)=((Ln.jn (M.take i)).dropLast).map stD:=by rw [List.dropLast_eq_take,List.map_take,ln_len dx]
        rw [e1,← List.dropLast_eq_take] at dd
        exact dd
      · rw [decide_eq_false same]
        refine iteF ?_
        refine ⟨_,rfl,.inl ⟨rfl,_,SqL.of hb4⟩,_,rfl,b,xs,_,rfl,rfl,hb4,small9000 lx,?_⟩
        exact app xs (Ln.jn (M.take i)) _ (sm.trans ua) ua.ts hb4 lx (dx.ts ua.ts) (by rw [stepE,if_neg same])
  · obtain ⟨sm,xs,o2,rfl,hbx,dx⟩:=h
    refine ⟨_,rfl,b,xs,rfl,.inl ⟨SqL.of hbx,fun t ht=>?_⟩⟩
    have u1:=same_new ht (.tup xs)
    rw [lus,List.take_length] at dx
    exact k _ _ (sm.trans u1) ⟨t,xs,rfl,SqT.of upd_same,dx.ts u1.ts⟩
end
end Mine
namespace Mine
open PySem L2
local macro_rules | `(tactic| walk_at "mul") => `(tactic| first | exact mulS (by assumption) (by assumption) | exact mulS (by first | assumption | exact sm_of (by omega) | exact sm_of (by decide) | exact sm_mod (by decide) (by decide)) (by first | assumption | exact sm_of (by omega) | exact sm_of (by decide) | exact sm_mod (by decide) (by decide)))
local macro_rules | `(tactic| walk_at "rd1") => `(tactic| first
  | refine ⟨_,rfl,?_⟩
  | refine ⟨_,_,rfl,rfl,?_⟩
  | (refine' ⟨_,_,_,_,rfl,rfl,?sq,?ia,?k⟩;(case' sq=>first | assumption | exact Scr.l (by assumption));(case' ia=>first | rfl | assumption))
  | refine ⟨rfl,?_⟩
  | (refine ⟨?m,?_⟩;(case' m=>walk_at "mul"))
  | (refine ⟨?m,?_⟩;(case' m=>exact div_ok (by first | assumption | omega) (by assumption)))
  | (refine ⟨?m,?_⟩;(case' m=>show (0:Int) < _;decide))
  | (refine ⟨?m,?_⟩;(case' m=>exact ⟨by decide,by decide⟩))
  | (refine ⟨?m,?_⟩;(case' m=>exact ⟨by decide,by decide,by decide⟩)))
local macro_rules | `(tactic| walk_at "rd") => `(tactic| repeat walk_at "rd1")
noncomputable def pcD (c:Ln.Pc):PyData:=.tuple [frD c.p c.q,stD c.a,stD c.b]
theorem pc_mk {K:PySem.W.Frag} {H:Hp} {a:Addr} {e f g:V} {c:Ln.Pc} (q:SqT K H a [e,f,g]) (h1:Dat K H (frD c.p c.q) e) (h2:Dat K H (stD c.a) f) (h3:Dat K H (stD c.b) g):Dat K H (pcD c) (.ref a):=⟨a,_,rfl,q,_,_,rfl,h1,_,_,rfl,h2,_,_,rfl,h3,rfl⟩
theorem pc_el {K:PySem.W.Frag} {H:Hp} {v:V} {c:Ln.Pc} (g:Dat K H (pcD c) v):∃ a e f g,v=.ref a∧SqT K H a [e,f,g]∧Dat K H (frD c.p c.q) e∧Dat K H (stD c.a) f∧Dat K H (stD c.b) g:=by
  obtain ⟨a,xs,rfl,g,x,r,rfl,hx,y,t,rfl,hy,z,u,rfl,hz,hu⟩:=g
  cases (show u=[] from hu)
  exact ⟨a,x,y,z,rfl,g,hx,hy,hz⟩
noncomputable def spSbs (K:PySem.W.Frag):Sp:=fun vs H Q _=>∃(x y:V) (A B:List St4),vs=[x,y]∧Dat K H (lnD A) x∧Ln.LineK A∧Dat K H (lnD B) y∧Ln.LineK B∧
  ∀(l:Addr) (us:List V) (H':Hp),Same H H'→H l=none→H' l=some (.lst us)→DatAll K H' ((Ln.sbs A B).map pcD) us→Q (.ref l) H'
section
variable {P:Program} {w:World} {K:PySem.W.Frag} {mg:Str→Option Value} {base:Heap}
theorem ok_side_by_side (T:TopDef K mg "side_by_side" s_side_by_side) (Z_len:mg "len"=none) (D_less:Def P w K mg base 1 "less" ["one","other"] (spLess K)):Def P w K mg base 2 "side_by_side" ["one","other"] (spSbs K):=by
  refine def_of T sc_side_by_side (fun _ _ _ _ _ _ us hl=>match us,hl with | [_,_],_=>rfl) (fun vs H Q E h=>?_) (fun f cdv A outer s H vs Q E hr h=>?_)
  · obtain ⟨x,y,A,B,rfl,_⟩:=h
    rfl
  obtain ⟨x,y,A,B,rfl,hx,la,hy,lb,k⟩:=h
  obtain ⟨a,xs,rfl,sa,da⟩:=ln_el hx
  obtain ⟨b,ys,rfl,sb,db⟩:=ln_el hy
  have nd:=sc_side_by_side.nd
  have hu:=hr.units
  have lx:=ln_len da
  have ly:=ln_len db
  have fa:=la.few
  have fb:=lb.few
  have slen:=Ln.sbs_len A B
  refine ⟨_,(pss_cons (ps_set (i:=2) nd rfl (Or.inl rfl) (pe_lst pa_nil))
    (pss_cons (ps_set (i:=3) nd rfl (Or.inl rfl) pe_int)
    (pss_cons (ps_set (i:=4) nd rfl (Or.inl rfl) pe_int)
    (pss_cons (ps_while PassesOwn.never (PW.pt (pw_and (pt_cmpR op_lt (pv 3) (pe_callB call_len rfl Z_len (by decide +kernel) (pa_cons (pv 0) pa_nil)) (nomark _)) (pw_and1 (pt_cmpR op_lt (pv 4) (pe_callB call_len rfl Z_len (by decide +kernel) (pa_cons (pv 1) pa_nil)) (nomark _))))) (pss_cons (ps_set (i:=5) nd rfl (Or.inl rfl) (pe_ifExp (pt_val (pe_def D_less (hr.mono (by decide)) rfl (pa_cons (pe_ix ix_tup (pe_ix ix_tup (pv 0) (pv 3) (fun _ _=>rfl)) pe_int (fun _ _=>rfl)) (pa_cons (pe_ix ix_tup (pe_ix ix_tup (pv 1) (pv 4) (fun _ _=>rfl)) pe_int (fun _ _=>rfl)) pa_nil)))) (pe_ix ix_tup (pe_ix ix_tup (pv 0) (pv 3) (fun _ _=>rfl)) pe_int (fun _ _=>rfl)) (pe_ix ix_tup (pe_ix ix_tup (pv 1) (pv 4) (fun _ _=>rfl)) pe_int (fun _ _=>rfl))))
    (pss_cons (ps_expr (pe_bm PySem.F.plainAttrs_list PySem.F.slot_list_append PySem.F.type_list_append mt_append (pv 2) (pa_cons (pe_tup (pa_cons (pv 5) (pa_cons (pe_ix ix_tup (pv 0) (pv 3) (fun _ _=>rfl)) (pa_cons (pe_ix ix_tup (pv 1) (pv 4) (fun _ _=>rfl)) pa_nil)))) pa_nil)))
    (pss_cons (ps_if (pt_cmpR (op_eqD hu) (pe_ix ix_tup (pe_ix ix_tup (pv 0) (pv 3) (fun _ _=>rfl)) pe_int (fun _ _=>rfl)) (pv 5) (nomark _)) (pss_one (ps_aug (i:=3) nd rfl (Or.inl rfl) pe_int ip_add)) pss_nil)
    (pss_one (ps_if (pt_cmpR (op_eqD hu) (pe_ix ix_tup (pe_ix ix_tup (pv 1) (pv 4) (fun _ _=>rfl)) pe_int (fun _ _=>rfl)) (pv 5) (nomark _)) (pss_one (ps_aug (i:=4) nd rfl (Or.inl rfl) pe_int ip_add)) pss_nil))))))
    (pss_one (ps_ret (pv 2))))))),?_⟩
  refine ⟨(by show 0≤sizeLine;decide),fun l hb=>?_⟩
  have u0:=same_new hb (.lst [])
  refine ⟨fun m σ H'=>Same H H'∧∃(i j:Nat) (o5:Option V) (zs:List V) (dn:List Ln.Pc),σ=[some (.ref a),some (.ref b),some (.ref l),some (.int i),some (.int j),o5]∧H' l=some (.lst zs)∧DatAll K H' (dn.map pcD) zs∧dn++Ln.sbs (A.drop i) (B.drop j)=Ln.sbs A B∧i≤A.length∧j≤B.length∧m=(A.length - i)+(B.length - j),
    ⟨_,u0,0,0,_,[],[],rfl,upd_same,rfl,rfl,Nat.zero_le _,Nat.zero_le _,rfl⟩,?_⟩
  rintro m σ H' ⟨sm,i,j,o5,zs,dn,rfl,hl,dz,al,hi,hj,rfl⟩
  have sa2:=sa.ts sm.ts
  have sb2:=sb.ts sm.ts
  have lz:zs.length≤9000:=by
    have z1:zs.length=dn.length:=by rw [dz.len,List.length_map]
    have z2:=congrArg List.length al
    rw [List.length_append] at z2
    omega
  have fin:(A.length≤i∨B.length≤j)→Q (.ref l) H':=fun z=>by
    rw [Ln.sbs_stop z,List.append_nil] at al
    rw [al] at dz
    exact k l zs H' sm hb hl dz
  refine ⟨_,rfl,_,rfl,_,_,rfl,.inr ⟨_,sa2,rfl⟩,_,_,rfl,rfl,_,rfl,?_⟩
  by_cases ci:i < A.length
  case neg =>
    rw [decide_eq_false (show ¬ ((i:Int) < ((xs.length:Nat):Int)) by omega)]
    refine iteF (iteF ?_)
    exact ⟨_,rfl,fin (.inl (by omega))⟩
  rw [decide_eq_true (show ((i:Int) < ((xs.length:Nat):Int)) by omega)]
  refine iteT ?_
  refine ⟨_,rfl,_,rfl,_,_,rfl,.inr ⟨_,sb2,rfl⟩,_,_,rfl,rfl,_,rfl,?_⟩
  by_cases cj:j < B.length
  case neg =>
    rw [decide_eq_false (show ¬ ((j:Int) < ((ys.length:Nat):Int)) by omega)]
    refine iteF ?_
    exact ⟨_,rfl,fin (.inr (by omega))⟩
  rw [decide_eq_true (show ((j:Int) < ((ys.length:Nat):Int)) by omega)]
  refine iteT ?_
  have hs1:A[i]?=some A[i]:=List.getElem?_eq_getElem ci
  have hs2:B[j]?=some B[j]:=List.getElem?_eq_getElem cj
  obtain ⟨v1,hv1,dv1⟩:=ln_at (da.ts sm.ts) hs1
  obtain ⟨v2,hv2,dv2⟩:=ln_at (db.ts sm.ts) hs2
  obtain ⟨c1,e1,rfl,q1,d1⟩:=st_el dv1
  obtain ⟨c2,e2,rfl,q2,d2⟩:=st_el dv2
  obtain ⟨f1,rfl,r1⟩:=fr_el d1
  obtain ⟨f2,rfl,r2⟩:=fr_el d2
  obtain ⟨m1,m2,m3,m4,m5⟩:=stb_sm (la.at hs1)
  obtain ⟨n1,n2,n3,n4,n5⟩:=stb_sm (lb.at hs2)
  have at1:atI xs (i:Int)=some (.ref c1):=atI_nat hv1
  have at2:atI ys (j:Int)=some (.ref c2):=atI_nat hv2
  have stp:=Ln.sbs_step hs1 hs2
  refine ⟨fun σ' H''=>Same H H''∧∃(i2 j2:Nat) (o5:Option V) (zs:List V) (dn:List Ln.Pc),σ'=[some (.ref a),some (.ref b),some (.ref l),some (.int i2),some (.int j2),o5]∧H'' l=some (.lst zs)∧DatAll K H'' (dn.map pcD) zs∧dn++Ln.sbs (A.drop i2) (B.drop j2)=Ln.sbs A B∧i2≤A.length∧j2≤B.length∧(A.length - i2)+(B.length - j2) < (A.length - i)+(B.length - j),?_,?_⟩
  · rintro σ' H'' ⟨h1,i2,j2,o,zs,dn,h2,h3,h4,h5,h6,h7,h8⟩
    exact ⟨_,h8,h1,i2,j2,o,zs,dn,h2,h3,h4,h5,h6,h7,rfl⟩
  refine ⟨_,rfl,_,rfl,_,_,_,_,rfl,rfl,sa2,at1,_,_,_,_,rfl,rfl,q1,rfl,_,rfl,_,rfl,_,_,_,_,rfl,rfl,sb2,at2,_,_,_,_,rfl,rfl,q2,rfl,_,_,_,_,_,_,rfl,d1,d2,m1,m2,n1,n2,_,rfl,?_⟩
  rcases Ln.ends_cases (la.at hs1) (lb.at hs2) with h | h | ⟨h,h1,h2⟩
  · rw [decide_eq_true h]
    rw [if_pos h] at stp
    refine iteT ?_
    refine ⟨_,rfl,_,rfl,_,_,_,_,rfl,rfl,sa2,at1,_,_,_,_,rfl,rfl,q1,rfl,?_⟩
    refine ⟨_,rfl,.inl ⟨rfl,_,SqL.of hl⟩,_,rfl,_,rfl,_,rfl,_,_,_,_,rfl,rfl,sa2,at1,_,rfl,_,rfl,_,_,_,_,rfl,rfl,sb2,at2,(by show 3≤sizeLine;decide),fun t ht=>?_⟩
    have u1:=same_new ht (.tup [.ref f1,.ref c1,.ref c2])
    have hl1:=u1 _ _ hl
    refine ⟨l,zs,_,rfl,rfl,hl1,small9000 lz,?_⟩
    have t2:Tst (upd H' t (.tup [.ref f1,.ref c1,.ref c2])) (upd (upd H' t (.tup [.ref f1,.ref c1,.ref c2])) l (.lst (zs++[.ref t]))):=ts_mut hl1
    have tt:=u1.ts.trans t2
    have nt:t≠l:=fun e=>by rw [e,hl] at ht;cases ht
    have dpc:Dat K (upd (upd H' t (.tup [.ref f1,.ref c1,.ref c2])) l (.lst (zs++[.ref t]))) (pcD ⟨A[i].p,A[i].q,A[i],B[j]⟩) (.ref t):=pc_mk (SqT.of (by rw [upd_ne nt];exact upd_same)) (d1.ts tt) (dv1.ts tt) (dv2.ts tt)
    refine ⟨_,rfl,_,rfl,_,_,_,_,rfl,rfl,sa2.ts tt,at1,_,_,_,_,rfl,rfl,q1.ts tt,rfl,_,rfl,?_⟩
    refine ⟨_,_,.inl (d1.ts tt),.inl (d1.ts tt),fr_shaped _ _,fr_shaped _ _,_,rfl,?_⟩
    rw [fr_eqv,decide_eq_true ⟨rfl,rfl⟩]
    refine iteT ?_
    refine ⟨_,rfl,_,_,rfl,rfl,?_⟩
    refine ⟨_,rfl,_,rfl,_,_,_,_,rfl,rfl,sb2.ts tt,at2,_,_,_,_,rfl,rfl,q2.ts tt,rfl,_,rfl,?_⟩
    refine ⟨_,_,.inl (d2.ts tt),.inl (d1.ts tt),fr_shaped _ _,fr_shaped _ _,_,rfl,?_⟩
    rw [fr_eqv,decide_eq_false (show ¬ (B[j].p=A[i].p∧B[j].q=A[i].q) from fun z=>by rw [z.1,z.2] at h;omega)]
    refine iteF ?_
    refine ⟨same_mut (sm.trans u1) hb _,i+1,j,_,zs++[.ref t],dn++[⟨A[i].p,A[i].q,A[i],B[j]⟩],rfl,upd_same,?_,?_,by omega,by omega,by omega⟩
    · rw [List.map_append]
      exact (dz.ts tt).snoc dpc
    · rw [← al,stp,List.append_assoc]
      rfl
  · rw [decide_eq_false (show ¬ (A[i].p*B[j].q < B[j].p*A[i].q) by rw [h.1,h.2];omega)]
    rw [if_neg (show ¬ (A[i].p*B[j].q < B[j].p*A[i].q) by rw [h.1,h.2];omega),if_pos h] at stp
    refine iteF ?_
    refine ⟨_,rfl,_,rfl,_,_,_,_,rfl,rfl,sb2,at2,_,_,_,_,rfl,rfl,q2,rfl,?_⟩
    refine ⟨_,rfl,.inl ⟨rfl,_,SqL.of hl⟩,_,rfl,_,rfl,_,rfl,_,_,_,_,rfl,rfl,sa2,at1,_,rfl,_,rfl,_,_,_,_,rfl,rfl,sb2,at2,(by show 3≤sizeLine;decide),fun t ht=>?_⟩
    have u1:=same_new ht (.tup [.ref f2,.ref c1,.ref c2])
    have hl1:=u1 _ _ hl
    refine ⟨l,zs,_,rfl,rfl,hl1,small9000 lz,?_⟩
    have t2:Tst (upd H' t (.tup [.ref f2,.ref c1,.ref c2])) (upd (upd H' t (.tup [.ref f2,.ref c1,.ref c2])) l (.lst (zs++[.ref t]))):=ts_mut hl1
    have tt:=u1.ts.trans t2
    have nt:t≠l:=fun e=>by rw [e,hl] at ht;cases ht
    have dpc:Dat K (upd (upd H' t (.tup [.ref f2,.ref c1,.ref c2])) l (.lst (zs++[.ref t]))) (pcD ⟨B[j].p,B[j].q,A[i],B[j]⟩) (.ref t):=pc_mk (SqT.of (by rw [upd_ne nt];exact upd_same)) (d2.ts tt) (dv1.ts tt) (dv2.ts tt)
    refine ⟨_,rfl,_,rfl,_,_,_,_,rfl,rfl,sa2.ts tt,at1,_,_,_,_,rfl,rfl,q1.ts tt,rfl,_,rfl,?_⟩
    refine ⟨_,_,.inl (d1.ts tt),.inl (d2.ts tt),fr_shaped _ _,fr_shaped _ _,_,rfl,?_⟩
    rw [fr_eqv,decide_eq_true h]
    refine iteT ?_
    refine ⟨_,rfl,_,_,rfl,rfl,?_⟩
    refine ⟨_,rfl,_,rfl,_,_,_,_,rfl,rfl,sb2.ts tt,at2,_,_,_,_,rfl,rfl,q2.ts tt,rfl,_,rfl,?_⟩
    refine ⟨_,_,.inl (d2.ts tt),.inl (d2.ts tt),fr_shaped _ _,fr_shaped _ _,_,rfl,?_⟩
    rw [fr_eqv,decide_eq_true ⟨rfl,rfl⟩]
    refine iteT ?_
    refine ⟨_,rfl,_,_,rfl,rfl,?_⟩
    refine ⟨same_mut (sm.trans u1) hb _,i+1,j+1,_,zs++[.ref t],dn++[⟨B[j].p,B[j].q,A[i],B[j]⟩],rfl,upd_same,?_,?_,by omega,by omega,by omega⟩
    · rw [List.map_append]
      exact (dz.ts tt).snoc dpc
    · rw [← al,stp,List.append_assoc]
      rfl
  · rw [decide_eq_false h1]
    rw [if_neg h1,if_neg h2] at stp
    refine iteF ?_
    refine ⟨_,rfl,_,rfl,_,_,_,_,rfl,rfl,sb2,at2,_,_,_,_,rfl,rfl,q2,rfl,?_⟩
    refine ⟨_,rfl,.inl ⟨rfl,_,SqL.of hl⟩,_,rfl,_,rfl,_,rfl,_,_,_,_,rfl,rfl,sa2,at1,_,rfl,_,rfl,_,_,_,_,rfl,rfl,sb2,at2,(by show 3≤sizeLine;decide),fun t ht=>?_⟩
    have u1:=same_new ht (.tup [.ref f2,.ref c1,.ref c2])
    have hl1:=u1 _ _ hl
    refine ⟨l,zs,_,rfl,rfl,hl1,small9000 lz,?_⟩
    have t2:Tst (upd H' t (.tup [.ref f2,.ref c1,.ref c2])) (upd (upd H' t (.tup [.ref f2,.ref c1,.ref c2])) l (.lst (zs++[.ref t]))):=ts_mut hl1
    have tt:=u1.ts.trans t2
    have nt:t≠l:=fun e=>by rw [e,hl] at ht;cases ht
    have dpc:Dat K (upd (upd H' t (.tup [.ref f2,.ref c1,.ref c2])) l (.lst (zs++[.ref t]))) (pcD ⟨B[j].p,B[j].q,A[i],B[j]⟩) (.ref t):=pc_mk (SqT.of (by rw [upd_ne nt];exact upd_same)) (d2.ts tt) (dv1.ts tt) (dv2.ts tt)
    refine ⟨_,rfl,_,rfl,_,_,_,_,rfl,rfl,sa2.ts tt,at1,_,_,_,_,rfl,rfl,q1.ts tt,rfl,_,rfl,?_⟩
    refine ⟨_,_,.inl (d1.ts tt),.inl (d2.ts tt),fr_shaped _ _,fr_shaped _ _,_,rfl,?_⟩
    rw [fr_eqv,decide_eq_false h2]
    refine iteF ?_
    refine ⟨_,rfl,_,rfl,_,_,_,_,rfl,rfl,sb2.ts tt,at2,_,_,_,_,rfl,rfl,q2.ts tt,rfl,_,rfl,?_⟩
    refine ⟨_,_,.inl (d2.ts tt),.inl (d2.ts tt),fr_shaped _ _,fr_shaped _ _,_,rfl,?_⟩
    rw [fr_eqv,decide_eq_true ⟨rfl,rfl⟩]
    refine iteT ?_
    refine ⟨_,rfl,_,_,rfl,rfl,?_⟩
    refine ⟨same_mut (sm.trans u1) hb _,i,j+1,_,zs++[.ref t],dn++[⟨B[j].p,B[j].q,A[i],B[j]⟩],rfl,upd_same,?_,?_,by omega,by omega,by omega⟩
    · rw [List.map_append]
      exact (dz.ts tt).snoc dpc
    · rw [← al,stp,List.append_assoc]
      rfl
end
end Mine
namespace Mine
open PySem L2
local macro_rules | `(tactic| walk_at "mul") => `(tactic| first | exact mulS (by assumption) (by assumption) | exact mulS (by first | assumption | exact sm_of (by omega) | exact sm_of (by decide) | exact sm_mod (by decide) (by decide)) (by first | assumption | exact sm_of (by omega) | exact sm_of (by decide) | exact sm_mod (by decide) (by decide)))
local macro_rules | `(tactic| walk_at "rd1") => `(tactic| first
  | refine ⟨_,rfl,?_⟩
  | refine ⟨_,_,rfl,rfl,?_⟩
  | (refine' ⟨_,_,_,_,rfl,rfl,?sq,?ia,?k⟩;(case' sq=>first | assumption | exact Scr.l (by assumption));(case' ia=>first | rfl | assumption))
  | refine ⟨rfl,?_⟩
  | (refine ⟨?m,?_⟩;(case' m=>walk_at "mul"))
  | (refine ⟨?m,?_⟩;(case' m=>exact div_ok (by first | assumption | omega) (by assumption)))
  | (refine ⟨?m,?_⟩;(case' m=>show (0:Int) < _;decide))
  | (refine ⟨?m,?_⟩;(case' m=>exact ⟨by decide,by decide⟩))
  | (refine ⟨?m,?_⟩;(case' m=>exact ⟨by decide,by decide,by decide⟩)))
local macro_rules | `(tactic| walk_at "rd") => `(tactic| repeat walk_at "rd1")
theorem pg_tupK {X:Cx} {K:PySem.W.Frag} {es:List Expr} {k:Nat} {pos:Pos} {t:TGs} {n:Nat} (e:X.K=K) (hc:X.calm=true) (h:PGs X es t)
    (hn:(assignEach es X.env).length=n:=by rfl) (hst:(assignEach es X.env).findIdx? (·.1)=none:=by rfl):PG X (.Tuple es k pos) (gTup K n t):=by
  subst e
  exact pg_tup hc h hn hst
theorem len3 {o:St} (h:o.length=3):∃ a b c,o=[a,b,c]:=by
  match o,h with
  | [a,b,c],_=>exact ⟨a,b,c,rfl⟩
noncomputable def spTurned (K:PySem.W.Frag):Sp:=fun vs H Q _=>∃(x:V) (L:List St4),vs=[x]∧Dat K H (lnD L) x∧L.length≤1000∧∀ v H',Same H H'→Dat K H' (lnD (L.map Ln.tnS)) v→Q v H'
noncomputable def spRaised (K:PySem.W.Frag):Sp:=fun vs H Q _=>∃(x:V) (L:List St4) (n:Int),vs=[x,.int n]∧Dat K H (lnD L) x∧L.length≤1000∧∀ v H',Same H H'→Dat K H' (lnD (L.map (Ln.rsS n))) v→Q v H'
noncomputable def spAdded (K:PySem.W.Frag):Sp:=fun vs H Q _=>∃(x y:V) (A B:List St4),vs=[x,y]∧Dat K H (lnD A) x∧Ln.LineK A∧Dat K H (lnD B) y∧Ln.LineK B∧∀ v H',Same H H'→Dat K H' (lnD (Ln.jn (Ln.ad (Ln.sbs A B)))) v→Q v H'
theorem map_step {α:Type} {f:St4→α} {L:List St4} {i:Nat} {s:St4} (h:L[i]?=some s):(L.take (i+1)).map f=(L.take i).map f++[f s]:=by
  rw [List.take_add_one,h,List.map_append]
  rfl
theorem ne_lst {H:Hp} {t D:Addr} {zs:List V} (ht:H t=none) (h:H D=some (.lst zs)):D≠t:=fun e=>by rw [e,ht] at h;cases h
section
variable {P:Program} {w:World} {K:PySem.W.Frag} {mg:Str→Option Value} {base:Heap}
theorem ok_turned (T:TopDef K mg "turned" s_turned) (Z_tuple:mg "tuple"=none):Def P w K mg base 1 "turned" ["line"] (spTurned K):=by
  refine def_of T sc_turned (fun _ _ _ _ _ _ us hl=>match us,hl with | [_],_=>rfl) (fun vs H Q E h=>?_) (fun f cdv A outer s H vs Q E hr h=>?_)
  · obtain ⟨x,L,rfl,_⟩:=h
    rfl
  obtain ⟨x,L,rfl,hx,few,k⟩:=h
  obtain ⟨a,xs,rfl,sa,da⟩:=ln_el hx
  have nd:=sc_turned.nd
  have lx:=ln_len da
  refine ⟨_,(pss_one (ps_ret (pe_callTy call_tuple_of rfl Z_tuple (by decide +kernel) (pa_cons (pe_compTF (xs:=["end","slope","height"]) rfl (pi_tup (pv 0)) rfl (by decide +kernel) (by decide +kernel) (show ∀ p∈Scope.names _,p.2=NameKind.free→List.lookup p.1 (defScope s_turned).names=some .cell∨List.lookup p.1 (defScope s_turned).names=some .free by decide +kernel) fa_nil (show (["end","slope","height"]:List Str).Nodup by decide +kernel) (fun _ _ _ _=>pg_tupK (K:=K) (n:=3) rfl rfl (pgs_cons (pg_name (i:=0) (show (["end","slope","height"]:List Str).Nodup by decide +kernel) rfl (Or.inl rfl) (.inr rfl)) (pgs_cons (pg_name (i:=1) (show (["end","slope","height"]:List Str).Nodup by decide +kernel) rfl (Or.inl rfl) (.inr rfl)) (pgs_cons (pg_name (i:=2) (show (["end","slope","height"]:List Str).Nodup by decide +kernel) rfl (Or.inl rfl) (.inr rfl)) pgs_nil)))) (fun _ _ _ _=>(pe_tup (pa_cons (pv 0) (pa_cons (pe_un un_neg (pv 1)) (pa_cons (pe_un un_neg (pv 2)) pa_nil)))))) pa_nil)))),?_⟩
  refine ⟨_,rfl,a,rfl,⟨xs,sa⟩,fun D hD=>?_⟩
  refine ⟨fun i m H2=>m=xs.length - i∧i≤xs.length∧Same H H2∧∃ zs,H2 D=some (.lst zs)∧DatAll K H2 (((L.take i).map Ln.tnS).map stD) zs,⟨_,rfl,Nat.zero_le _,same_new hD _,[],upd_same,rfl⟩,?_⟩
  rintro i m H2 ⟨rfl,hi,sm,zs,hlD,dz⟩
  have sa2:=sa.ts sm.ts
  have lz:zs.length≤9000:=by rw [dz.len];simp;omega
  by_cases hlt:i < xs.length
  · refine .inr ⟨⟨xs,_,sa2,List.getElem?_eq_getElem hlt⟩,fun o ho v H3 y=>?_⟩
    obtain ⟨rfl,y⟩:=y
    obtain ⟨st,hst,dst⟩:=ln_at' (da.ts sm.ts) (y xs sa2)
    obtain ⟨c,e,rfl,q1,d1⟩:=st_el dst
    obtain ⟨o1,o2,o3,rfl⟩:=len3 ho
    refine ⟨c,_,rfl,q1,rfl,_,_,rfl,_,_,rfl,_,_,rfl,rfl,[some e,some (.int st.m),some (.int st.h)],rfl,rfl,?_⟩
    refine ⟨_,rfl,_,rfl,_,rfl,_,rfl,_,rfl,(by show 3≤sizeLine;decide),fun t ht=>?_⟩
    have u1:=same_new ht (.tup [e,.int (-st.m),.int (-st.h)])
    have hD1:=u1 _ _ hlD
    have t2:Tst (upd H3 t (.tup [e,.int (-st.m),.int (-st.h)])) (upd (upd H3 t (.tup [e,.int (-st.m),.int (-st.h)])) D (.lst (zs++[.ref t]))):=ts_mut hD1
    have tt:=u1.ts.trans t2
    refine ⟨zs,hD1,small9000 lz,xs.length - (i+1),by omega,rfl,hlt,same_mut (sm.trans u1) hD _,zs++[.ref t],upd_same,?_⟩
    rw [map_step hst,List.map_append]
    exact (dz.ts tt).snoc (st_mk (s:=Ln.tnS st) (SqT.of (by rw [upd_ne (ne_lst ht hlD).symm];exact upd_same)) (d1.ts tt))
  have ei:i=xs.length:=by omega
  subst ei
  refine .inl ⟨⟨xs,sa2,Nat.le_refl _⟩,?_⟩
  rw [lx,List.take_length] at dz
  refine ⟨D,zs,rfl,.inl ⟨SqL.of hlD,fun t ht=>?_⟩⟩
  have u1:=same_new ht (.tup zs)
  exact k _ _ (sm.trans u1) ⟨t,zs,rfl,SqT.of upd_same,dz.ts u1.ts⟩
theorem ok_raised (T:TopDef K mg "raised" s_raised) (Z_tuple:mg "tuple"=none):Def P w K mg base 1 "raised" ["line","by"] (spRaised K):=by
  refine def_of T sc_raised (fun _ _ _ _ _ _ us hl=>match us,hl with | [_,_],_=>rfl) (fun vs H Q E h=>?_) (fun f cdv A outer s H vs Q E hr h=>?_)
  · obtain ⟨x,L,n,rfl,_⟩:=h
    rfl
  obtain ⟨x,L,n,rfl,hx,few,k⟩:=h
  obtain ⟨a,xs,rfl,sa,da⟩:=ln_el hx
  have nd:=sc_raised.nd
  have lx:=ln_len da
  refine ⟨_,(pss_one (ps_ret (pe_callTy call_tuple_of rfl Z_tuple (by decide +kernel) (pa_cons (pe_compTF (xs:=["end","slope","height"]) rfl (pi_tup (pv 0)) rfl (by decide +kernel) (by decide +kernel) (show ∀ p∈Scope.names _,p.2=NameKind.free→List.lookup p.1 (defScope s_raised).names=some .cell∨List.lookup p.1 (defScope s_raised).names=some .free by decide +kernel) (fa_cons (j:=1) rfl (Or.inl rfl) (by decide +kernel) (Or.inl rfl) fa_nil) (show (["end","slope","height","by"]:List Str).Nodup by decide +kernel) (fun _ _ _ _=>pg_tupK (K:=K) (n:=3) rfl rfl (pgs_cons (pg_name (i:=0) (show (["end","slope","height","by"]:List Str).Nodup by decide +kernel) rfl (Or.inl rfl) (.inr rfl)) (pgs_cons (pg_name (i:=1) (show (["end","slope","height","by"]:List Str).Nodup by decide +kernel) rfl (Or.inl rfl) (.inr rfl)) (pgs_cons (pg_name (i:=2) (show (["end","slope","height","by"]:List Str).Nodup by decide +kernel) rfl (Or.inl rfl) (.inr rfl)) pgs_nil)))) (fun _ _ _ _=>(pe_tup (pa_cons (pv 0) (pa_cons (pv 1) (pa_cons (pe_op op_add (pv 2) (pv 3)) pa_nil)))))) pa_nil)))),?_⟩
  refine ⟨_,rfl,a,rfl,⟨xs,sa⟩,fun D hD=>?_⟩
  refine ⟨fun i m H2=>m=xs.length - i∧i≤xs.length∧Same H H2∧∃ zs,H2 D=some (.lst zs)∧DatAll K H2 (((L.take i).map (Ln.rsS n)).map stD) zs,⟨_,rfl,Nat.zero_le _,same_new hD _,[],upd_same,rfl⟩,?_⟩
  rintro i m H2 ⟨rfl,hi,sm,zs,hlD,dz⟩
  have sa2:=sa.ts sm.ts
  have lz:zs.length≤9000:=by rw [dz.len];simp;omega
  by_cases hlt:i < xs.length
  · refine .inr ⟨⟨xs,_,sa2,List.getElem?_eq_getElem hlt⟩,fun o ho v H3 y=>?_⟩
    obtain ⟨rfl,y⟩:=y
    obtain ⟨st,hst,dst⟩:=ln_at' (da.ts sm.ts) (y xs sa2)
    obtain ⟨c,e,rfl,q1,d1⟩:=st_el dst
    obtain ⟨o1,o2,o3,rfl⟩:=len3 ho
    refine ⟨c,_,rfl,q1,rfl,_,_,rfl,_,_,rfl,_,_,rfl,rfl,[some e,some (.int st.m),some (.int st.h)],rfl,rfl,?_⟩
    refine ⟨_,rfl,_,rfl,_,rfl,_,rfl,_,_,rfl,rfl,(by show 3≤sizeLine;decide),fun t ht=>?_⟩
    have u1:=same_new ht (.tup [e,.int st.m,.int (st.h+n)])
    have hD1:=u1 _ _ hlD
    have t2:Tst (upd H3 t (.tup [e,.int st.m,.int (st.h+n)])) (upd (upd H3 t (.tup [e,.int st.m,.int (st.h+n)])) D (.lst (zs++[.ref t]))):=ts_mut hD1
    have tt:=u1.ts.trans t2
    refine ⟨zs,hD1,small9000 lz,xs.length - (i+1),by omega,rfl,hlt,same_mut (sm.trans u1) hD _,zs++[.ref t],upd_same,?_⟩
    rw [map_step hst,List.map_append]
    exact (dz.ts tt).snoc (st_mk (s:=Ln.rsS n st) (SqT.of (by rw [upd_ne (ne_lst ht hlD).symm];exact upd_same)) (d1.ts tt))
  have ei:i=xs.length:=by omega
  subst ei
  refine .inl ⟨⟨xs,sa2,Nat.le_refl _⟩,?_⟩
  rw [lx,List.take_length] at dz
  refine ⟨D,zs,rfl,.inl ⟨SqL.of hlD,fun t ht=>?_⟩⟩
  have u1:=same_new ht (.tup zs)
  exact k _ _ (sm.trans u1) ⟨t,zs,rfl,SqT.of upd_same,dz.ts u1.ts⟩
theorem pc_at' {H:Hp} {xs:List V} {Ps:List Ln.Pc} (g:DatAll K H (Ps.map pcD) xs) {i:Nat} {x:V} (h:xs[i]?=some x):∃ c,Ps[i]?=some c∧Dat K H (pcD c) x:=by
  obtain ⟨d,e1,e2⟩:=g.get' h
  rw [List.getElem?_map] at e1
  cases z:Ps[i]? with
  | none=>rw [z] at e1;cases e1
  | some s=>rw [z] at e1;cases e1;exact ⟨s,rfl,e2⟩
theorem ok_added (T:TopDef K mg "added" s_added) (D_side_by_side:Def P w K mg base 2 "side_by_side" ["one","other"] (spSbs K)) (D_joined:Def P w K mg base 1 "joined" ["stretches"] (spJoined K)):Def P w K mg base 3 "added" ["one","other"] (spAdded K):=by
  refine def_of T sc_added (fun _ _ _ _ _ _ us hl=>match us,hl with | [_,_],_=>rfl) (fun vs H Q E h=>?_) (fun f cdv A outer s H vs Q E hr h=>?_)
  · obtain ⟨x,y,A,B,rfl,_⟩:=h
    rfl
  obtain ⟨x,y,A,B,rfl,hx,la,hy,lb,k⟩:=h
  have nd:=sc_added.nd
  have slen:=Ln.sbs_len A B
  have fa:=la.few
  have fb:=lb.few
  refine ⟨_,(pss_cons (ps_set (i:=2) nd rfl (Or.inl rfl) (pe_def D_side_by_side (hr.mono (by decide)) rfl (pa_cons (pv 0) (pa_cons (pv 1) pa_nil))))
    (pss_one (ps_ret (pe_def D_joined (hr.mono (by decide)) rfl (pa_cons (pe_compTF (xs:=["end","first","second"]) rfl (pi_list (pv 2)) rfl (by decide +kernel) (by decide +kernel) (show ∀ p∈Scope.names _,p.2=NameKind.free→List.lookup p.1 (defScope s_added).names=some .cell∨List.lookup p.1 (defScope s_added).names=some .free by decide +kernel) fa_nil (show (["end","first","second"]:List Str).Nodup by decide +kernel) (fun _ _ _ _=>pg_tupK (K:=K) (n:=3) rfl rfl (pgs_cons (pg_name (i:=0) (show (["end","first","second"]:List Str).Nodup by decide +kernel) rfl (Or.inl rfl) (.inr rfl)) (pgs_cons (pg_name (i:=1) (show (["end","first","second"]:List Str).Nodup by decide +kernel) rfl (Or.inl rfl) (.inr rfl)) (pgs_cons (pg_name (i:=2) (show (["end","first","second"]:List Str).Nodup by decide +kernel) rfl (Or.inl rfl) (.inr rfl)) pgs_nil)))) (fun _ _ _ _=>(pe_tup (pa_cons (pv 0) (pa_cons (pe_op op_add (pe_ix (ix_tupK (K:=K) rfl) (pv 1) pe_int (fun _ _=>rfl)) (pe_ix (ix_tupK (K:=K) rfl) (pv 2) pe_int (fun _ _=>rfl))) (pa_cons (pe_op op_add (pe_ix (ix_tupK (K:=K) rfl) (pv 1) pe_int (fun _ _=>rfl)) (pe_ix (ix_tupK (K:=K) rfl) (pv 2) pe_int (fun _ _=>rfl))) pa_nil)))))) pa_nil))))),?_⟩
  refine ⟨_,rfl,_,rfl,x,y,A,B,rfl,hx,la,hy,lb,fun l us H1 s1 hl0 hl dus=>?_⟩
  have lu:us.length=(Ln.sbs A B).length:=by rw [dus.len,List.length_map]
  refine ⟨_,rfl,l,rfl,⟨us,SqL.of hl⟩,fun D hD=>?_⟩
  refine ⟨fun i m H2=>m=us.length - i∧i≤us.length∧Same H1 H2∧∃ zs,H2 D=some (.lst zs)∧DatAll K H2 ((Ln.ad ((Ln.sbs A B).take i)).map stD) zs,⟨_,rfl,Nat.zero_le _,same_new hD _,[],upd_same,rfl⟩,?_⟩
  rintro i m H2 ⟨rfl,hi,sm,zs,hlD,dz⟩
  have sl2:SqL K H2 l us:=SqL.of (sm _ _ hl)
  have lz:zs.length≤9000:=by rw [dz.len];simp [Ln.ad];omega
  by_cases hlt:i < us.length
  · refine .inr ⟨⟨us,_,sl2,List.getElem?_eq_getElem hlt⟩,fun o ho v H3 y=>?_⟩
    obtain ⟨rfl,y⟩:=y
    obtain ⟨c,hc,dc⟩:=pc_at' (dus.ts sm.ts) (y us sl2)
    obtain ⟨ca,e,f,g,rfl,q1,d1,df,dg⟩:=pc_el dc
    obtain ⟨fa',_,rfl,qf,_⟩:=st_el df
    obtain ⟨ga',_,rfl,qg,_⟩:=st_el dg
    obtain ⟨o1,o2,o3,rfl⟩:=len3 ho
    refine ⟨ca,_,rfl,q1,rfl,_,_,rfl,_,_,rfl,_,_,rfl,rfl,[some e,some (.ref fa'),some (.ref ga')],rfl,rfl,?_⟩
    refine ⟨_,rfl,_,rfl,_,_,_,_,rfl,rfl,qf,rfl,_,rfl,_,_,_,_,rfl,rfl,qg,rfl,_,_,rfl,rfl,_,rfl,_,_,_,_,rfl,rfl,qf,rfl,_,rfl,_,_,_,_,rfl,rfl,qg,rfl,_,_,rfl,rfl,(by show 3≤sizeLine;decide),fun t ht=>?_⟩
    have u1:=same_new ht (.tup [e,.int (c.a.m+c.b.m),.int (c.a.h+c.b.h)])
    have hD1:=u1 _ _ hlD
    have t2:Tst (upd H3 t (.tup [e,.int (c.a.m+c.b.m),.int (c.a.h+c.b.h)])) (upd (upd H3 t (.tup [e,.int (c.a.m+c.b.m),.int (c.a.h+c.b.h)])) D (.lst (zs++[.ref t]))):=ts_mut hD1
    have tt:=u1.ts.trans t2
    refine ⟨zs,hD1,small9000 lz,us.length - (i+1),by omega,rfl,hlt,same_mut (sm.trans u1) hD _,zs++[.ref t],upd_same,?_⟩
    have e2:Ln.ad ((Ln.sbs A B).take (i+1))=Ln.ad ((Ln.sbs A B).take i)++[⟨c.p,c.q,c.a.m+c.b.m,c.a.h+c.b.h⟩]:=by
      unfold Ln.ad
      rw [List.take_add_one,hc,List.map_append]
      rfl
    rw [e2,List.map_append]
    exact (dz.ts tt).snoc (st_mk (s:=⟨c.p,c.q,c.a.m+c.b.m,c.a.h+c.b.h⟩) (SqT.of (by rw [upd_ne (ne_lst ht hlD).symm];exact upd_same)) (d1.ts tt))
  have ei:i=us.length:=by omega
  subst ei
  refine .inl ⟨⟨us,sl2,Nat.le_refl _⟩,?_⟩
  rw [lu,List.take_length] at dz
  refine ⟨.ref D,Ln.ad (Ln.sbs A B),rfl,⟨D,zs,rfl,SqL.of hlD,dz⟩,by simp [Ln.ad];omega,fun v H' s' dv=>?_⟩
  exact k v H' (s1.trans (sm.trans s')) dv
end
end Mine
namespace Mine
open PySem L2
local macro_rules | `(tactic| walk_at "mul") => `(tactic| first | exact mulS (by assumption) (by assumption) | exact mulS (by first | assumption | exact sm_of (by omega) | exact sm_of (by decide) | exact sm_mod (by decide) (by decide)) (by first | assumption | exact sm_of (by omega) | exact sm_of (by decide) | exact sm_mod (by decide) (by decide)))
local macro_rules | `(tactic| walk_at "rd1") => `(tactic| first
  | refine ⟨_,rfl,?_⟩
  | refine ⟨_,_,rfl,rfl,?_⟩
  | (refine' ⟨_,_,_,_,rfl,rfl,?sq,?ia,?k⟩;(case' sq=>first | assumption | exact Scr.l (by assumption));(case' ia=>first | rfl | assumption))
  | refine ⟨rfl,?_⟩
  | (refine ⟨?m,?_⟩;(case' m=>walk_at "mul"))
  | (refine ⟨?m,?_⟩;(case' m=>exact div_ok (by first | assumption | omega) (by assumption)))
  | (refine ⟨?m,?_⟩;(case' m=>show (0:Int) < _;decide))
  | (refine ⟨?m,?_⟩;(case' m=>exact ⟨by decide,by decide⟩))
  | (refine ⟨?m,?_⟩;(case' m=>exact ⟨by decide,by decide,by decide⟩)))
local macro_rules | `(tactic| walk_at "rd") => `(tactic| repeat walk_at "rd1")
noncomputable def spGst (K:PySem.W.Frag):Sp:=fun vs H Q _=>∃(v0 v1 f g:V) (sp sq:Int) (c:Ln.Pc),vs=[v0,v1,f,g]∧Dat K H (frD sp sq) v0∧Dat K H (frD c.p c.q) v1∧Dat K H (stD c.a) f∧Dat K H (stD c.b) g∧Ln.PcOk 45 c∧0≤sp∧sp≤sq∧0 < sq∧sq < 2 ^ 46∧
  ∀(l:Addr) (us:List V) (H':Hp),Same H H'→H' l=some (.lst us)→DatAll K H' ((Ln.gs sp sq c).map stD) us→us.length≤2→Q (.ref l) H'
theorem gs_of {sp sq:Int} {c:Ln.Pc} {u1 u2:St4} (h1:(if 0 < (c.a.m - c.b.m)*sp+(c.a.h - c.b.h)*sq then c.a else c.b)=u1) (h2:(if 0 < (c.a.m - c.b.m)*c.p+(c.a.h - c.b.h)*c.q then c.a else c.b)=u2) :
    Ln.gs sp sq c=(if ((c.a.m - c.b.m)*sp+(c.a.h - c.b.h)*sq)*((c.a.m - c.b.m)*c.p+(c.a.h - c.b.h)*c.q) < 0 then [⟨Lo.lowT (-(c.a.h - c.b.h)) (c.a.m - c.b.m),Lo.lowB (-(c.a.h - c.b.h)) (c.a.m - c.b.m),u1.m,u1.h⟩,⟨c.p,c.q,u2.m,u2.h⟩] else if (c.a.m - c.b.m)*sp+(c.a.h - c.b.h)*sq=0 then [⟨c.p,c.q,u2.m,u2.h⟩] else [⟨c.p,c.q,u1.m,u1.h⟩]):=by
  unfold Ln.gs
  rw [h1,h2]
theorem slope_ne {S h sq q:Int} {sp p:Int} (hs:0 < sq) (hq:0 < q) (c:(S*sp+h*sq)*(S*p+h*q) < 0):S≠0:=by
  intro z
  subst z
  rw [Int.zero_mul,Int.zero_mul,Int.zero_add,Int.zero_add] at c
  rcases Int.le_total 0 h with y | y
  · have:=Int.mul_nonneg (Int.mul_nonneg y (Int.le_of_lt hs)) (Int.mul_nonneg y (Int.le_of_lt hq))
    omega
  · have:=Int.mul_nonneg_of_nonpos_of_nonpos (Int.mul_nonpos_of_nonpos_of_nonneg y (Int.le_of_lt hs)) (Int.mul_nonpos_of_nonpos_of_nonneg y (Int.le_of_lt hq))
    omega
section
variable {P:Program} {w:World} {K:PySem.W.Frag} {mg:Str→Option Value} {base:Heap}
theorem ok_gst (T:TopDef K mg "greater_stretches" s_greater_stretches) (D_fraction:Def P w K mg base 2 "fraction" ["top","bottom"] spLow):Def P w K mg base 3 "greater_stretches" ["start","end","first","second"] (spGst K):=by
  refine def_of T sc_greater_stretches (fun _ _ _ _ _ _ us hl=>match us,hl with | [_,_,_,_],_=>rfl) (fun vs H Q E h=>?_) (fun f cdv A outer s H vs Q E hr h=>?_)
  · obtain ⟨v0,v1,f,g,sp,sq,c,rfl,_⟩:=h
    rfl
  obtain ⟨v0,v1,f',g,sp,sq,c,rfl,d0,d1,df,dg,ok,p0,pq,q0,qb,k⟩:=h
  have nd:=sc_greater_stretches.nd
  have t6:∃ t,PSs (cxOf CX0 P w K mg base n_greater_stretches "greater_stretches" (defScope s_greater_stretches) f cdv A outer s H E).nox ((defBody s_greater_stretches).drop 6) t∧
      ∀(S Hh AS AE:Int) (u1 u2:St4) (w1 w2:V),Sm AS→Sm AE→Sm S→(AS*AE < 0→S≠0)→Dat K H (stD u1) w1→Dat K H (stD u2) w2→
        (∀(l:Addr) (us:List V) (H':Hp),Same H H'→H' l=some (.lst us)→DatAll K H' ((if AS*AE < 0 then [⟨Lo.lowT (-Hh) S,Lo.lowB (-Hh) S,u1.m,u1.h⟩,⟨c.p,c.q,u2.m,u2.h⟩] else if AS=0 then [⟨c.p,c.q,u2.m,u2.h⟩] else [⟨c.p,c.q,u1.m,u1.h⟩]).map stD) us→us.length≤2→Q (.ref l) H')→
        t {nx:=fun _ H'=>Q .non H',rt:=Q} [some v0,some v1,some f',some g,some (.int S),some (.int Hh),some (.int AS),some (.int AE),some w1,some w2,none] H:=by
    refine ⟨_,(pss_cons (ps_if (pt_cmpR op_lt (pe_op op_mulK (pv 6) (pv 7)) pe_int (nomark _)) (pss_cons (ps_set (i:=10) nd rfl (Or.inl rfl) (pe_def D_fraction (hr.mono (by decide)) rfl (pa_cons (pe_un un_neg (pv 5)) (pa_cons (pv 4) pa_nil))))
    (pss_one (ps_ret (pe_lst (pa_cons (pe_op op_catT (pe_tup (pa_cons (pv 10) pa_nil)) (pe_slice sl_tup (pv 8) (po_some pe_int) po_none)) (pa_cons (pe_op op_catT (pe_tup (pa_cons (pv 1) pa_nil)) (pe_slice sl_tup (pv 9) (po_some pe_int) po_none)) pa_nil)))))) pss_nil)
    (pss_cons (ps_if (pt_cmpR op_eq (pv 6) pe_int (nomark _)) (pss_one (ps_ret (pe_lst (pa_cons (pe_op op_catT (pe_tup (pa_cons (pv 1) pa_nil)) (pe_slice sl_tup (pv 9) (po_some pe_int) po_none)) pa_nil)))) pss_nil)
    (pss_one (ps_ret (pe_lst (pa_cons (pe_op op_catT (pe_tup (pa_cons (pv 1) pa_nil)) (pe_slice sl_tup (pv 8) (po_some pe_int) po_none)) pa_nil)))))),fun S Hh AS AE u1 u2 w1 w2 bAS bAE bS hS e1 e2 kk=>?_⟩
    obtain ⟨a1,f1,rfl,q1,_⟩:=st_el e1
    obtain ⟨a2,f2,rfl,q2,_⟩:=st_el e2
    refine ⟨_,rfl,_,rfl,_,_,rfl,rfl,mulS bAS bAE,_,_,rfl,rfl,_,rfl,?_⟩
    refine ite2 (fun cc=>?_) (fun cc=>?_)
    · have c':AS*AE < 0:=of_decide_eq_true cc
      rw [if_pos c'] at kk
      refine ⟨_,rfl,_,rfl,_,rfl,-Hh,S,rfl,hS c',bS,fun t1 H1 s1 ht1=>?_⟩
      refine ⟨_,rfl,(by show 1≤sizeLine;decide),fun p1 hp1=>?_⟩
      have n1:=same_new hp1 (.tup [.ref t1])
      refine ⟨_,rfl,_,rfl,a1,_,rfl,q1.ts (s1.trans n1).ts,cut1_ne _ _ _,fun p2 hp2=>?_⟩
      have n2:=same_new hp2 (.tup (cutV [f1,.int u1.m,.int u1.h] (some 1) none))
      refine ⟨p1,p2,[.ref t1],[.int u1.m,.int u1.h],rfl,rfl,SqT.of (n2 _ _ upd_same),SqT.of upd_same,by simp,(by show 3≤sizeLine;decide),(fun z=>nomatch z),fun _ p3 hp3=>?_⟩
      have n3:=same_new hp3 (.tup ([.ref t1]++[.int u1.m,.int u1.h]))
      have m3:=s1.trans (n1.trans (n2.trans n3))
      refine ⟨_,rfl,(by show 1≤sizeLine;decide),fun p4 hp4=>?_⟩
      have n4:=same_new hp4 (.tup [v1])
      refine ⟨_,rfl,_,rfl,a2,_,rfl,q2.ts (m3.trans n4).ts,cut1_ne _ _ _,fun p5 hp5=>?_⟩
      have n5:=same_new hp5 (.tup (cutV [f2,.int u2.m,.int u2.h] (some 1) none))
      refine ⟨p4,p5,[v1],[.int u2.m,.int u2.h],rfl,rfl,SqT.of (n5 _ _ upd_same),SqT.of upd_same,by simp,(by show 3≤sizeLine;decide),(fun z=>nomatch z),fun _ p6 hp6=>?_⟩
      have n6:=same_new hp6 (.tup ([v1]++[.int u2.m,.int u2.h]))
      refine ⟨(by show 2≤sizeLine;decide),fun l hl=>?_⟩
      have n7:=same_new hl (.lst [.ref p3,.ref p6])
      have m47:=n4.trans (n5.trans (n6.trans n7))
      have ft:Dat K _ (frD (Lo.lowT (-Hh) S) (Lo.lowB (-Hh) S)) (.ref t1):=fr_mk (SqT.of ht1)
      refine kk l _ _ (m3.trans m47) upd_same ?_ (by simp)
      exact ⟨_,_,rfl,st_mk (s:=⟨Lo.lowT (-Hh) S,Lo.lowB (-Hh) S,u1.m,u1.h⟩) (SqT.of (m47 _ _ upd_same)) (ft.ts ((n1.trans (n2.trans n3)).trans m47).ts),_,_,rfl,st_mk (s:=⟨c.p,c.q,u2.m,u2.h⟩) (SqT.of (n7 _ _ upd_same)) (d1.ts (m3.trans m47).ts),rfl⟩
    have c':¬AS*AE < 0:=fun z=>cc (decide_eq_true z)
    rw [if_neg c'] at kk
    refine ⟨_,rfl,rfl,_,rfl,?_⟩
    refine ite2 (fun cc=>?_) (fun cc=>?_)
    · have e0:AS=0:=V.int.inj (of_decide_eq_true cc)
      rw [if_pos e0] at kk
      refine ⟨_,rfl,(by show 1≤sizeLine;decide),fun p4 hp4=>?_⟩
      have n4:=same_new hp4 (.tup [v1])
      refine ⟨_,rfl,_,rfl,a2,_,rfl,q2.ts n4.ts,cut1_ne _ _ _,fun p5 hp5=>?_⟩
      have n5:=same_new hp5 (.tup (cutV [f2,.int u2.m,.int u2.h] (some 1) none))
      refine ⟨p4,p5,[v1],[.int u2.m,.int u2.h],rfl,rfl,SqT.of (n5 _ _ upd_same),SqT.of upd_same,by simp,(by show 3≤sizeLine;decide),(fun z=>nomatch z),fun _ p6 hp6=>?_⟩
      have n6:=same_new hp6 (.tup ([v1]++[.int u2.m,.int u2.h]))
      refine ⟨(by show 1≤sizeLine;decide),fun l hl=>?_⟩
      have n7:=same_new hl (.lst [.ref p6])
      have m47:=n4.trans (n5.trans (n6.trans n7))
      refine kk l _ _ m47 upd_same ?_ (by simp)
      exact ⟨_,_,rfl,st_mk (s:=⟨c.p,c.q,u2.m,u2.h⟩) (SqT.of (n7 _ _ upd_same)) (d1.ts m47.ts),rfl⟩
    · have e0:¬AS=0:=fun z=>cc (decide_eq_true (congrArg V.int z))
      rw [if_neg e0] at kk
      refine ⟨_,rfl,(by show 1≤sizeLine;decide),fun p4 hp4=>?_⟩
      have n4:=same_new hp4 (.tup [v1])
      refine ⟨_,rfl,_,rfl,a1,_,rfl,q1.ts n4.ts,cut1_ne _ _ _,fun p5 hp5=>?_⟩
      have n5:=same_new hp5 (.tup (cutV [f1,.int u1.m,.int u1.h] (some 1) none))
      refine ⟨p4,p5,[v1],[.int u1.m,.int u1.h],rfl,rfl,SqT.of (n5 _ _ upd_same),SqT.of upd_same,by simp,(by show 3≤sizeLine;decide),(fun z=>nomatch z),fun _ p6 hp6=>?_⟩
      have n6:=same_new hp6 (.tup ([v1]++[.int u1.m,.int u1.h]))
      refine ⟨(by show 1≤sizeLine;decide),fun l hl=>?_⟩
      have n7:=same_new hl (.lst [.ref p6])
      have m47:=n4.trans (n5.trans (n6.trans n7))
      refine kk l _ _ m47 upd_same ?_ (by simp)
      exact ⟨_,_,rfl,st_mk (s:=⟨c.p,c.q,u1.m,u1.h⟩) (SqT.of (n7 _ _ upd_same)) (d1.ts m47.ts),rfl⟩
  obtain ⟨t6,ht6,hq6⟩:=t6
  obtain ⟨a0,rfl,s0⟩:=fr_el d0
  obtain ⟨a1,rfl,s1⟩:=fr_el d1
  obtain ⟨fa,ef,rfl,qf,ff⟩:=st_el df
  obtain ⟨ga,eg,rfl,qg,gg⟩:=st_el dg
  have oa:=ok.a.2.2.2.2
  have ob:=ok.b.2.2.2.2
  have bS:(c.a.m - c.b.m).natAbs < 2 ^ 46:=by omega
  have bH:(c.a.h - c.b.h).natAbs < 2 ^ 46:=by omega
  obtain ⟨cp0,cpq,_,cq⟩:=ok.e
  have bsp:sp.natAbs < 2 ^ 46:=by omega
  have bsq:sq.natAbs < 2 ^ 46:=by omega
  have bcp:c.p.natAbs < 2 ^ 46:=by omega
  have bcq:c.q.natAbs < 2 ^ 46:=by omega
  have small:∀{x:Int},x.natAbs < 2 ^ 46→Sm x:=fun h=>Nat.lt_of_lt_of_le h (by decide)
  have y1:=Ln.prod_small (x:=c.a.m - c.b.m) (y:=sp) (m:=46) (n:=46) bS bsp
  have y2:=Ln.prod_small (x:=c.a.h - c.b.h) (y:=sq) (m:=46) (n:=46) bH bsq
  have y3:=Ln.prod_small (x:=c.a.m - c.b.m) (y:=c.p) (m:=46) (n:=46) bS bcp
  have y4:=Ln.prod_small (x:=c.a.h - c.b.h) (y:=c.q) (m:=46) (n:=46) bH bcq
  have bAS:Sm ((c.a.m - c.b.m)*sp+(c.a.h - c.b.h)*sq):=Nat.lt_of_lt_of_le (m:=2 ^ 93) (by omega) (by decide)
  have bAE:Sm ((c.a.m - c.b.m)*c.p+(c.a.h - c.b.h)*c.q):=Nat.lt_of_lt_of_le (m:=2 ^ 93) (by omega) (by decide)
  have hS:((c.a.m - c.b.m)*sp+(c.a.h - c.b.h)*sq)*((c.a.m - c.b.m)*c.p+(c.a.h - c.b.h)*c.q) < 0→c.a.m - c.b.m≠0:=slope_ne q0 (by omega)
  refine ⟨_,pss_cons (ps_set (i:=4) nd rfl (Or.inl rfl) (pe_op op_sub (pe_ix ix_tup (pv 2) pe_int (fun _ _=>rfl)) (pe_ix ix_tup (pv 3) pe_int (fun _ _=>rfl)))) (pss_cons (ps_set (i:=5) nd rfl (Or.inl rfl) (pe_op op_sub (pe_ix ix_tup (pv 2) pe_int (fun _ _=>rfl)) (pe_ix ix_tup (pv 3) pe_int (fun _ _=>rfl)))) (pss_cons (ps_set (i:=6) nd rfl (Or.inl rfl) (pe_op op_add (pe_op op_mulK (pv 4) (pe_ix ix_tup (pv 0) pe_int (fun _ _=>rfl))) (pe_op op_mulK (pv 5) (pe_ix ix_tup (pv 0) pe_int (fun _ _=>rfl))))) (pss_cons (ps_set (i:=7) nd rfl (Or.inl rfl) (pe_op op_add (pe_op op_mulK (pv 4) (pe_ix ix_tup (pv 1) pe_int (fun _ _=>rfl))) (pe_op op_mulK (pv 5) (pe_ix ix_tup (pv 1) pe_int (fun _ _=>rfl))))) (pss_cons (ps_set (i:=8) nd rfl (Or.inl rfl) (pe_ifExp (pt_cmpR op_gt (pv 6) pe_int (nomark _)) (pv 2) (pv 3))) (pss_cons (ps_set (i:=9) nd rfl (Or.inl rfl) (pe_ifExp (pt_cmpR op_gt (pv 7) pe_int (nomark _)) (pv 2) (pv 3))) ht6))))),?_⟩
  refine ⟨_,rfl,_,_,_,_,rfl,rfl,qf,rfl,_,rfl,_,_,_,_,rfl,rfl,qg,rfl,_,_,rfl,rfl,?_⟩
  refine ⟨_,rfl,_,_,_,_,rfl,rfl,qf,rfl,_,rfl,_,_,_,_,rfl,rfl,qg,rfl,_,_,rfl,rfl,?_⟩
  refine ⟨_,rfl,_,rfl,_,_,_,_,rfl,rfl,s0,rfl,_,_,rfl,rfl,mulS (small bS) (small bsp),_,rfl,_,rfl,_,_,_,_,rfl,rfl,s0,rfl,_,_,rfl,rfl,mulS (small bH) (small bsq),_,_,rfl,rfl,?_⟩
  refine ⟨_,rfl,_,rfl,_,_,_,_,rfl,rfl,s1,rfl,_,_,rfl,rfl,mulS (small bS) (small bcp),_,rfl,_,rfl,_,_,_,_,rfl,rfl,s1,rfl,_,_,rfl,rfl,mulS (small bH) (small bcq),_,_,rfl,rfl,?_⟩
  have go:∀(u1 u2:St4) (w1 w2:V),(if 0 < (c.a.m - c.b.m)*sp+(c.a.h - c.b.h)*sq then c.a else c.b)=u1→(if 0 < (c.a.m - c.b.m)*c.p+(c.a.h - c.b.h)*c.q then c.a else c.b)=u2→Dat K H (stD u1) w1→Dat K H (stD u2) w2→
      t6 {nx:=fun _ H'=>Q .non H',rt:=Q} [some (.ref a0),some (.ref a1),some (.ref fa),some (.ref ga),some (.int (c.a.m - c.b.m)),some (.int (c.a.h - c.b.h)),some (.int ((c.a.m - c.b.m)*sp+(c.a.h - c.b.h)*sq)),some (.int ((c.a.m - c.b.m)*c.p+(c.a.h - c.b.h)*c.q)),some w1,some w2,none] H :=
    fun u1 u2 w1 w2 e1 e2 k1 k2=>hq6 _ _ _ _ u1 u2 w1 w2 bAS bAE (small bS) hS k1 k2 fun l us H' s' hl da n=>k l us H' s' hl (by rw [gs_of e1 e2];exact da) n
  refine ⟨_,rfl,_,_,rfl,rfl,_,rfl,?_⟩
  refine ite2 (fun c1=>?_) (fun c1=>?_)
  · have e1:(if 0 < (c.a.m - c.b.m)*sp+(c.a.h - c.b.h)*sq then c.a else c.b)=c.a:=if_pos (of_decide_eq_true c1)
    refine ⟨_,rfl,?_⟩
    refine ⟨_,rfl,_,_,rfl,rfl,_,rfl,?_⟩
    refine ite2 (fun c2=>⟨_,rfl,?_⟩) (fun c2=>⟨_,rfl,?_⟩)
    · exact go _ _ _ _ e1 (if_pos (of_decide_eq_true c2)) df df
    · exact go _ _ _ _ e1 (if_neg fun z=>c2 (decide_eq_true z)) df dg
  · have e1:(if 0 < (c.a.m - c.b.m)*sp+(c.a.h - c.b.h)*sq then c.a else c.b)=c.b:=if_neg fun z=>c1 (decide_eq_true z)
    refine ⟨_,rfl,?_⟩
    refine ⟨_,rfl,_,_,rfl,rfl,_,rfl,?_⟩
    refine ite2 (fun c2=>⟨_,rfl,?_⟩) (fun c2=>⟨_,rfl,?_⟩)
    · exact go _ _ _ _ e1 (if_pos (of_decide_eq_true c2)) dg df
    · exact go _ _ _ _ e1 (if_neg fun z=>c2 (decide_eq_true z)) dg dg
end
end Mine
namespace Mine
open PySem L2
local macro_rules | `(tactic| walk_at "mul") => `(tactic| first | exact mulS (by assumption) (by assumption) | exact mulS (by first | assumption | exact sm_of (by omega) | exact sm_of (by decide) | exact sm_mod (by decide) (by decide)) (by first | assumption | exact sm_of (by omega) | exact sm_of (by decide) | exact sm_mod (by decide) (by decide)))
local macro_rules | `(tactic| walk_at "rd1") => `(tactic| first
  | refine ⟨_,rfl,?_⟩
  | refine ⟨_,_,rfl,rfl,?_⟩
  | (refine' ⟨_,_,_,_,rfl,rfl,?sq,?ia,?k⟩;(case' sq=>first | assumption | exact Scr.l (by assumption));(case' ia=>first | rfl | assumption))
  | refine ⟨rfl,?_⟩
  | (refine ⟨?m,?_⟩;(case' m=>walk_at "mul"))
  | (refine ⟨?m,?_⟩;(case' m=>exact div_ok (by first | assumption | omega) (by assumption)))
  | (refine ⟨?m,?_⟩;(case' m=>show (0:Int) < _;decide))
  | (refine ⟨?m,?_⟩;(case' m=>exact ⟨by decide,by decide⟩))
  | (refine ⟨?m,?_⟩;(case' m=>exact ⟨by decide,by decide,by decide⟩)))
local macro_rules | `(tactic| walk_at "rd") => `(tactic| repeat walk_at "rd1")
noncomputable def spGr (K:PySem.W.Frag):Sp:=fun vs H Q _=>∃(x y:V) (A B:List St4),vs=[x,y]∧Dat K H (lnD A) x∧Ln.LineK A∧Dat K H (lnD B) y∧Ln.LineK B∧∀ v H',Same H H'→Dat K H' (lnD (up A B)) v→Q v H'
noncomputable def spLe (K:PySem.W.Frag):Sp:=fun vs H Q _=>∃(x y:V) (A B:List St4),vs=[x,y]∧Dat K H (lnD A) x∧Ln.LineK A∧Dat K H (lnD B) y∧Ln.LineK B∧(le A B).length≤1000∧∀ v H',Same H H'→Dat K H' (lnD (le A B)) v→Q v H'
section
variable {P:Program} {w:World} {K:PySem.W.Frag} {mg:Str→Option Value} {base:Heap}
theorem ok_gr (T:TopDef K mg "greater_line" s_greater_line) (TN:TopTup K mg "NOUGHT" [0,1]) (D_side_by_side:Def P w K mg base 2 "side_by_side" ["one","other"] (spSbs K)) (D_greater_stretches:Def P w K mg base 3 "greater_stretches" ["start","end","first","second"] (spGst K))
    (D_joined:Def P w K mg base 1 "joined" ["stretches"] (spJoined K)):Def P w K mg base 4 "greater_line" ["one","other"] (spGr K):=by
  refine def_of T sc_greater_line (fun _ _ _ _ _ _ us hl=>match us,hl with | [_,_],_=>rfl) (fun vs H Q E h=>?_) (fun f cdv A outer s H vs Q E hr h=>?_)
  · obtain ⟨x,y,A,B,rfl,_⟩:=h
    rfl
  obtain ⟨x,y,A,B,rfl,hx,la,hy,lb,k⟩:=h
  have nd:=sc_greater_line.nd
  obtain ⟨aN,M_NOUGHT,qN⟩:=TN.ex
  have slen:=Ln.sbs_len A B
  have fa:=la.few
  have fb:=lb.few
  obtain ⟨okp,_,_⟩:=Ln.sbs_way A B la.way lb.way
  refine ⟨_,(pss_cons (ps_set (i:=2) nd rfl (Or.inl rfl) (pe_lst pa_nil))
    (pss_cons (ps_set (i:=3) nd rfl (Or.inl rfl) (pe_glob (v:=V.ref aN) rfl M_NOUGHT rfl))
    (pss_cons (ps_for PassesOwn.never rfl (pi_list (pe_def D_side_by_side (hr.mono (by decide)) rfl (pa_cons (pv 0) (pa_cons (pv 1) pa_nil)))) (pg_tup rfl (pgs_cons (pg_name (i:=4) nd rfl (Or.inl rfl)) (pgs_cons (pg_name (i:=5) nd rfl (Or.inl rfl)) (pgs_cons (pg_name (i:=6) nd rfl (Or.inl rfl)) pgs_nil)))) (pss_cons (ps_expr (pe_bm PySem.F.plainAttrs_list PySem.F.slot_list_extend PySem.F.type_list_extend mt_extend (pv 2) (pa_cons (pe_def D_greater_stretches (hr.mono (by decide)) rfl (pa_cons (pv 3) (pa_cons (pv 4) (pa_cons (pv 5) (pa_cons (pv 6) pa_nil))))) pa_nil)))
    (pss_one (ps_set (i:=3) nd rfl (Or.inl rfl) (pv 4)))))
    (pss_one (ps_ret (pe_def D_joined (hr.mono (by decide)) rfl (pa_cons (pv 2) pa_nil))))))),?_⟩
  refine ⟨(by show 0≤sizeLine;decide),fun st hst=>?_⟩
  have u0:=same_new hst (.lst [])
  refine ⟨_,rfl,_,rfl,x,y,A,B,rfl,hx.ts u0.ts,la,hy.ts u0.ts,lb,fun l us H1 s1 hl0 hl dus=>?_⟩
  have lu:us.length=(Ln.sbs A B).length:=by rw [dus.len,List.length_map]
  have ne:l≠st:=fun z=>by subst z;rw [upd_same] at hl0;cases hl0
  refine ⟨l,rfl,⟨us,SqL.of hl⟩,?_⟩
  refine for_list (xs:=us) (fun i σ H'=>Same H H'∧H' l=some (.lst us)∧DatAll K H' ((Ln.sbs A B).map pcD) us∧∃(zs:List V) (G:List St4) (vS:V) (sp sq:Int) (o4 o5 o6:Option V),σ=[some x,some y,some (.ref st),some vS,o4,o5,o6]∧H' st=some (.lst zs)∧DatAll K H' (G.map stD) zs∧Dat K H' (frD sp sq) vS∧0≤sp∧sp≤sq∧0 < sq∧sq < 2 ^ 46∧G.length≤2*i∧G++Ln.gr sp sq ((Ln.sbs A B).drop i)=Ln.gr 0 1 (Ln.sbs A B))
    ⟨u0.trans s1,hl,dus,[],[],.ref aN,0,1,_,_,_,rfl,s1 _ _ upd_same,rfl,fr_mk (p:=0) (q:=1) (qN _),by decide,by decide,by decide,by decide,by simp,by simp⟩ (fun i σ H' _ z=>SqL.of z.2.1) (fun i v σ H' hv z=>?_) (fun σ H' z=>?_)
  · obtain ⟨sm,hl',dus',zs,G,vS,sp,sq,o4,o5,o6,rfl,hz,dz,dS,p0,pq,q0,qb,lG,eG⟩:=z
    have hi:i < us.length:=(List.getElem?_eq_some_iff.mp hv).1
    obtain ⟨c,hc,dc⟩:=pc_at' dus' hv
    obtain ⟨ca,e,f',g,rfl,q1,d1,df,dg⟩:=pc_el dc
    have okc:=okp c (List.mem_of_getElem? hc)
    obtain ⟨cp0,cpq,_,cq⟩:=okc.e
    refine ⟨ca,_,rfl,q1,rfl,_,_,rfl,_,_,rfl,_,_,rfl,rfl,?_⟩
    refine ⟨_,rfl,.inl ⟨rfl,_,SqL.of hz⟩,_,rfl,_,rfl,_,rfl,_,rfl,vS,e,f',g,sp,sq,c,rfl,dS,d1,df,dg,okc,p0,pq,q0,qb,fun l2 us2 H2 s2 hl2 da2 n2=>?_⟩
    have hz2:=s2 _ _ hz
    have lz:zs.length≤8900:=by rw [ln_len dz];omega
    refine ⟨st,l2,zs,us2,rfl,rfl,hz2,hl2,Nat.le_of_lt (small9000 (by omega)),?_⟩
    have t3:Tst H2 (upd H2 st (.lst (zs++us2))):=ts_mut hz2
    have tt:=s2.ts.trans t3
    refine ⟨_,rfl,?_⟩
    refine ⟨same_mut (sm.trans s2) hst _,by rw [upd_ne ne];exact s2 _ _ hl',dus'.ts tt,zs++us2,G++Ln.gs sp sq c,e,c.p,c.q,_,_,_,rfl,upd_same,?_,d1.ts tt,by omega,cpq,by omega,by omega,?_,?_⟩
    · rw [List.map_append]
      exact (dz.ts tt).append (da2.ts t3)
    · have:=Ln.gs_len sp sq c
      rw [List.length_append]
      omega
    · rw [← eG]
      obtain ⟨w1,w2⟩:=List.getElem?_eq_some_iff.mp hc
      rw [List.drop_eq_getElem_cons w1,w2,List.append_assoc]
      rfl
  · obtain ⟨sm,hl',dus',zs,G,vS,sp,sq,o4,o5,o6,rfl,hz,dz,dS,p0,pq,q0,qb,lG,eG⟩:=z
    rw [lu,List.drop_length] at eG
    have eG':G=Ln.gr 0 1 (Ln.sbs A B):=by rw [← eG];exact (List.append_nil G).symm
    refine ⟨_,rfl,.ref st,G,rfl,⟨st,zs,rfl,SqL.of hz,dz⟩,by omega,fun v H2 s2 dv=>?_⟩
    rw [eG'] at dv
    exact k v H2 (sm.trans s2) dv
theorem ok_le (T:TopDef K mg "lesser_line" s_lesser_line) (D_turned:Def P w K mg base 1 "turned" ["line"] (spTurned K)) (D_greater_line:Def P w K mg base 4 "greater_line" ["one","other"] (spGr K)):Def P w K mg base 5 "lesser_line" ["one","other"] (spLe K):=by
  refine def_of T sc_lesser_line (fun _ _ _ _ _ _ us hl=>match us,hl with | [_,_],_=>rfl) (fun vs H Q E h=>?_) (fun f cdv A outer s H vs Q E hr h=>?_)
  · obtain ⟨x,y,A,B,rfl,_⟩:=h
    rfl
  obtain ⟨x,y,A,B,rfl,hx,la,hy,lb,few,k⟩:=h
  have nd:=sc_lesser_line.nd
  have lA:Ln.LineK (A.map Ln.tnS):=⟨Ln.turned_line la.b,by simpa using la.few⟩
  have lB:Ln.LineK (B.map Ln.tnS):=⟨Ln.turned_line lb.b,by simpa using lb.few⟩
  refine ⟨_,(pss_one (ps_ret (pe_def D_turned (hr.mono (by decide)) rfl (pa_cons (pe_def D_greater_line (hr.mono (by decide)) rfl (pa_cons (pe_def D_turned (hr.mono (by decide)) rfl (pa_cons (pv 0) pa_nil)) (pa_cons (pe_def D_turned (hr.mono (by decide)) rfl (pa_cons (pv 1) pa_nil)) pa_nil))) pa_nil)))),?_⟩
  refine ⟨_,rfl,x,A,rfl,hx,la.few,fun v1 H1 s1 d1=>?_⟩
  refine ⟨_,rfl,y,B,rfl,hy.ts s1.ts,lb.few,fun v2 H2 s2 d2=>?_⟩
  refine ⟨v1,v2,_,_,rfl,d1.ts s2.ts,lA,d2,lB,fun v3 H3 s3 d3=>?_⟩
  have gl:(up (A.map Ln.tnS) (B.map Ln.tnS)).length≤1000:=by
    unfold le at few
    rw [List.length_map] at few
    exact few
  exact ⟨v3,_,rfl,d3,gl,fun v4 H4 s4 d4=>k v4 H4 (s1.trans (s2.trans (s3.trans s4))) d4⟩
end
end Mine
namespace Mine
open PySem L2
noncomputable def spStraight (K:PySem.W.Frag):Sp:=fun vs H Q _=>∃ m h:Int,vs=[.int m,.int h]∧∀ v H',Same H H'→Dat K H' (lnD [⟨1,1,m,h⟩]) v→Q v H'
noncomputable def spCut (K:PySem.W.Frag):Sp:=fun vs H Q _=>∃(x:V) (A:List St4),vs=[x]∧Dat K H (lnD A) x∧Ln.LineK A∧Ln.LineK (up A (St1 0))∧(cut A).length≤1000∧∀ v H',Same H H'→Dat K H' (lnD (cut A)) v→Q v H'
section
variable {P:Program} {w:World} {K:PySem.W.Frag} {mg:Str→Option Value} {base:Heap}
theorem ok_straight (T:TopDef K mg "straight" s_straight) (TW:TopTup K mg "WHOLE" [1,1]):Def P w K mg base 1 "straight" ["slope","height"] (spStraight K):=by
  refine def_of T sc_straight (fun _ _ _ _ _ _ us hl=>match us,hl with | [_,_],_=>rfl) (fun vs H Q E h=>?_) (fun f cdv A outer s H vs Q E hr h=>?_)
  · obtain ⟨m,h,rfl,_⟩:=h
    rfl
  obtain ⟨m,h,rfl,k⟩:=h
  have nd:=sc_straight.nd
  obtain ⟨aW,M_WHOLE,qW⟩:=TW.ex
  refine ⟨_,(pss_one (ps_ret (pe_tup (pa_cons (pe_tup (pa_cons (pe_glob (v:=V.ref aW) rfl M_WHOLE rfl) (pa_cons (pv 0) (pa_cons (pv 1) pa_nil)))) pa_nil)))),?_⟩
  refine ⟨_,rfl,_,rfl,(by show 3≤sizeLine;decide),fun t ht=>⟨(by show 1≤sizeLine;decide),fun u hu=>?_⟩⟩
  have u1:=same_new ht (.tup [.ref aW,.int m,.int h])
  have u2:=same_new hu (.tup [.ref t])
  refine k _ _ (u1.trans u2) ⟨u,_,rfl,SqT.of upd_same,_,_,rfl,?_,rfl⟩
  exact st_mk (s:=⟨1,1,m,h⟩) (SqT.of (u2 _ _ upd_same)) (fr_mk (p:=1) (q:=1) (qW _))
theorem ok_cut (T:TopDef K mg "cut_off" s_cut_off) (D_straight:Def P w K mg base 1 "straight" ["slope","height"] (spStraight K)) (D_greater_line:Def P w K mg base 4 "greater_line" ["one","other"] (spGr K)) (D_lesser_line:Def P w K mg base 5 "lesser_line" ["one","other"] (spLe K)):Def P w K mg base 6 "cut_off" ["line"] (spCut K):=by
  refine def_of T sc_cut_off (fun _ _ _ _ _ _ us hl=>match us,hl with | [_],_=>rfl) (fun vs H Q E h=>?_) (fun f cdv A outer s H vs Q E hr h=>?_)
  · obtain ⟨x,A,rfl,_⟩:=h
    rfl
  obtain ⟨x,A,rfl,hx,la,lu,few,k⟩:=h
  have nd:=sc_cut_off.nd
  have l0:Ln.LineK (St1 0):=⟨s0_line (by decide),by decide⟩
  have l1:Ln.LineK (St1 1):=⟨s1_line (by decide),by decide⟩
  refine ⟨_,(pss_one (ps_ret (pe_def D_lesser_line (hr.mono (by decide)) rfl (pa_cons (pe_def D_greater_line (hr.mono (by decide)) rfl (pa_cons (pv 0) (pa_cons (pe_def D_straight (hr.mono (by decide)) rfl (pa_cons pe_int (pa_cons pe_int pa_nil))) pa_nil))) (pa_cons (pe_def D_straight (hr.mono (by decide)) rfl (pa_cons pe_int (pa_cons pe_int pa_nil))) pa_nil))))),?_⟩
  refine ⟨_,rfl,0,0,rfl,fun v1 H1 s1 d1=>?_⟩
  refine ⟨x,v1,A,St1 0,rfl,hx.ts s1.ts,la,d1,l0,fun v2 H2 s2 d2=>?_⟩
  refine ⟨0,1,rfl,fun v3 H3 s3 d3=>?_⟩
  exact ⟨v2,v3,up A (St1 0),St1 1,rfl,d2.ts s3.ts,lu,d3,l1,few,fun v4 H4 s4 d4=>k v4 H4 (s1.trans (s2.trans (s3.trans s4))) d4⟩
end
end Mine
namespace Mine
open PySem L2
noncomputable abbrev GrV (H:Hp) (v:V) (g:Gr):Prop:=RwV H v g.rw
theorem GrV.tup {H:Hp} {v:V} {g:Gr} (h:GrV H v g):∃ a,v=.ref a∧H a=some (.tup (.str g.word::g.nums.map fun i:Nat=>.int (i:Int))):=by
  obtain ⟨a,rfl,e⟩:=h
  unfold Gr.rw at e
  rw [rowK_kV] at e
  exact ⟨a,rfl,e⟩
theorem at0 {x:V} {us:List V}:atI (x::us) 0=some x:=atI_nat (j:=0) rfl
theorem iteYv {a b:V} {A B:Prop} (h:a=b) (k:A):if decide (a=b)=true then A else B:=by rw [decide_eq_true h,if_pos rfl];exact k
theorem iteNv {a b:V} {A B:Prop} (h:a≠b) (k:B):if decide (a=b)=true then A else B:=by rw [decide_eq_false h,if_neg Bool.false_ne_true];exact k
noncomputable def leafL:Gr→List St4
  | .ne=>St1 0 | .al=>St1 1 | _=>lineP
noncomputable def RowL (Ls:List (List St4)) (F:List St4):Gr→Prop
  | .no i=>∃ A,Ls[i]?=some A∧A.length≤1000∧F=lineNo A
  | .fold u i j=>∃ A B,Ls[i]?=some A∧Ls[j]?=some B∧FoldOk u A B∧F=lineF u A B
  | g=>F=leafL g
noncomputable def spLeafLine (K:PySem.W.Frag):Sp:=fun vs H Q _=>∃ g:Gr,vs=[.str g.word]∧g.nums=[]∧∀ v H',Same H H'→Dat K H' (lnD (leafL g)) v→Q v H'
noncomputable def spFoldLine (K:PySem.W.Frag):Sp:=fun vs H Q _=>∃(u:W5) (x y:V) (A B:List St4),vs=[.str u.str,x,y]∧Dat K H (lnD A) x∧Dat K H (lnD B) y∧FoldOk u A B∧∀ v H',Same H H'→Dat K H' (lnD (lineF u A B)) v→Q v H'
noncomputable def spRowLine (K:PySem.W.Frag):Sp:=fun vs H Q _=>∃(x:V) (l:Addr) (g:Gr) (us:List V) (Ls:List (List St4)) (F:List St4),vs=[x,.ref l]∧GrV H x g∧H l=some (.lst us)∧DatAll K H (Ls.map lnD) us∧RowL Ls F g∧∀ v H',Same H H'→Dat K H' (lnD F) v→Q v H'
noncomputable def RowsL (gs:List Gr) (Ls:List (List St4)):Prop:=gs.length=Ls.length∧∀ i g,gs[i]?=some g→∃ F,Ls[i]?=some F∧RowL (Ls.take i) F g
noncomputable def spLastLine (K:PySem.W.Frag):Sp:=fun vs H Q _=>∃(l:Addr) (us:List V) (gs:List Gr) (Ls:List (List St4)) (F:List St4),vs=[.ref l]∧H l=some (.lst us)∧All2 (GrV H) us gs∧RowsL gs (Ls++[F])∧gs.length≤1000∧∀ v H',Same H H'→Dat K H' (lnD F) v→Q v H'
section
variable {P:Program} {w:World} {K:PySem.W.Frag} {mg:Str→Option Value} {base:Heap} {c:CCs}
theorem ok_leafLine (T:TopDef K mg "leaf_line" s_leaf_line) (D_straight:Def P w K mg base 1 "straight" ["slope","height"] (spStraight K)):Def P w K mg base 2 "leaf_line" ["word"] (spLeafLine K):=by
  refine def_of T sc_leaf_line (fun _ _ _ _ _ _ us hl=>match us,hl with | [_],_=>rfl) (fun vs H Q E h=>?_) (fun f cdv A outer s H vs Q E hr h=>?_)
  · obtain ⟨g,rfl,_⟩:=h
    rfl
  obtain ⟨g,rfl,hg,q⟩:=h
  have nd:=sc_leaf_line.nd
  refine ⟨_,(pss_cons (ps_if (pt_cmpR op_eq (pv 0) pe_str (nomark _)) (pss_one (ps_ret (pe_def D_straight (hr.mono (by omega)) rfl (pa_cons pe_int (pa_cons pe_int pa_nil))))) pss_nil)
    (pss_cons (ps_if (pt_cmpR op_eq (pv 0) pe_str (nomark _)) (pss_one (ps_ret (pe_def D_straight (hr.mono (by omega)) rfl (pa_cons pe_int (pa_cons pe_int pa_nil))))) pss_nil)
    (pss_one (ps_ret (pe_def D_straight (hr.mono (by omega)) rfl (pa_cons pe_int (pa_cons pe_int pa_nil))))))),?_⟩
  cases g with
  | no i=>cases hg
  | fold u i j=>cases hg
  | ne=>exact ⟨_,rfl,rfl,_,rfl,ite_yes rfl ⟨0,0,rfl,q⟩⟩
  | al=>exact ⟨_,rfl,rfl,_,rfl,ite_no (by decide +kernel) ⟨_,rfl,rfl,_,rfl,ite_yes rfl ⟨0,1,rfl,q⟩⟩⟩
  | p=>exact ⟨_,rfl,rfl,_,rfl,ite_no (by decide +kernel) ⟨_,rfl,rfl,_,rfl,ite_no (by decide +kernel) ⟨1,0,rfl,q⟩⟩⟩
  | q=>exact ⟨_,rfl,rfl,_,rfl,ite_no (by decide +kernel) ⟨_,rfl,rfl,_,rfl,ite_no (by decide +kernel) ⟨1,0,rfl,q⟩⟩⟩
theorem ok_foldLine (T:TopDef K mg "fold_line" s_fold_line) (D_added:Def P w K mg base 3 "added" ["one","other"] (spAdded K)) (D_turned:Def P w K mg base 1 "turned" ["line"] (spTurned K)) (D_raised:Def P w K mg base 1 "raised" ["line","by"] (spRaised K)) (D_greater_line:Def P w K mg base 4 "greater_line" ["one","other"] (spGr K)) (D_lesser_line:Def P w K mg base 5 "lesser_line" ["one","other"] (spLe K)) (D_cut_off:Def P w K mg base 6 "cut_off" ["line"] (spCut K)):Def P w K mg base 7 "fold_line" ["word","one","other"] (spFoldLine K):=by
  refine def_of T sc_fold_line (fun _ _ _ _ _ _ us hl=>match us,hl with | [_,_,_],_=>rfl) (fun vs H Q E h=>?_) (fun f cdv A outer s H vs Q E hr h=>?_)
  · obtain ⟨u,x,y,A,B,rfl,_⟩:=h
    rfl
  obtain ⟨u,x,y,A,B,rfl,dx,dy,ok,q⟩:=h
  have nd:=sc_fold_line.nd
  refine ⟨_,(pss_cons (ps_if (pt_cmpR op_eq (pv 0) pe_str (nomark _)) (pss_one (ps_ret (pe_def D_cut_off (hr.mono (by omega)) rfl (pa_cons (pe_def D_added (hr.mono (by omega)) rfl (pa_cons (pv 1) (pa_cons (pv 2) pa_nil))) pa_nil)))) pss_nil)
    (pss_cons (ps_if (pt_cmpR op_eq (pv 0) pe_str (nomark _)) (pss_one (ps_ret (pe_def D_cut_off (hr.mono (by omega)) rfl (pa_cons (pe_def D_raised (hr.mono (by omega)) rfl (pa_cons (pe_def D_added (hr.mono (by omega)) rfl (pa_cons (pv 1) (pa_cons (pv 2) pa_nil))) (pa_cons (pe_un un_neg pe_int) pa_nil))) pa_nil)))) pss_nil)
    (pss_cons (ps_if (pt_cmpR op_eq (pv 0) pe_str (nomark _)) (pss_one (ps_ret (pe_def D_greater_line (hr.mono (by omega)) rfl (pa_cons (pv 1) (pa_cons (pv 2) pa_nil))))) pss_nil)
    (pss_cons (ps_if (pt_cmpR op_eq (pv 0) pe_str (nomark _)) (pss_one (ps_ret (pe_def D_lesser_line (hr.mono (by omega)) rfl (pa_cons (pv 1) (pa_cons (pv 2) pa_nil))))) pss_nil)
    (pss_one (ps_ret (pe_def D_cut_off (hr.mono (by omega)) rfl (pa_cons (pe_def D_raised (hr.mono (by omega)) rfl (pa_cons (pe_def D_added (hr.mono (by omega)) rfl (pa_cons (pe_def D_turned (hr.mono (by omega)) rfl (pa_cons (pv 1) pa_nil)) (pa_cons (pv 2) pa_nil))) (pa_cons pe_int pa_nil))) pa_nil)))))))),?_⟩
  cases u with
  | more =>
    obtain ⟨ka,kb,co⟩:=ok
    refine ⟨_,rfl,rfl,_,rfl,ite_yes rfl ?_⟩
    refine ⟨_,rfl,_,rfl,x,y,A,B,rfl,dx,ka,dy,kb,fun v1 H1 s1 d1=>?_⟩
    exact ⟨v1,addL A B,rfl,d1,co.k,co.u,co.c,fun v2 H2 s2 d2=>q v2 H2 (s1.trans s2) d2⟩
  | less =>
    obtain ⟨ka,kb,few,co⟩:=ok
    refine ⟨_,rfl,rfl,_,rfl,ite_no (by decide +kernel) ⟨_,rfl,rfl,_,rfl,ite_yes rfl ?_⟩⟩
    refine ⟨_,rfl,_,rfl,x,y,A,B,rfl,dx,ka,dy,kb,fun v1 H1 s1 d1=>?_⟩
    refine ⟨_,rfl,v1,addL A B,-1,rfl,d1,few,fun v2 H2 s2 d2=>?_⟩
    exact ⟨v2,_,rfl,d2,co.k,co.u,co.c,fun v3 H3 s3 d3=>q v3 H3 ((s1.trans s2).trans s3) d3⟩
  | greater =>
    obtain ⟨ka,kb⟩:=ok
    refine ⟨_,rfl,rfl,_,rfl,ite_no (by decide +kernel) ⟨_,rfl,rfl,_,rfl,ite_no (by decide +kernel) ⟨_,rfl,rfl,_,rfl,ite_yes rfl ?_⟩⟩⟩
    exact ⟨_,rfl,_,rfl,x,y,A,B,rfl,dx,ka,dy,kb,q⟩
  | lesser =>
    obtain ⟨ka,kb,few⟩:=ok
    refine ⟨_,rfl,rfl,_,rfl,ite_no (by decide +kernel) ⟨_,rfl,rfl,_,rfl,ite_no (by decide +kernel) ⟨_,rfl,rfl,_,rfl,ite_no (by decide +kernel) ⟨_,rfl,rfl,_,rfl,ite_yes rfl ?_⟩⟩⟩⟩
    exact ⟨_,rfl,_,rfl,x,y,A,B,rfl,dx,ka,dy,kb,few,q⟩
  | leads =>
    obtain ⟨fa,kt,kb,few,co⟩:=ok
    refine ⟨_,rfl,rfl,_,rfl,ite_no (by decide +kernel) ⟨_,rfl,rfl,_,rfl,ite_no (by decide +kernel) ⟨_,rfl,rfl,_,rfl,ite_no (by decide +kernel) ⟨_,rfl,rfl,_,rfl,ite_no (by decide +kernel) ?_⟩⟩⟩⟩
    refine ⟨_,rfl,x,A,rfl,dx,fa,fun v0 H0 s0 d0=>?_⟩
    refine ⟨_,rfl,v0,y,A.map Ln.tnS,B,rfl,d0,kt,dy.ts s0.ts,kb,fun v1 H1 s1 d1=>?_⟩
    refine ⟨v1,addL (A.map Ln.tnS) B,1,rfl,d1,few,fun v2 H2 s2 d2=>?_⟩
    exact ⟨v2,_,rfl,d2,co.k,co.u,co.c,fun v3 H3 s3 d3=>q v3 H3 (((s0.trans s1).trans s2).trans s3) d3⟩
theorem ok_rowLine (T:TopDef K mg "row_line" s_row_line) (Z_len:mg "len"=none) (D_leaf_line:Def P w K mg base 2 "leaf_line" ["word"] (spLeafLine K)) (D_turned:Def P w K mg base 1 "turned" ["line"] (spTurned K)) (D_raised:Def P w K mg base 1 "raised" ["line","by"] (spRaised K)) (D_fold_line:Def P w K mg base 7 "fold_line" ["word","one","other"] (spFoldLine K)):Def P w K mg base 8 "row_line" ["row","lines"] (spRowLine K):=by
  refine def_of T sc_row_line (fun _ _ _ _ _ _ us hl=>match us,hl with | [_,_],_=>rfl) (fun vs H Q E h=>?_) (fun f cdv A outer s H vs Q E hr h=>?_)
  · obtain ⟨x,l,g,us,Ls,F,rfl,_⟩:=h
    rfl
  obtain ⟨x,l,g,us,Ls,F,rfl,gv,el,da,rl,q⟩:=h
  have nd:=sc_row_line.nd
  obtain ⟨a,rfl,e⟩:=gv.tup
  have at_:∀{i:Nat} {A:List St4},Ls[i]?=some A→∃ y,atI us (i:Int)=some y∧Dat K H (lnD A) y:=fun {i A} h=>by
    obtain ⟨y,hy,dy⟩:=da.get (i:=i) (d:=lnD A) (by rw [List.getElem?_map,h];rfl)
    exact ⟨y,atI_nat hy,dy⟩
  refine ⟨_,(pss_cons (ps_if (pt_cmpR op_eq (pe_callB call_len rfl Z_len (by decide +kernel) (pa_cons (pv 0) pa_nil)) pe_int (nomark _)) (pss_one (ps_ret (pe_def D_leaf_line (hr.mono (by omega)) rfl (pa_cons (pe_ix ix_tup (pv 0) pe_int (fun _ _=>rfl)) pa_nil)))) pss_nil)
    (pss_cons (ps_if (pt_cmpR op_eq (pe_callB call_len rfl Z_len (by decide +kernel) (pa_cons (pv 0) pa_nil)) pe_int (nomark _)) (pss_one (ps_ret (pe_def D_raised (hr.mono (by omega)) rfl (pa_cons (pe_def D_turned (hr.mono (by omega)) rfl (pa_cons (pe_ix ix_list (pv 1) (pe_ix ix_tup (pv 0) pe_int (fun _ _=>rfl)) (fun _ _=>rfl)) pa_nil)) (pa_cons pe_int pa_nil))))) pss_nil)
    (pss_one (ps_ret (pe_def D_fold_line (hr.mono (by omega)) rfl (pa_cons (pe_ix ix_tup (pv 0) pe_int (fun _ _=>rfl)) (pa_cons (pe_ix ix_list (pv 1) (pe_ix ix_tup (pv 0) pe_int (fun _ _=>rfl)) (fun _ _=>rfl)) (pa_cons (pe_ix ix_list (pv 1) (pe_ix ix_tup (pv 0) pe_int (fun _ _=>rfl)) (fun _ _=>rfl)) pa_nil)))))))),?_⟩
  cases g with
  | no i =>
    obtain ⟨A,hA,few,rfl⟩:=rl
    obtain ⟨y,ay,dy⟩:=at_ hA
    refine ⟨_,rfl,_,_,rfl,.inr ⟨_,SqT.of e,rfl⟩,rfl,_,rfl,iteNv (fun z=>absurd (V.int.inj z) (show ¬ (((2:Nat):Int)=1) by decide)) ?_⟩
    refine ⟨_,rfl,_,_,rfl,.inr ⟨_,SqT.of e,rfl⟩,rfl,_,rfl,iteYv rfl ?_⟩
    refine ⟨_,rfl,_,rfl,_,_,_,_,rfl,rfl,SqT.of e,atI_nat (j:=1) rfl,_,_,_,_,rfl,rfl,SqL.of el,ay,y,A,rfl,dy,few,fun v1 H1 s1 d1=>?_⟩
    exact ⟨v1,A.map Ln.tnS,1,rfl,d1,by rw [List.length_map];exact few,fun v2 H2 s2 d2=>q v2 H2 (s1.trans s2) d2⟩
  | fold u i j =>
    obtain ⟨A,B,hA,hB,ok,rfl⟩:=rl
    obtain ⟨y,ay,dy⟩:=at_ hA
    obtain ⟨z,az,dz⟩:=at_ hB
    refine ⟨_,rfl,_,_,rfl,.inr ⟨_,SqT.of e,rfl⟩,rfl,_,rfl,iteNv (fun z=>absurd (V.int.inj z) (show ¬ (((3:Nat):Int)=1) by decide)) ?_⟩
    refine ⟨_,rfl,_,_,rfl,.inr ⟨_,SqT.of e,rfl⟩,rfl,_,rfl,iteNv (fun z=>absurd (V.int.inj z) (show ¬ (((3:Nat):Int)=2) by decide)) ?_⟩
    exact ⟨_,rfl,_,_,_,_,rfl,rfl,SqT.of e,at0,_,rfl,_,rfl,_,_,_,_,rfl,rfl,SqT.of e,atI_nat (j:=1) rfl,_,_,_,_,rfl,rfl,SqL.of el,ay,_,rfl,_,rfl,_,_,_,_,rfl,rfl,SqT.of e,atI_nat (j:=2) rfl,_,_,_,_,rfl,rfl,SqL.of el,az,u,y,z,A,B,rfl,dy,dz,ok,q⟩
  | ne =>
    have hF:F=leafL .ne:=rl
    subst hF
    refine ⟨_,rfl,_,_,rfl,.inr ⟨_,SqT.of e,rfl⟩,rfl,_,rfl,iteYv rfl ?_⟩
    exact ⟨_,rfl,_,_,_,_,rfl,rfl,SqT.of e,at0,.ne,rfl,rfl,q⟩
  | al =>
    have hF:F=leafL .al:=rl
    subst hF
    refine ⟨_,rfl,_,_,rfl,.inr ⟨_,SqT.of e,rfl⟩,rfl,_,rfl,iteYv rfl ?_⟩
    exact ⟨_,rfl,_,_,_,_,rfl,rfl,SqT.of e,at0,.al,rfl,rfl,q⟩
  | p =>
    have hF:F=leafL .p:=rl
    subst hF
    refine ⟨_,rfl,_,_,rfl,.inr ⟨_,SqT.of e,rfl⟩,rfl,_,rfl,iteYv rfl ?_⟩
    exact ⟨_,rfl,_,_,_,_,rfl,rfl,SqT.of e,at0,.p,rfl,rfl,q⟩
  | q =>
    have hF:F=leafL .q:=rl
    subst hF
    refine ⟨_,rfl,_,_,rfl,.inr ⟨_,SqT.of e,rfl⟩,rfl,_,rfl,iteYv rfl ?_⟩
    exact ⟨_,rfl,_,_,_,_,rfl,rfl,SqT.of e,at0,.q,rfl,rfl,q⟩
theorem ok_lastLine (T:TopDef K mg "last_line" s_last_line) (D_row_line:Def P w K mg base 8 "row_line" ["row","lines"] (spRowLine K)):Def P w K mg base 9 "last_line" ["rows"] (spLastLine K):=by
  refine def_of T sc_last_line (fun _ _ _ _ _ _ us hl=>match us,hl with | [_],_=>rfl) (fun vs H Q E h=>?_) (fun f cdv A outer s H vs Q E hr h=>?_)
  · obtain ⟨l,us,gs,Ls,F,rfl,_⟩:=h
    rfl
  obtain ⟨l,us,gs,Ls,F,rfl,el,al,⟨hl2,tb⟩,hz,q⟩:=h
  have nd:=sc_last_line.nd
  refine ⟨_,(pss_cons (ps_set (i:=1) nd rfl (Or.inl rfl) (pe_lst pa_nil))
    (pss_cons (ps_for PassesOwn.never rfl (pi_list (pv 0)) (pg_name (i:=2) nd rfl (Or.inl rfl)) (pss_one (ps_expr (pe_bm PySem.F.plainAttrs_list PySem.F.slot_list_append PySem.F.type_list_append mt_append (pv 1) (pa_cons (pe_def D_row_line (hr.mono (by omega)) rfl (pa_cons (pv 2) (pa_cons (pv 1) pa_nil))) pa_nil)))))
    (pss_one (ps_ret (pe_ix ix_list (pv 1) (pe_un un_neg pe_int) (fun _ _=>rfl)))))),?_⟩
  refine ⟨(by show 0≤sizeLine;decide),fun D hD=>?_⟩
  have s1:=same_new hD (.lst [])
  have hl1:=al.len
  refine ⟨_,rfl,l,rfl,⟨_,SqL.of (s1 _ _ el)⟩,?_⟩
  refine for_list (xs:=us) (fun i σ H'=>Same H H'∧∃(ms:List V) (o:Option V),σ=[some (.ref l),some (.ref D),o]∧H' D=some (.lst ms)∧DatAll K H' (((Ls++[F]).take i).map lnD) ms)
    ⟨s1,[],_,rfl,upd_same,rfl⟩ (fun i σ H' _ z=>SqL.of (z.1 _ _ el)) (fun i v σ H' hv z=>?_) (fun σ H' z=>?_)
  · obtain ⟨sm,ms,o,rfl,eD,dm⟩:=z
    obtain ⟨g,hg,gv⟩:=al.get i v hv
    obtain ⟨x,hx,rl⟩:=tb i g hg
    have hi:i < us.length:=(List.getElem?_eq_some_iff.mp hv).1
    refine ⟨_,rfl,.inl ⟨rfl,_,SqL.of eD⟩,_,rfl,_,rfl,v,D,g,ms,_,_,rfl,RwV.to (Kp.of sm) _ _ gv,eD,dm,rl,fun y H2 s2 dy=>?_⟩
    have eD2:=s2 _ _ eD
    have lm:ms.length≤1000:=by
      rw [dm.len,List.length_map,List.length_take]
      omega
    refine ⟨D,_,_,rfl,rfl,eD2,Nat.lt_of_le_of_lt lm (by decide),?_⟩
    have t2:Tst H2 (upd H2 D (.lst (ms++[y]))):=ts_mut eD2
    refine ⟨fun b o hb=>by rw [upd_ne (ne_of_none hb hD)];exact s2 _ _ (sm _ _ hb),ms++[y],_,rfl,upd_same,?_⟩
    rw [List.take_add_one,hx,List.map_append]
    exact ((dm.ts s2.ts).ts t2).snoc (dy.ts t2)
  · obtain ⟨sm,ms,o,rfl,eD,dm⟩:=z
    rw [show us.length=(Ls++[F]).length by rw [hl1,hl2],List.take_length,List.map_append] at dm
    have hlm:=dm.len
    obtain ⟨y,hy,dy⟩:=dm.get (i:=Ls.length) (d:=lnD F) (by
      rw [List.getElem?_append_right (by simp)]
      simp)
    have hm:ms.length=Ls.length+1:=by rw [hlm];simp
    refine ⟨_,rfl,_,rfl,_,_,_,y,rfl,rfl,SqL.of eD,?_,q y H' sm dy⟩
    unfold atI ixN
    rw [if_neg (by decide),if_pos (by omega)]
    show ms[((-1:Int)+(ms.length:Nat)).toNat]?=some y
    rw [show ((-1:Int)+(ms.length:Nat)).toNat=Ls.length by omega]
    exact hy
end
end Mine
namespace Mine
open PySem L2
theorem cutS (x:V) (us:List V):cutV (x::us) (some 1) none=us:=by
  unfold cutV
  rw [show _root_.HT.sIx (x::us).length 0 (some 1)=1 from by
    rw [show (some (1:Int))=some ((1:Nat):Int) from rfl,_root_.HT.sIx_nat,List.length_cons];omega,_root_.HT.sIx_none]
  show List.take ((x::us).length - 1) us=us
  rw [List.length_cons,Nat.add_sub_cancel,List.take_length]
theorem sl1 {K:PySem.W.Frag} {H:Hp} {a:Addr} {x:V} {us:List V} {Q:VK} (e:H a=some (.tup (x::us))) (h:∀ p,H p=none→Q (.ref p) (upd H p (.tup us))):rSlA K (.ref a) (some 1) none H Q:=by
  refine ⟨a,_,rfl,SqT.of e,fun z=>?_,fun _ p=>?_⟩
  · have hix0:_root_.HT.sIx (x::us).length 0 (some 1)=1:=by
      rw [show (some (1:Int))=some ((1:Nat):Int) from rfl,_root_.HT.sIx_nat,List.length_cons];omega
    exact absurd (hix0.symm.trans z) (by decide)
  · intro hp'
    rw [cutS]
    exact h _ hp'
end Mine
namespace Mine
open PySem L2
noncomputable def spHow:Sp:=fun vs H Q _=>∃(x:Str) (n:Int),vs=[.str x]∧PyProof.Rows.KTD.datumAt x TK=some n∧Q (.int n) H
noncomputable def spAhead:Sp:=fun vs H Q _=>∃(i p:Int),vs=[.int i,.int p]∧0≤i∧i < p∧Q (.bl true) H
noncomputable def spIsRow:Sp:=fun vs H Q _=>∃(x:V) (k:Nat) (g:Gr),vs=[x,.int (k:Int)]∧GrV H x g∧GrOk k g∧k < 400∧∀ H',Same H H'→Q (.bl true) H'
noncomputable def spFault:Sp:=fun vs H Q _=>∃(l:Addr) (us:List V) (gs:List Gr),vs=[.ref l]∧H l=some (.lst us)∧All2 (GrV H) us gs∧GrsOk gs∧gs≠[]∧gs.length≤400∧∀ H',Same H H'→Q .non H'
theorem atW {ws:List Int} {i:Nat} (h:i < ws.length):atI (ws.map V.int) (i:Int)=some (.int (ws.getD i 0)):=atI_nat (by rw [List.getElem?_map,List.getD_eq_getElem?_getD,List.getElem?_eq_getElem h];rfl)
noncomputable abbrev irN:List Str:=["thing","place"]
noncomputable def irArg (s:Stmt):Expr:=match s with
  | .Return (some (.Call _ [e] _ _)) _=>e
  | _=>.Constant .none 0 ⟨0,0,0,0⟩
section
variable {P:Program} {w:World} {K:PySem.W.Frag} {mg:Str→Option Value} {base:Heap} {c:CCs}
theorem ok_isWhole (T:TopDef K mg "is_whole" s_is_whole) (Z_isinstance:mg "isinstance"=none) (Z_int:mg "int"=none) (Z_bool:mg "bool"=none) (kb:PySem.W.kitOne K (.type "int") (.type "bool")=some false):Def P w K mg base 1 "is_whole" ["thing"] spWholeL:=by
  refine def_of T sc_is_whole (fun _ _ _ _ _ _ us hl=>match us,hl with | [_],_=>rfl) (fun vs H Q E h=>?_) (fun f cdv A outer s H vs Q E hr h=>?_)
  · obtain ⟨i,rfl,_⟩:=h
    rfl
  obtain ⟨i,rfl,q⟩:=h
  have nd:=sc_is_whole.nd
  refine ⟨_,(pss_one (ps_ret (pe_and (pe_callB call_isi rfl Z_isinstance (by decide +kernel) (pa_cons (pv 0) (pa_cons (pe_bltn (v:=V.ty "int") rfl Z_int (by decide +kernel) rfl) pa_nil))) (pe_one (pe_not (pe_callB call_isi rfl Z_isinstance (by decide +kernel) (pa_cons (pv 0) (pa_cons (pe_bltn (v:=V.ty "bool") rfl Z_bool (by decide +kernel) rfl) pa_nil)))))))),?_⟩
  exact ⟨_,rfl,_,_,_,_,true,rfl,(fun _ h=>h),TyOf.int _,kit_same,_,rfl,iteT ⟨_,rfl,_,_,_,_,false,rfl,(fun _ h=>h),TyOf.int _,kb,_,rfl,q⟩⟩
theorem sc_how:FnScope ["word"] ["word"] (defScope s_how_many_it_takes):=⟨rfl,rfl,rfl,by decide +kernel,rfl,by decide +kernel,by decide +kernel⟩
theorem ok_how (T:TopDef K mg "how_many_it_takes" s_how_many_it_takes) (P_TAKEN:TopDict K mg "TAKEN" TK):Def P w K mg base 1 "how_many_it_takes" ["word"] spHow:=by
  refine def_of T sc_how (fun _ _ _ _ _ _ us hl=>match us,hl with | [_],_=>rfl) (fun vs H Q E h=>?_) (fun f cdv A outer s H vs Q E hr h=>?_)
  · obtain ⟨r,n,rfl,_⟩:=h
    rfl
  obtain ⟨x,n,rfl,e,q⟩:=h
  have nd:=sc_how.nd
  refine ⟨_,(pss_one (ps_ret (pe_tget P_TAKEN rfl (pv 0) ⟨rfl,rfl,rfl,rfl⟩))),?_⟩
  refine ⟨_,rfl,_,rfl,?_⟩
  rw [e]
  exact q
theorem sc_ahead:FnScope irN ["thing","place"] (defScope s_is_place_ahead):=⟨rfl,rfl,rfl,by decide +kernel,rfl,by decide +kernel,by decide +kernel⟩
theorem ok_ahead (T:TopDef K mg "is_place_ahead" s_is_place_ahead) (D_is_whole:Def P w K mg base 1 "is_whole" ["thing"] spWholeL):Def P w K mg base 2 "is_place_ahead" ["thing","place"] spAhead:=by
  refine def_of T sc_ahead (fun _ _ _ _ _ _ us hl=>match us,hl with | [_,_],_=>rfl) (fun vs H Q E h=>?_) (fun f cdv A outer s H vs Q E hr h=>?_)
  · obtain ⟨i,p,rfl,_⟩:=h
    rfl
  obtain ⟨i,p,rfl,h0,h1,q⟩:=h
  have nd:=sc_ahead.nd
  refine ⟨_,(pss_one (ps_ret (pe_and (pe_def D_is_whole (hr.mono (by decide)) rfl (pa_cons (pv 0) pa_nil)) (pe_one (pe_chain op_le op_lt pe_int (pv 0) (pv 1)))))),?_⟩
  refine ⟨_,rfl,i,rfl,_,rfl,iteT ?_⟩
  refine ⟨_,rfl,_,_,rfl,rfl,_,rfl,?_⟩
  rw [if_pos (decide_eq_true h0)]
  refine ⟨_,rfl,_,_,rfl,rfl,?_⟩
  show Q (.bl (decide (i < p))) H
  rw [decide_eq_true h1]
  exact q
theorem sc_isRow:FnScope irN ["thing","place"] (defScope s_is_row):=⟨rfl,rfl,rfl,by decide +kernel,rfl,by decide +kernel,by decide +kernel⟩
theorem ok_isRow (T:TopDef K mg "is_row" s_is_row) (Z_isinstance:mg "isinstance"=none) (Z_tuple:mg "tuple"=none) (Z_len:mg "len"=none) (Z_str:mg "str"=none) (Z_all:mg "all"=none) {tm:Tok} (M_MOST_ROWS:mg "MOST_ROWS"=some (.int 400 tm))
    (D_how_many_it_takes:Def P w K mg base 1 "how_many_it_takes" ["word"] spHow) (D_is_place_ahead:Def P w K mg base 2 "is_place_ahead" ["thing","place"] spAhead):Def P w K mg base 3 "is_row" ["thing","place"] spIsRow:=by
  refine def_of T sc_isRow (fun _ _ _ _ _ _ us hl=>match us,hl with | [_,_],_=>rfl) (fun vs H Q E h=>?_) (fun f cdv A outer s H vs Q E hr h=>?_)
  · obtain ⟨x,k,g,rfl,_⟩:=h
    rfl
  obtain ⟨x,k,g,rfl,gv,go,hk,q⟩:=h
  have nd:=sc_isRow.nd
  have gl:=g.len
  obtain ⟨a,rfl,e⟩:=gv.tup
  have cm:∃ te,PE (cxOf CX0 P w K mg base irN "is_row" (defScope s_is_row) f cdv A outer s H E).nox (irArg ((defBody s_is_row).getD 2 (.Pass ⟨0,0,0,0⟩))) te∧∀(Q':VK),(∀ D H4,Same H H4→H4 D=some (.lst (g.nums.map fun _=>.bl true))→Q' (.ref D) H4)→te [some (.ref a),some (.int (k:Int))] H Q':=by
    refine ⟨_,(pe_compF rfl (pi_tup (pe_slice sl_tupA (pv 0) (po_some pe_int) po_none)) rfl (by decide +kernel) (by decide +kernel) rfl (show ∀ p∈Scope.names _,p.2=NameKind.free→List.lookup p.1 (defScope s_is_row).names=some .cell∨List.lookup p.1 (defScope s_is_row).names=some .free by decide +kernel) (fa_cons (j:=1) rfl (Or.inl rfl) (by decide +kernel) (Or.inl rfl) fa_nil) (show (["index","place"]:List Str).Nodup by decide +kernel) (fun _ _ _ _=>pif_nil) (fun _ _ _ _=>(pe_def D_is_place_ahead (hr.mono (by decide)) rfl (pa_cons (pv 0) (pa_cons (pv 1) pa_nil))))),?_⟩
    intro Q' fin
    refine comp_from ?_
    refine ⟨_,rfl,_,rfl,?_⟩
    dsimp only [tNoPart]
    refine sl1 (K:=K) e fun p1 hp1=>?_
    refine ⟨p1,rfl,⟨_,SqT.of upd_same⟩,?_⟩
    have sp:=same_new hp1 (.tup (g.nums.map fun i:Nat=>V.int (i:Int)))
    refine comp_mapT (K:=K) (ts:=g.nums) (R:=fun _ v i=>v=V.int ((i:Nat):Int)) (xs:=g.nums.map fun i:Nat=>V.int (i:Int)) (fun _=>.bl true) (fun _ _ v t _ h=>h) (fun l H'=>l=p1∧H'=upd H p1 (.tup (g.nums.map fun i:Nat=>V.int (i:Int)))) (fun R h=>h p1 _ ⟨rfl,rfl⟩) (fun l H' h=>by obtain ⟨rfl,rfl⟩:=h;exact ⟨upd_same,Same.refl _⟩) (by rw [List.length_map];omega)
      ?_ (fun v i H' N hi hv hN=>?_) (fun D H4 s4 hD eD=>fin D H4 (sp.trans s4) eD)
    · generalize g.nums=is
      induction is with
      | nil=>exact .nil
      | cons i r ih=>exact .cons rfl ih
    · subst hv
      have:=go i hi
      exact ⟨_,rfl,_,rfl,(i:Int),(k:Int),rfl,by omega,by omega,hN _ (Same.refl _)⟩
  obtain ⟨tC,htC,hqC⟩:=cm
  refine ⟨_,(pss_cons (ps_if (PW.pt (pw_or (pt_cmpR op_ge (pv 1) (pe_glob (v:=V.int 400) rfl M_MOST_ROWS ⟨_,rfl⟩) (nomark _)) (pw_or (pt_not (pt_val (pe_callB call_isiT rfl Z_isinstance (by decide +kernel) (pa_cons (pv 0) (pa_cons (pe_bltn (v:=V.ty "tuple") rfl Z_tuple (by decide +kernel) rfl) pa_nil))))) (pw_or1 (pt_cmpR op_eq (pe_callB call_len rfl Z_len (by decide +kernel) (pa_cons (pv 0) pa_nil)) pe_int (nomark _)))))) (pss_one (ps_ret pe_bl)) pss_nil)
    (pss_cons (ps_if (PW.pt (pw_or (pt_not (pt_val (pe_callB call_isi rfl Z_isinstance (by decide +kernel) (pa_cons (pe_ix ix_tup (pv 0) pe_int (fun _ _=>rfl)) (pa_cons (pe_bltn (v:=V.ty "str") rfl Z_str (by decide +kernel) rfl) pa_nil))))) (pw_or1 (pt_cmpR op_ne (pe_def D_how_many_it_takes (hr.mono (by decide)) rfl (pa_cons (pe_ix ix_tup (pv 0) pe_int (fun _ _=>rfl)) pa_nil)) (pe_op op_sub (pe_callB call_len rfl Z_len (by decide +kernel) (pa_cons (pv 0) pa_nil)) pe_int) (nomark _))))) (pss_one (ps_ret pe_bl)) pss_nil)
    (pss_one (ps_ret (pe_callB (call_all rfl) rfl Z_all (by decide +kernel) (pa_cons htC pa_nil)))))),?_⟩
  refine ⟨_,rfl,_,_,rfl,rfl,_,rfl,?_⟩
  rw [decide_eq_false (show ¬ (400:Int)≤(k:Int) by omega)]
  refine iteF ?_
  refine ⟨_,rfl,a,_,_,_,true,rfl,(fun _ h=>h),SqT.of e,kit_same,_,rfl,iteF ?_⟩
  refine ⟨_,rfl,_,_,rfl,.inr ⟨_,SqT.of e,rfl⟩,rfl,_,rfl,?_⟩
  rw [decide_eq_false (show ¬V.int (((V.str g.word::g.nums.map fun i:Nat=>V.int (i:Int)).length:Nat):Int)=V.int 0 from fun z=>by have:=V.int.inj z;rw [List.length_cons] at this;omega)]
  refine iteF ?_
  refine ⟨_,rfl,_,_,_,_,rfl,rfl,SqT.of e,at0,_,_,_,_,true,rfl,(fun _ h=>h),TyOf.str _,kit_same,_,rfl,iteF ?_⟩
  refine ⟨_,rfl,_,_,_,_,rfl,rfl,SqT.of e,at0,g.word,_,rfl,tk_of g,_,rfl,_,_,rfl,.inr ⟨_,SqT.of e,rfl⟩,_,_,rfl,rfl,rfl,_,rfl,?_⟩
  refine iteNS (congrArg V.int (by rw [List.length_cons,List.length_map];show (g.nums.length:Int)=_;omega)) ?_
  refine hqC _ fun D H4 s4 eD=>?_
  refine ⟨D,g.nums.map fun _=>true,rfl,SqL.of (by rw [List.map_map];exact eD),?_⟩
  rw [show (g.nums.map fun _=>true).all id=true by simp]
  exact q _ s4
noncomputable abbrev rfN:List Str:=["things","place","thing"]
theorem sc_fault:FnScope rfN ["things"] (defScope s_rows_fault):=⟨rfl,rfl,rfl,by decide +kernel,rfl,by decide +kernel,by decide +kernel⟩
theorem ok_fault (T:TopDef K mg "rows_fault" s_rows_fault) (Z_enumerate:mg "enumerate"=none) (Z_len:mg "len"=none) (D_is_row:Def P w K mg base 3 "is_row" ["thing","place"] spIsRow):Def P w K mg base 4 "rows_fault" ["things"] spFault:=by
  refine def_of T sc_fault (fun _ _ _ _ _ _ us hl=>match us,hl with | [_],_=>rfl) (fun vs H Q E h=>?_) (fun f cdv A outer s H vs Q E hr h=>?_)
  · obtain ⟨l,us,gs,rfl,_⟩:=h
    rfl
  obtain ⟨l,us,gs,rfl,el,al,ok,ne,few,q⟩:=h
  have nd:=sc_fault.nd
  have lu:=al.len
  refine ⟨_,(pss_cons (ps_for PassesOwn.never rfl (pi_enum rfl Z_enumerate (pv 0)) (pg_tup rfl (pgs_cons (pg_name (i:=1) nd rfl (Or.inl rfl)) (pgs_cons (pg_name (i:=2) nd rfl (Or.inl rfl)) pgs_nil))) (pss_one (ps_if (pt_not (pt_val (pe_def D_is_row (hr.mono (by decide)) rfl (pa_cons (pv 2) (pa_cons (pv 1) pa_nil))))) (pss_one (ps_ret (pv 1))) pss_nil)))
    (pss_one (ps_ret (pe_ifExp (pt_cmpR op_eq (pe_callB call_len rfl Z_len (by decide +kernel) (pa_cons (pv 0) pa_nil)) pe_int (nomark _)) pe_int pe_non)))),?_⟩
  refine ⟨_,rfl,l,rfl,⟨us,SqL.of el⟩,?_⟩
  refine for_enum (xs:=us) (fun i σ H'=>Same H H'∧∃ o1 o2,σ=[some (.ref l),o1,o2]) ⟨fun _ _ z=>z,_,_,rfl⟩ (fun i σ H' _ z=>SqL.of (z.1 _ _ el)) (fun i v T' σ H' hv z hT=>?_) (fun σ H' z=>?_)
  · obtain ⟨sm,o1,o2,rfl⟩:=z
    have uT:=same_new hT (.tup [.int i,v])
    have s2:=sm.trans uT
    obtain ⟨g,hg,gv⟩:=al.get i v hv
    have hi:i < us.length:=(List.getElem?_eq_some_iff.mp hv).1
    refine ⟨T',_,rfl,SqT.of upd_same,rfl,_,_,rfl,_,_,rfl,rfl,?_⟩
    refine ⟨_,rfl,_,rfl,v,i,g,rfl,RwV.to (Kp.of s2) _ _ gv,ok i g hg,by omega,fun H3 s3=>⟨_,rfl,iteF ?_⟩⟩
    exact ⟨s2.trans s3,_,_,rfl⟩
  · obtain ⟨sm,o1,o2,rfl⟩:=z
    refine ⟨_,rfl,_,_,rfl,.inl ⟨_,SqL.of (sm _ _ el),rfl⟩,rfl,_,rfl,?_⟩
    rw [decide_eq_false (show ¬V.int ((us.length:Nat):Int)=V.int 0 from fun z=>by
      have:=V.int.inj z
      have:gs.length=0:=by omega
      exact ne (List.length_eq_zero_iff.mp this))]
    exact iteF (q _ sm)
theorem sc_must:FnScope ["things","at"] ["things"] (defScope s_must_be_rows):=⟨rfl,rfl,rfl,by decide +kernel,rfl,by decide +kernel,by decide +kernel⟩
theorem ok_must (T:TopDef K mg "must_be_rows" s_must_be_rows) (D_rows_fault:Def P w K mg base 4 "rows_fault" ["things"] spFault):Def P w K mg base 5 "must_be_rows" ["things"] spFault:=by
  refine def_of T sc_must (fun _ _ _ _ _ _ us hl=>match us,hl with | [_],_=>rfl) (fun vs H Q E h=>?_) (fun f cdv A outer s H vs Q E hr h=>?_)
  · obtain ⟨l,us,gs,rfl,_⟩:=h
    rfl
  obtain ⟨l,us,gs,rfl,el,al,ok,ne,few,q⟩:=h
  have nd:=sc_must.nd
  refine ⟨_,(pss_cons (ps_set (i:=1) nd rfl (Or.inl rfl) (pe_def D_rows_fault (hr.mono (by decide)) rfl (pa_cons (pv 0) pa_nil)))
    (pss_one (ps_if (pt_cmpR op_notN (pv 1) pe_non (nomark _)) (pss_one ps_never) pss_nil))),?_⟩
  exact ⟨_,rfl,l,us,gs,rfl,el,al,ok,ne,few,fun H' s'=>⟨_,rfl,rfl,_,rfl,iteF (q _ s')⟩⟩
end
end Mine
namespace Mine
open PySem L2
noncomputable def spNoQ:Sp:=fun vs H Q _=>∃(l:Addr) (us:List V) (rs:List Rw),vs=[.ref l]∧H l=some (.lst us)∧All2 (RwV H) us rs∧(∀ x∈rs,RwOk x)∧idx rs (rowK "q" [])=none∧∀ H',Same H H'→Q .non H'
theorem q_ok:RwOk (rowK "q" []):=rowK_ok (by decide +kernel)
theorem gr_ok (g:Gr):RwOk g.rw:=rowK_ok (by
  cases g with
  | fold u i j=>show PyData.strOk u.str=true;cases u <;> decide +kernel
  | no i=>show PyData.strOk "not"=true;decide +kernel
  | ne=>decide +kernel
  | al=>decide +kernel
  | p=>decide +kernel
  | q=>decide +kernel)
theorem All2.to_map {α β γ:Type} {R:α→β→Prop} {f:γ→β}:∀{as:List α} {cs:List γ},All2 (fun a c=>R a (f c)) as cs→All2 R as (cs.map f)
  | [],[],_=>.nil
  | _::_,[],h=>nomatch h
  | [],_::_,h=>nomatch h
  | _::_,_::_,.cons r t=>.cons r (All2.to_map t)
noncomputable def spLineR (K:PySem.W.Frag):Sp:=fun vs H Q _=>∃(l:Addr) (us:List V) (gs:List Gr) (Ls:List (List St4)) (F:List St4),vs=[.ref l]∧H l=some (.lst us)∧All2 (GrV H) us gs∧GrsOk gs∧gs.length≤400∧(∀ g∈gs,g≠.q)∧RowsL gs (Ls++[F])∧∀ v H',Same H H'→Dat K H' (lnD F) v→Q v H'
theorem noq_gs {gs:List Gr} (h:∀ g∈gs,g≠.q):idx (gs.map Gr.rw) (rowK "q" [])=none:=by
  cases e:idx (gs.map Gr.rw) (rowK "q" []) with
  | none=>rfl
  | some i =>
    exfalso
    have z:=idx_at e
    rw [List.getElem?_map] at z
    cases y:gs[i]? with
    | none=>rw [y] at z;cases z
    | some g =>
      rw [y] at z
      exact h g (List.mem_of_getElem? y) (rw_inj (k:=.q) (Option.some.inj z))
section
variable {P:Program} {w:World} {K:PySem.W.Frag} {mg:Str→Option Value} {base:Heap} {c:CCs}
theorem ok_noQ (T:TopDef K mg "must_be_without_q" s_must_be_without_q):Def P w K mg base 1 "must_be_without_q" ["rows"] spNoQ:=by
  refine def_of T sc_must_be_without_q (fun _ _ _ _ _ _ us hl=>match us,hl with | [_],_=>rfl) (fun vs H Q E h=>?_) (fun f cdv A outer s H vs Q E hr h=>?_)
  · obtain ⟨l,us,rs,rfl,_⟩:=h
    rfl
  obtain ⟨l,us,rs,rfl,el,al,ok,nq,q⟩:=h
  have nd:=sc_must_be_without_q.nd
  have hu:=hr.units
  refine ⟨_,(pss_one (ps_if (pt_cmpR (op_inD hu) (pe_tup (pa_cons pe_str pa_nil)) (pv 0) rfl) (pss_one ps_never) pss_nil)),?_⟩
  refine ⟨(by show 1≤sizeLine;decide),fun t ht=>?_⟩
  have s1:=same_new ht (.tup [V.str "q"])
  have dq:Dat K (upd H t (.tup [V.str "q"])) (rwD (rowK "q" [])) (.ref t):=RwV.dat ⟨t,rfl,upd_same⟩
  refine ⟨_,rfl,rwD (rowK "q" []),rs.map rwD,l,us,.inl dq,rfl,SqL.of (s1 _ _ el),(RwV.all al).ts s1.ts,rws_lay ok,rw_lay q_ok,Nat.le_trans (rws_depth rs) (by decide),_,rfl,?_⟩
  rw [rws_any,nq]
  exact iteF (q _ s1)
theorem ok_lineR (T:TopDef K mg "line_of_rows" s_line_of_rows) (D_must_be_rows:Def P w K mg base 5 "must_be_rows" ["things"] spFault) (D_must_be_without_q:Def P w K mg base 1 "must_be_without_q" ["rows"] spNoQ) (D_last_line:Def P w K mg base 9 "last_line" ["rows"] (spLastLine K)):Def P w K mg base 10 "line_of_rows" ["rows"] (spLineR K):=by
  refine def_of T sc_line_of_rows (fun _ _ _ _ _ _ us hl=>match us,hl with | [_],_=>rfl) (fun vs H Q E h=>?_) (fun f cdv A outer s H vs Q E hr h=>?_)
  · obtain ⟨l,us,gs,Ls,F,rfl,_⟩:=h
    rfl
  obtain ⟨l,us,gs,Ls,F,rfl,el,al,ok,few,nq,rl,q⟩:=h
  have nd:=sc_line_of_rows.nd
  have ne:gs≠[]:=fun z=>by
    have:=rl.1
    rw [z,List.length_append] at this
    simp at this
  refine ⟨_,(pss_cons (ps_expr (pe_def D_must_be_rows (hr.mono (by omega)) rfl (pa_cons (pv 0) pa_nil)))
    (pss_cons (ps_expr (pe_def D_must_be_without_q (hr.mono (by omega)) rfl (pa_cons (pv 0) pa_nil)))
    (pss_one (ps_ret (pe_def D_last_line (hr.mono (by omega)) rfl (pa_cons (pv 0) pa_nil)))))),?_⟩
  refine ⟨_,rfl,l,us,gs,rfl,el,al,ok,ne,few,fun H1 s1=>?_⟩
  have al1:All2 (RwV H1) us (gs.map Gr.rw):=All2.to_map (al.imp fun v g z=>RwV.to (Kp.of s1) _ _ z)
  refine ⟨_,rfl,l,us,gs.map Gr.rw,rfl,s1 _ _ el,al1,?_,noq_gs nq,fun H2 s2=>?_⟩
  · intro x hx
    obtain ⟨g,_,rfl⟩:=List.mem_map.mp hx
    exact gr_ok g
  exact ⟨_,rfl,l,us,gs,Ls,F,rfl,s2 _ _ (s1 _ _ el),al.imp fun v g z=>RwV.to (Kp.of (s1.trans s2)) _ _ z,rl,by omega,fun v H3 s3 d3=>q v H3 ((s1.trans s2).trans s3) d3⟩
end
end Mine
namespace Mine
open PySem L2
theorem GrV.to {H H':Hp} (e:Kp H H') (v:V) (g:Gr) (h:GrV H v g):GrV H' v g:=RwV.to e v _ h
theorem GrV.mk {H:Hp} {a:Addr} (g:Gr) (e:H a=some (.tup (.str g.word::g.nums.map fun i:Nat=>.int (i:Int)))):GrV H (.ref a) g:=⟨a,rfl,by unfold Gr.rw;rw [rowK_kV];exact e⟩
end Mine
namespace Mine
open PySem L2
theorem atI_last {α:Type} (ys:List α) (y:α):atI (ys++[y]) (-1)=some y:=by
  unfold atI ixN
  rw [if_neg (by decide),if_pos (by rw [List.length_append];simp;omega)]
  show (ys++[y])[((-1:Int)+((ys++[y]).length:Nat)).toNat]?=some y
  rw [show ((-1:Int)+((ys++[y]).length:Nat)).toNat=ys.length by rw [List.length_append];simp;omega]
  simp
theorem last_getD (ws:List Int) (h:ws≠[]):∃ ws' w,ws=ws'++[w]∧ws.getLastD 0=w:=by
  refine ⟨ws.dropLast,ws.getLast h,(List.dropLast_concat_getLast h).symm,?_⟩
  rw [List.getLastD_eq_getLast?,List.getLast?_eq_some_getLast h]
  rfl
end Mine
namespace Mine
open PySem L2
section
variable {P:Program} {w:World} {K:PySem.W.Frag} {mg:Str→Option Value} {base:Heap}
theorem sc_fold14:FnScope ["_law_word","_law_one","_law_other","_law_n"] ["_law_word","_law_one","_law_other","_law_n"] (defScope sFoldF):=⟨rfl,rfl,rfl,by decide +kernel,rfl,by decide +kernel,by decide +kernel⟩
noncomputable def spFold14:Sp:=fun vs H Q _=>∃(u:W5) (n x y:Int),vs=[.str u.str,.int x,.int y,.int n]∧Q (.int (u.worth n x y)) H
theorem ok_fold14 (T:TopDef K mg "_law_fold" sFoldF) (Z_min:mg "min"=none) (Z_max:mg "max"=none):Def P w K mg base 1 "_law_fold" ["_law_word","_law_one","_law_other","_law_n"] spFold14:=by
  refine def_of T sc_fold14 (fun _ _ _ _ _ _ us hl=>match us,hl with | [_,_,_,_],_=>rfl) (fun vs H Q E h=>?_) (fun f cdv A outer s H vs Q E hr h=>?_)
  · obtain ⟨u,n,x,y,rfl,_⟩:=h
    rfl
  obtain ⟨u,n,x,y,rfl,q⟩:=h
  have nd:=sc_fold14.nd
  refine ⟨_,(pss_cons (ps_if (pt_cmpR op_eq (pv 0) pe_str (nomark _)) (pss_one (ps_ret (pe_callB (call_min2 rfl) rfl Z_min (by decide +kernel) (pa_cons (pv 3) (pa_cons (pe_op op_add (pv 1) (pv 2)) pa_nil))))) pss_nil)
    (pss_cons (ps_if (pt_cmpR op_eq (pv 0) pe_str (nomark _)) (pss_one (ps_ret (pe_callB (call_max2 rfl) rfl Z_max (by decide +kernel) (pa_cons pe_int (pa_cons (pe_op op_sub (pe_op op_add (pv 1) (pv 2)) (pv 3)) pa_nil))))) pss_nil)
    (pss_cons (ps_if (pt_cmpR op_eq (pv 0) pe_str (nomark _)) (pss_one (ps_ret (pe_callB (call_max2 rfl) rfl Z_max (by decide +kernel) (pa_cons (pv 1) (pa_cons (pv 2) pa_nil))))) pss_nil)
    (pss_cons (ps_if (pt_cmpR op_eq (pv 0) pe_str (nomark _)) (pss_one (ps_ret (pe_callB (call_min2 rfl) rfl Z_min (by decide +kernel) (pa_cons (pv 1) (pa_cons (pv 2) pa_nil))))) pss_nil)
    (pss_one (ps_ret (pe_callB (call_min2 rfl) rfl Z_min (by decide +kernel) (pa_cons (pv 3) (pa_cons (pe_op op_add (pe_op op_sub (pv 3) (pv 1)) (pv 2)) pa_nil))))))))),?_⟩
  cases u
  · refine ⟨_,rfl,rfl,_,rfl,ite_yes rfl ⟨_,rfl,_,rfl,_,rfl,_,_,rfl,rfl,_,_,rfl,?_⟩⟩
    rw [min_is,Int.min_comm]
    exact q
  · refine ⟨_,rfl,rfl,_,rfl,ite_no (by decide +kernel) ⟨_,rfl,rfl,_,rfl,ite_yes rfl ⟨_,rfl,_,rfl,_,_,rfl,rfl,_,rfl,_,_,rfl,rfl,_,_,rfl,?_⟩⟩⟩
    rw [max_is,Int.max_comm]
    exact q
  · refine ⟨_,rfl,rfl,_,rfl,ite_no (by decide +kernel) ⟨_,rfl,rfl,_,rfl,ite_no (by decide +kernel) ⟨_,rfl,rfl,_,rfl,ite_yes rfl ⟨_,rfl,_,rfl,_,_,rfl,?_⟩⟩⟩⟩
    rw [max_is]
    exact q
  · refine ⟨_,rfl,rfl,_,rfl,ite_no (by decide +kernel) ⟨_,rfl,rfl,_,rfl,ite_no (by decide +kernel) ⟨_,rfl,rfl,_,rfl,ite_no (by decide +kernel) ⟨_,rfl,rfl,_,rfl,ite_yes rfl ⟨_,rfl,_,rfl,_,_,rfl,?_⟩⟩⟩⟩⟩
    rw [min_is]
    exact q
  · refine ⟨_,rfl,rfl,_,rfl,ite_no (by decide +kernel) ⟨_,rfl,rfl,_,rfl,ite_no (by decide +kernel) ⟨_,rfl,rfl,_,rfl,ite_no (by decide +kernel) ⟨_,rfl,rfl,_,rfl,ite_no (by decide +kernel) ⟨_,rfl,_,rfl,_,rfl,_,_,rfl,rfl,_,rfl,_,_,rfl,rfl,_,_,rfl,?_⟩⟩⟩⟩⟩
    rw [min_is,Int.min_comm]
    exact q
end
end Mine
namespace Mine
open PySem L2
noncomputable def spWorth14:Sp:=fun vs H Q _=>∃(l:Addr) (us:List V) (gs:List Gr) (n x y:Int),vs=[.ref l,.int n,.int x,.int y]∧H l=some (.lst us)∧All2 (GrV H) us gs∧GrsOk gs∧gs≠[]∧gs.length≤400∧∀ H',Same H H'→Q (.int (lastG n x y gs)) H'
noncomputable abbrev w14N:List Str:=["_law_rows","_law_n","_law_x","_law_y","_law_worths","_law_row_here"]
noncomputable def dispL (n x y:Int):List (Key×V):=[(.inr "never",.int 0),(.inr "always",.int n),(.inr "p",.int x),(.inr "q",.int y)]
theorem disp_val (n x y:Int) (j:Str):valV (mergeK [] (dispL n x y)) (Sum.inr j)=if (Sum.inr j:Key)=Sum.inr ("q":Str) then some (.int y) else if (Sum.inr j:Key)=Sum.inr ("p":Str) then some (.int x) else if (Sum.inr j:Key)=Sum.inr ("always":Str) then some (.int n) else if (Sum.inr j:Key)=Sum.inr ("never":Str) then some (.int 0) else none:=by
  show valV (putK (putK (putK (putK [] (Sum.inr ("never":Str):Key) (.int 0)) (Sum.inr ("always":Str)) (.int n)) (Sum.inr ("p":Str)) (.int x)) (Sum.inr ("q":Str)) (.int y)) (Sum.inr j)=_
  rw [valV_put,valV_put,valV_put,valV_put]
  rfl
theorem disp_leaf (n x y:Int) (g:Gr) (h:g.nums=[]) (ws:List Int):valV (mergeK [] (dispL n x y)) (.inr g.word)=some (.int (g.worth n x y ws)):=by
  rw [disp_val]
  cases g with
  | no i=>cases h
  | fold u i j=>cases h
  | ne=>rw [if_neg (by decide +kernel),if_neg (by decide +kernel),if_neg (by decide +kernel),if_pos (by decide +kernel)];rfl
  | al=>rw [if_neg (by decide +kernel),if_neg (by decide +kernel),if_pos (by decide +kernel)];rfl
  | p=>rw [if_neg (by decide +kernel),if_pos (by decide +kernel)];rfl
  | q=>rw [if_pos (by decide +kernel)];rfl
section
variable {P:Program} {w:World} {K:PySem.W.Frag} {mg:Str→Option Value} {base:Heap} {c:CCs}
theorem sc_worth14:FnScope w14N ["_law_rows","_law_n","_law_x","_law_y"] (defScope s_l_worth):=⟨rfl,rfl,rfl,by decide +kernel,rfl,by decide +kernel,by decide +kernel⟩
theorem ok_worth14 (T:TopDef K mg "_law_worth" s_l_worth) (Z_len:mg "len"=none) (D_law_fold:Def P w K mg base 1 "_law_fold" ["_law_word","_law_one","_law_other","_law_n"] spFold14):Def P w K mg base 2 "_law_worth" ["_law_rows","_law_n","_law_x","_law_y"] spWorth14:=by
  refine def_of T sc_worth14 (fun _ _ _ _ _ _ us hl=>match us,hl with | [_,_,_,_],_=>rfl) (fun vs H Q E h=>?_) (fun f cdv A outer s H vs Q E hr h=>?_)
  · obtain ⟨l,us,gs,n,x,y,rfl,_⟩:=h
    rfl
  obtain ⟨l,us,gs,n,x,y,rfl,el,al,ok,ne,few,q⟩:=h
  have nd:=sc_worth14.nd
  have lu:=al.len
  refine ⟨_,(pss_cons (ps_set (i:=4) nd rfl (Or.inl rfl) (pe_lst pa_nil))
    (pss_cons (ps_for PassesOwn.never rfl (pi_list (pv 0)) (pg_name (i:=5) nd rfl (Or.inl rfl)) (pss_one (ps_if (pt_cmpR op_eq (pe_callB call_len rfl Z_len (by decide +kernel) (pa_cons (pv 5) pa_nil)) pe_int (nomark _)) (pss_one (ps_expr (pe_bm PySem.F.plainAttrs_list PySem.F.slot_list_append PySem.F.type_list_append mt_append (pv 4) (pa_cons (pe_dget (hu_of hr) (pe_disp (pps_cons pe_str pe_int (pps_cons pe_str (pv 1) (pps_cons pe_str (pv 2) (pps_cons pe_str (pv 3) pps_nil)))) rfl rfl (by intro z;cases z) (by decide)) (pe_ix ix_tup (pv 5) pe_int (fun _ _=>rfl)) (fun _ _=>rfl)) pa_nil)))) (pss_one (ps_if (pt_cmpR op_eq (pe_callB call_len rfl Z_len (by decide +kernel) (pa_cons (pv 5) pa_nil)) pe_int (nomark _)) (pss_one (ps_expr (pe_bm PySem.F.plainAttrs_list PySem.F.slot_list_append PySem.F.type_list_append mt_append (pv 4) (pa_cons (pe_op op_sub (pv 1) (pe_ix ix_list (pv 4) (pe_ix ix_tup (pv 5) pe_int (fun _ _=>rfl)) (fun _ _=>rfl))) pa_nil)))) (pss_one (ps_expr (pe_bm PySem.F.plainAttrs_list PySem.F.slot_list_append PySem.F.type_list_append mt_append (pv 4) (pa_cons (pe_def D_law_fold (hr.mono (by omega)) rfl (pa_cons (pe_ix ix_tup (pv 5) pe_int (fun _ _=>rfl)) (pa_cons (pe_ix ix_list (pv 4) (pe_ix ix_tup (pv 5) pe_int (fun _ _=>rfl)) (fun _ _=>rfl)) (pa_cons (pe_ix ix_list (pv 4) (pe_ix ix_tup (pv 5) pe_int (fun _ _=>rfl)) (fun _ _=>rfl)) (pa_cons (pv 1) pa_nil))))) pa_nil)))))))))
    (pss_one (ps_ret (pe_ix ix_list (pv 4) (pe_un un_neg pe_int) (fun _ _=>rfl)))))),?_⟩
  refine ⟨(by show 0≤sizeLine;decide),fun wl hw=>?_⟩
  refine ⟨_,rfl,l,rfl,⟨us,SqL.of (same_new hw _ _ _ el)⟩,?_⟩
  refine for_list (xs:=us) (fun i σ H3=>∃(o3:Option V),σ=[some (.ref l),some (.int n),some (.int x),some (.int y),some (.ref wl),o3]∧Same H H3∧H3 wl=some (.lst ((worthsG n x y (gs.take i) []).map V.int)))
    ⟨_,rfl,same_new hw _,upd_same⟩ (fun i σ H3 _ h=>?_) (fun i v σ H3 hi h=>?_) (fun σ H3 h=>?_)
  · obtain ⟨o3,rfl,s3,_⟩:=h
    exact SqL.of (s3 _ _ el)
  · obtain ⟨o3,rfl,s3,ew⟩:=h
    obtain ⟨g,hg,gv⟩:=al.get i v hi
    have hil:i < us.length:=(List.getElem?_eq_some_iff.mp hi).1
    have wl0:(worthsG n x y (gs.take i) []).length=i:=by rw [worthsG_len];simp;omega
    have go:=ok i g hg
    have big:((worthsG n x y (gs.take i) []).map V.int).length < sizeLine:=by rw [List.length_map,wl0];exact Nat.lt_of_lt_of_le (show i < 400 by omega) (by decide)
    obtain ⟨r,rfl,e⟩:=(GrV.to (Kp.of s3) _ _ gv).tup
    have fin:∀(H4:Hp),Same H3 H4→∃(o3:Option V),[some (V.ref l),some (.int n),some (.int x),some (.int y),some (.ref wl),some (.ref r)]=[some (V.ref l),some (.int n),some (.int x),some (.int y),some (.ref wl),o3]∧Same H (upd H4 wl (.lst ((worthsG n x y (gs.take i) []).map V.int++[V.int (g.worth n x y (worthsG n x y (gs.take i) []))])))∧upd H4 wl (.lst ((worthsG n x y (gs.take i) []).map V.int++[V.int (g.worth n x y (worthsG n x y (gs.take i) []))])) wl=some (.lst ((worthsG n x y (gs.take (i+1)) []).map V.int)):=fun H4 s4=>by
      refine ⟨_,rfl,same_mut (s3.trans s4) hw _,?_⟩
      rw [upd_same,worthsG_take n x y gs i g hg,List.map_append]
      rfl
    refine ⟨_,rfl,_,_,rfl,.inr ⟨_,SqT.of e,rfl⟩,rfl,_,rfl,?_⟩
    cases g with
    | no i' =>
      have hi':i' < (worthsG n x y (gs.take i) []).length:=by rw [wl0];exact go i' (by simp [Gr.nums])
      refine iteNv (fun z=>by have:=V.int.inj z;simp [Gr.nums] at this) ?_
      refine ⟨_,rfl,_,_,rfl,.inr ⟨_,SqT.of e,rfl⟩,rfl,_,rfl,iteYv rfl ?_⟩
      refine ⟨_,rfl,.inl ⟨rfl,_,SqL.of ew⟩,_,rfl,_,rfl,_,rfl,_,_,_,_,rfl,rfl,SqT.of e,rfl,_,_,_,_,rfl,rfl,SqL.of ew,atW hi',_,_,rfl,rfl,wl,_,_,rfl,rfl,ew,big,?_⟩
      exact fin _ (Same.refl _)
    | fold u i' j' =>
      have hi':i' < (worthsG n x y (gs.take i) []).length:=by rw [wl0];exact go i' (by simp [Gr.nums])
      have hj':j' < (worthsG n x y (gs.take i) []).length:=by rw [wl0];exact go j' (by simp [Gr.nums])
      refine iteNv (fun z=>by have:=V.int.inj z;simp [Gr.nums] at this) ?_
      refine ⟨_,rfl,_,_,rfl,.inr ⟨_,SqT.of e,rfl⟩,rfl,_,rfl,iteNv (fun z=>by have:=V.int.inj z;simp [Gr.nums] at this) ?_⟩
      refine ⟨_,rfl,.inl ⟨rfl,_,SqL.of ew⟩,_,rfl,_,_,_,_,rfl,rfl,SqT.of e,at0,_,rfl,_,rfl,_,_,_,_,rfl,rfl,SqT.of e,rfl,_,_,_,_,rfl,rfl,SqL.of ew,atW hi',_,rfl,_,rfl,_,_,_,_,rfl,rfl,SqT.of e,rfl,_,_,_,_,rfl,rfl,SqL.of ew,atW hj',_,rfl,u,n,_,_,rfl,wl,_,_,rfl,rfl,ew,big,?_⟩
      exact fin _ (Same.refl _)
    | ne =>
      refine iteYv rfl ?_
      refine ⟨_,rfl,.inl ⟨rfl,_,SqL.of ew⟩,fun dp hdp=>?_⟩
      have sd:=same_new hdp (.dK [])
      have se:Same H3 (upd (upd H3 dp (.dK [])) dp (.dK (mergeK [] (dispL n x y)))):=same_mut sd hdp _
      have hv:=disp_leaf n x y .ne rfl (worthsG n x y (gs.take i) [])
      refine ⟨_,rfl,_,rfl,_,rfl,upd_same,dispL n x y,rfl,(by show 4≤15;decide),_,rfl,_,_,_,_,rfl,rfl,SqT.of (se _ _ e),at0,dp,_,rfl,(by have z:=DGet.k (H:=upd (upd H3 dp (.dK [])) dp (.dK (mergeK [] (dispL n x y)))) (k:=.inr (Gr.word .ne)) upd_same;rw [hv] at z;exact z),wl,_,_,rfl,rfl,se _ _ ew,big,?_⟩
      exact fin _ se
    | al =>
      refine iteYv rfl ?_
      refine ⟨_,rfl,.inl ⟨rfl,_,SqL.of ew⟩,fun dp hdp=>?_⟩
      have sd:=same_new hdp (.dK [])
      have se:Same H3 (upd (upd H3 dp (.dK [])) dp (.dK (mergeK [] (dispL n x y)))):=same_mut sd hdp _
      have hv:=disp_leaf n x y .al rfl (worthsG n x y (gs.take i) [])
      refine ⟨_,rfl,_,rfl,_,rfl,upd_same,dispL n x y,rfl,(by show 4≤15;decide),_,rfl,_,_,_,_,rfl,rfl,SqT.of (se _ _ e),at0,dp,_,rfl,(by have z:=DGet.k (H:=upd (upd H3 dp (.dK [])) dp (.dK (mergeK [] (dispL n x y)))) (k:=.inr (Gr.word .al)) upd_same;rw [hv] at z;exact z),wl,_,_,rfl,rfl,se _ _ ew,big,?_⟩
      exact fin _ se
    | p =>
      refine iteYv rfl ?_
      refine ⟨_,rfl,.inl ⟨rfl,_,SqL.of ew⟩,fun dp hdp=>?_⟩
      have sd:=same_new hdp (.dK [])
      have se:Same H3 (upd (upd H3 dp (.dK [])) dp (.dK (mergeK [] (dispL n x y)))):=same_mut sd hdp _
      have hv:=disp_leaf n x y .p rfl (worthsG n x y (gs.take i) [])
      refine ⟨_,rfl,_,rfl,_,rfl,upd_same,dispL n x y,rfl,(by show 4≤15;decide),_,rfl,_,_,_,_,rfl,rfl,SqT.of (se _ _ e),at0,dp,_,rfl,(by have z:=DGet.k (H:=upd (upd H3 dp (.dK [])) dp (.dK (mergeK [] (dispL n x y)))) (k:=.inr (Gr.word .p)) upd_same;rw [hv] at z;exact z),wl,_,_,rfl,rfl,se _ _ ew,big,?_⟩
      exact fin _ se
    | q =>
      refine iteYv rfl ?_
      refine ⟨_,rfl,.inl ⟨rfl,_,SqL.of ew⟩,fun dp hdp=>?_⟩
      have sd:=same_new hdp (.dK [])
      have se:Same H3 (upd (upd H3 dp (.dK [])) dp (.dK (mergeK [] (dispL n x y)))):=same_mut sd hdp _
      have hv:=disp_leaf n x y .q rfl (worthsG n x y (gs.take i) [])
      refine ⟨_,rfl,_,rfl,_,rfl,upd_same,dispL n x y,rfl,(by show 4≤15;decide),_,rfl,_,_,_,_,rfl,rfl,SqT.of (se _ _ e),at0,dp,_,rfl,(by have z:=DGet.k (H:=upd (upd H3 dp (.dK [])) dp (.dK (mergeK [] (dispL n x y)))) (k:=.inr (Gr.word .q)) upd_same;rw [hv] at z;exact z),wl,_,_,rfl,rfl,se _ _ ew,big,?_⟩
      exact fin _ se
  · obtain ⟨o3,rfl,s3,ew⟩:=h
    rw [lu,List.take_length] at ew
    have hne:worthsG n x y gs []≠[]:=fun z=>by
      have:=worthsG_len n x y gs []
      rw [z] at this
      simp at this
      exact ne (List.length_eq_zero_iff.mp this.symm)
    obtain ⟨ws',w0,e1,e2⟩:=last_getD _ hne
    rw [e1,List.map_append] at ew
    refine ⟨_,rfl,_,rfl,_,_,_,_,rfl,rfl,SqL.of ew,atI_last _ _,?_⟩
    have:=q H3 s3
    unfold lastG at this
    rw [e2] at this
    exact this
end
end Mine
set_option maxHeartbeats 1000000
namespace Mine
open Ln
noncomputable def hS (a b p q:Int):Int:=min (max (a*p+b*q) 0) q
noncomputable def midS (a b first near steep:Int):List St4 :=
  (if 0 < near then [⟨Lo.lowT near steep,Lo.lowB near steep,0,first⟩] else [])++[⟨Lo.lowT (near+1) steep,Lo.lowB (near+1) steep,a,b⟩]++(if near+1 < steep then [⟨1,1,0,1 - first⟩] else [])
noncomputable def lineS (a b:Int):List St4 :=
  if a=0 then St1 (min 1 (max 0 b))
  else
    let first:Int:=if a < 0 then 1 else 0
    let near:Int:=if a < 0 then b - 1 else -b
    let steep:Int:=if a < 0 then -a else a
    if steep≤near then St1 first else if near < 0 then St1 (1 - first) else midS a b first near steep
noncomputable def okBb (s:St4):Bool:=decide (0 < s.p) && decide (s.p≤s.q) && decide (Lo.gc s.p s.q=1) && decide (s.q.natAbs < 2 ^ 10) && decide (s.m.natAbs < 2 ^ 10) && decide (s.h.natAbs < 2 ^ 10)
noncomputable def chB:List St4→Bool
  | []=>true
  | [_]=>true
  | s::t::r=>decide (s.p*t.q < t.p*s.q) && decide ((t.m - s.m)*s.p+(t.h - s.h)*s.q=0) && decide (t.m≠s.m) && chB (t::r)
noncomputable def endB (L:List St4):Bool:=match L.getLast? with | some s=>decide (s.p=1) && decide (s.q=1) | none=>false
noncomputable def lineBb (L:List St4):Bool:=L.all okBb && chB L && endB L
theorem ch_of:∀{L:List St4},chB L=true→Ch L
  | [],_=>trivial
  | [_],_=>trivial
  | s::t::r,h=>by
    have h':(decide (s.p*t.q < t.p*s.q) && decide ((t.m - s.m)*s.p+(t.h - s.h)*s.q=0) && decide (t.m≠s.m) && chB (t::r))=true:=h
    rw [Bool.and_eq_true,Bool.and_eq_true,Bool.and_eq_true] at h'
    exact ⟨⟨of_decide_eq_true h'.1.1.1,of_decide_eq_true h'.1.1.2,of_decide_eq_true h'.1.2⟩,ch_of h'.2⟩
theorem line_of_b {L:List St4} (h:lineBb L=true):LineB 10 L:=by
  unfold lineBb at h
  rw [Bool.and_eq_true,Bool.and_eq_true] at h
  refine ⟨fun s hs=>?_,ch_of h.1.2,?_⟩
  · have o:=List.all_eq_true.mp h.1.1 s hs
    unfold okBb at o
    simp only [Bool.and_eq_true,decide_eq_true_eq] at o
    exact ⟨o.1.1.1.1.1,o.1.1.1.1.2,o.1.1.1.2,o.1.1.2,o.1.2,o.2⟩
  · have e:=h.2
    unfold endB at e
    cases z:L.getLast? with
    | none=>rw [z] at e;cases e
    | some s =>
      rw [z] at e
      simp only [Bool.and_eq_true,decide_eq_true_eq] at e
      exact ⟨s,z,e.1,e.2⟩
noncomputable def midUp (s n:Nat):List St4:=midS (s:Int) (-(n:Int)) 0 n s
noncomputable def midDn (s n:Nat):List St4:=midS (-(s:Int)) ((n:Int)+1) 1 n s
theorem mids:∀ s∈List.range 13,∀ n∈List.range 13,n < s→lineBb (midUp s n)=true∧lineBb (midDn s n)=true:=by decide +kernel
theorem low_cmp {t b p q:Int} (hb:0 < b):Lo.lowT t b*q < p*Lo.lowB t b↔t*q < p*b:=by
  have e1:=Lo.lowT_eq t b
  have e2:=Lo.lowB_eq t b
  have g:=Lo.sg_pos (t:=t) hb
  generalize Lo.sg t b=s at e1 e2 g
  generalize Lo.lowT t b=T at e1
  generalize Lo.lowB t b=B at e2
  subst e1 e2
  have h1:s*T*q=s*(T*q):=by grind
  have h2:p*(s*B)=s*(p*B):=by grind
  rw [h1,h2]
  exact ⟨fun h=>Int.mul_lt_mul_of_pos_left h g,fun h=>Int.lt_of_mul_lt_mul_left h (Int.le_of_lt g)⟩
theorem mid_at {a b first near steep p q:Int} (hs:0 < steep) (n0:0≤near) (n1:near < steep) (hq:0 < q) (h0:0≤p) (hpq:p≤q)
    (c:(a=steep∧b = -near∧first=0)∨(a = -steep∧b=near+1∧first=1)):hAt (midS a b first near steep) p q=hS a b p q:=by
  have lastOk:near+1 < steep∨near+1=steep:=by omega
  have e3:pk [(⟨1,1,0,1 - first⟩:St4)] p q=some ⟨1,1,0,1 - first⟩:=pk_cons_ge (s:=⟨1,1,0,1 - first⟩) (by show ¬1*q < p*1;omega)
  have xy:(near+1)*q=near*q+q:=by grind
  have val:a*p+b*q=if first=0 then steep*p - near*q else near*q+q - steep*p:=by
    rcases c with ⟨rfl,rfl,rfl⟩ | ⟨rfl,rfl,rfl⟩
    · rw [if_pos rfl];grind
    · rw [if_neg (by decide)];grind
  have sp:p*steep=steep*p:=Int.mul_comm _ _
  have X0:0≤steep*p:=Int.mul_nonneg (by omega) h0
  have Y0:0≤near*q:=Int.mul_nonneg n0 (by omega)
  have X1:steep*p≤steep*q:=Int.mul_le_mul_of_nonneg_left hpq (by omega)
  have fst:first=0∨first=1:=by rcases c with ⟨_,_,h⟩ | ⟨_,_,h⟩ <;> omega
  have val1:first=0→a*p+b*q=steep*p - near*q:=fun h=>by rw [val,if_pos h]
  have val2:first=1→a*p+b*q=near*q+q - steep*p:=fun h=>by rw [val,if_neg (by omega)]
  have tail:(near*q < p*steep∨near=0)→hAt ([(⟨Lo.lowT (near+1) steep,Lo.lowB (near+1) steep,a,b⟩:St4)]++(if near+1 < steep then [⟨1,1,0,1 - first⟩] else [])) p q=hS a b p q:=by
    intro hn
    by_cases k:(near+1)*q < p*steep
    · have hlt:near+1 < steep:=by
        rcases lastOk with z | z
        · exact z
        · rw [z] at k;omega
      rw [if_pos hlt]
      have e:pk ([(⟨Lo.lowT (near+1) steep,Lo.lowB (near+1) steep,a,b⟩:St4)]++[⟨1,1,0,1 - first⟩]) p q=some ⟨1,1,0,1 - first⟩:=by
        show pk (_::[_]) p q=_
        rw [pk_cons_lt (s:=⟨Lo.lowT (near+1) steep,Lo.lowB (near+1) steep,a,b⟩) ((low_cmp hs).mpr k),e3]
      rw [hAt_of e]
      show 0*p+(1 - first)*q=_
      unfold hS
      rcases fst with h | h
      · rw [val1 h,h];omega
      · rw [val2 h,h];omega
    · have e:pk ([(⟨Lo.lowT (near+1) steep,Lo.lowB (near+1) steep,a,b⟩:St4)]++(if near+1 < steep then [⟨1,1,0,1 - first⟩] else [])) p q=some ⟨Lo.lowT (near+1) steep,Lo.lowB (near+1) steep,a,b⟩:=by
        show pk (_::_) p q=_
        exact pk_cons_ge (s:=⟨Lo.lowT (near+1) steep,Lo.lowB (near+1) steep,a,b⟩) (fun z=>k ((low_cmp hs).mp z))
      rw [hAt_of e]
      show a*p+b*q=_
      unfold hS
      rcases fst with h | h
      · rw [val1 h]
        rcases hn with hn | hn
        · omega
        · subst hn;omega
      · rw [val2 h]
        rcases hn with hn | hn
        · omega
        · subst hn;omega
  unfold midS
  by_cases hn:0 < near
  · rw [if_pos hn]
    by_cases k:near*q < p*steep
    · have e:∀ R,pk ([(⟨Lo.lowT near steep,Lo.lowB near steep,0,first⟩:St4)]++R) p q=pk R p q:=fun R=>pk_cons_lt (s:=⟨Lo.lowT near steep,Lo.lowB near steep,0,first⟩) ((low_cmp hs).mpr k)
      have t:=tail (.inl k)
      unfold hAt at t ⊢
      rw [List.append_assoc,e]
      exact t
    · have e:∀ R,pk ([(⟨Lo.lowT near steep,Lo.lowB near steep,0,first⟩:St4)]++R) p q=some ⟨Lo.lowT near steep,Lo.lowB near steep,0,first⟩:=fun R=>pk_cons_ge (s:=⟨Lo.lowT near steep,Lo.lowB near steep,0,first⟩) (fun z=>k ((low_cmp hs).mp z))
      rw [List.append_assoc,hAt_of (e _)]
      show 0*p+first*q=_
      unfold hS
      rcases fst with h | h
      · rw [val1 h,h];omega
      · rw [val2 h,h];omega
  · rw [if_neg hn,List.nil_append]
    exact tail (.inr (by omega))
theorem mid_slp {a b first near steep:Int}:∀ s∈midS a b first near steep,s.m=0∨s.m=a:=by
  intro s hs
  unfold midS at hs
  rcases List.mem_append.mp hs with hs | hs
  · rcases List.mem_append.mp hs with hs | hs
    · by_cases h:0 < near
      · rw [if_pos h] at hs;rw [List.mem_singleton.mp hs];exact .inl rfl
      · rw [if_neg h] at hs;cases hs
    · rw [List.mem_singleton.mp hs];exact .inr rfl
  · by_cases h:near+1 < steep
    · rw [if_pos h] at hs;rw [List.mem_singleton.mp hs];exact .inl rfl
    · rw [if_neg h] at hs;cases hs
theorem hS_inn {a b p q:Int} (hq:0 < q):0≤hS a b p q∧hS a b p q≤q:=by unfold hS;omega
theorem lineS_at {a b p q:Int} (hq:0 < q) (h0:0≤p) (hpq:p≤q):hAt (lineS a b) p q=hS a b p q:=by
  unfold lineS
  by_cases ha:a=0
  · subst ha
    rw [if_pos rfl,st1_at hpq]
    unfold hS
    rw [Int.zero_mul,Int.zero_add]
    by_cases hb:1≤b
    · have:q≤b*q:=by have:=Int.mul_le_mul_of_nonneg_right hb (Int.le_of_lt hq);omega
      rw [show min 1 (max 0 b)=1 by omega];omega
    · have:b*q≤0:=Int.mul_nonpos_of_nonpos_of_nonneg (by omega) (by omega)
      rw [show min 1 (max 0 b)=0 by omega];omega
  · rw [if_neg ha]
    by_cases neg:a < 0
    · simp only [if_pos neg]
      have e:a*p+b*q=b*q - (-a)*p:=by grind
      have X1:(-a)*p≤(-a)*q:=Int.mul_le_mul_of_nonneg_left hpq (by omega)
      have X0:0≤(-a)*p:=Int.mul_nonneg (by omega) h0
      by_cases c1:-a≤b - 1
      · rw [if_pos c1,st1_at hpq]
        have:(-a)*q≤(b - 1)*q:=Int.mul_le_mul_of_nonneg_right c1 (by omega)
        have e2:(b - 1)*q=b*q - q:=by grind
        unfold hS;rw [e];omega
      · rw [if_neg c1]
        by_cases c2:b - 1 < 0
        · rw [if_pos c2,st1_at hpq]
          have:b*q≤0:=Int.mul_nonpos_of_nonpos_of_nonneg (by omega) (by omega)
          unfold hS;rw [e];omega
        · rw [if_neg c2]
          exact mid_at (by omega) (by omega) (by omega) hq h0 hpq (.inr ⟨by omega,by omega,rfl⟩)
    · simp only [if_neg neg]
      have X1:a*p≤a*q:=Int.mul_le_mul_of_nonneg_left hpq (by omega)
      have X0:0≤a*p:=Int.mul_nonneg (by omega) h0
      by_cases c1:a≤-b
      · rw [if_pos c1,st1_at hpq]
        have:a*q≤(-b)*q:=Int.mul_le_mul_of_nonneg_right c1 (by omega)
        have e2:(-b)*q = -(b*q):=by grind
        unfold hS;omega
      · rw [if_neg c1]
        by_cases c2:-b < 0
        · rw [if_pos c2,st1_at hpq]
          have:q≤b*q:=by have:=Int.mul_le_mul_of_nonneg_right (show 1≤b by omega) (Int.le_of_lt hq);omega
          unfold hS;omega
        · rw [if_neg c2]
          exact mid_at (by omega) (by omega) (by omega) hq h0 hpq (.inl ⟨rfl,by omega,rfl⟩)
theorem lineS_gd {a b:Int} (h:a.natAbs≤12):Gd a.natAbs (lineS a b):=by
  have inn:Inn (lineS a b):=fun p q hq h0 hpq=>by rw [lineS_at hq h0 hpq];exact hS_inn hq
  have st0:∀{h:Int},h=0∨h=1→LineB 10 (St1 h)∧Slp a.natAbs (St1 h):=fun hh=>⟨(st_gd hh).b,(slp_st _).mono (Nat.zero_le _)⟩
  suffices k:LineB 10 (lineS a b)∧Slp a.natAbs (lineS a b) from ⟨k.1,k.2,inn⟩
  unfold lineS
  by_cases ha:a=0
  · rw [if_pos ha];exact st0 (by omega)
  · rw [if_neg ha]
    by_cases neg:a < 0
    · simp only [if_pos neg]
      by_cases c1:-a≤b - 1
      · rw [if_pos c1];exact st0 (.inr rfl)
      · rw [if_neg c1]
        by_cases c2:b - 1 < 0
        · rw [if_pos c2];exact st0 (.inl rfl)
        · rw [if_neg c2]
          have m:=(mids a.natAbs (List.mem_range.mpr (by omega)) (b - 1).toNat (List.mem_range.mpr (by omega)) (by omega)).2
          unfold midDn at m
          rw [show -(a.natAbs:Int)=a by omega,show (((b - 1).toNat:Nat):Int)=b - 1 by omega,show b - 1+1=b by omega,show (a.natAbs:Int) = -a by omega] at m
          exact ⟨line_of_b m,fun s hs=>by rcases mid_slp s hs with z | z <;> rw [z] <;> omega⟩
    · simp only [if_neg neg]
      by_cases c1:a≤-b
      · rw [if_pos c1];exact st0 (.inl rfl)
      · rw [if_neg c1]
        by_cases c2:-b < 0
        · rw [if_pos c2];exact st0 (.inr rfl)
        · rw [if_neg c2]
          have m:=(mids a.natAbs (List.mem_range.mpr (by omega)) (-b).toNat (List.mem_range.mpr (by omega)) (by omega)).1
          unfold midUp at m
          rw [show ((a.natAbs:Nat):Int)=a by omega,show (((-b).toNat:Nat):Int) = -b by omega,show - -b=b by omega] at m
          exact ⟨line_of_b m,fun s hs=>by rcases mid_slp s hs with z | z <;> rw [z] <;> omega⟩
noncomputable def letS (up:Bool):List St4:=if up=true then lineP else lineNo lineP
noncomputable def letE (up:Bool):Int:=if up=true then 1 else -1
noncomputable def letD (up:Bool):Int:=if up=true then 0 else 1
theorem letS_gd (up:Bool):Gd 1 (letS up)∧∀ p q,0 < q→0≤p→p≤q→hAt (letS up) p q=letE up*p+letD up*q:=by
  cases up with
  | true=>exact ⟨p_gd,fun p q hq h0 hpq=>by show hAt lineP p q=1*p+0*q;rw [p_at hpq];omega⟩
  | false =>
    obtain ⟨_,g,at_⟩:=no_facts p_gd (by decide)
    exact ⟨g,fun p q hq h0 hpq=>by show hAt (lineNo lineP) p q = -1*p+1*q;rw [at_ p q hq h0 hpq,p_at hpq];omega⟩
theorem hS_step {a b e d p q:Int} (hq:0 < q) (hl0:0≤e*p+d*q) (hl1:e*p+d*q≤q):max (min (hS a b p q+(e*p+d*q)) q+hS a (b+1) p q - q) 0=hS (a+e) (b+d) p q:=by
  unfold hS
  have e1:(a+e)*p+(b+d)*q=(a*p+b*q)+(e*p+d*q):=by grind
  have e2:a*p+(b+1)*q=(a*p+b*q)+q:=by grind
  rw [e1,e2]
  omega
theorem stepS {a b:Int} {up:Bool} (h:a.natAbs≤11) (hs:(a+letE up).natAbs≤12) :
    FoldOk .more (lineS a b) (letS up)∧FoldOk .less (lineF .more (lineS a b) (letS up)) (lineS a (b+1))∧lineF .less (lineF .more (lineS a b) (letS up)) (lineS a (b+1))=lineS (a+letE up) (b+letD up)∧
    (∀ p q,0 < q→0≤p→p≤q→hAt (lineF .more (lineS a b) (letS up)) p q=W5.worth .more q (hAt (lineS a b) p q) (hAt (letS up) p q))∧
    (∀ p q,0 < q→0≤p→p≤q→hAt (lineS (a+letE up) (b+letD up)) p q=W5.worth .less q (hAt (lineF .more (lineS a b) (letS up)) p q) (hAt (lineS a (b+1)) p q)):=by
  have ga:=lineS_gd (a:=a) (b:=b) (by omega)
  have gb:=lineS_gd (a:=a) (b:=b+1) (by omega)
  obtain ⟨gl,hl⟩:=letS_gd up
  obtain ⟨f1,g1,h1⟩:=fold_facts .more ga gl (show a.natAbs+1≤25 by omega)
  obtain ⟨f2,g2,h2⟩:=fold_facts .less g1 gb (show a.natAbs+1+a.natAbs≤25 by omega)
  have key:lineF .less (lineF .more (lineS a b) (letS up)) (lineS a (b+1))=lineS (a+letE up) (b+letD up):=by
    refine line_one g2.b (lineS_gd (a:=a+letE up) (b:=b+letD up) hs).b fun p q hq h0 hpq=>?_
    rw [h2 p q hq h0 hpq,h1 p q hq h0 hpq,lineS_at hq h0 hpq,lineS_at hq h0 hpq,lineS_at hq h0 hpq,hl p q hq h0 hpq]
    have z:=gl.at hq h0 hpq
    rw [hl p q hq h0 hpq] at z
    exact hS_step hq z.1 z.2
  exact ⟨f1,f2,key,h1,fun p q hq h0 hpq=>by rw [← key];exact h2 p q hq h0 hpq⟩
end Mine
namespace Mine
open Ln
noncomputable def beg (L:List St4):Nat→Int×Int
  | 0=>(0,1)
  | k+1=>match L[k]? with | some s=>(s.p,s.q) | none=>(0,1)
noncomputable def Abv (L:List St4) (k:Nat) (s r:St4):Prop:=s.at (beg L k).1 (beg L k).2≤r.at (beg L k).1 (beg L k).2∧s.at s.p s.q≤r.at s.p s.q
theorem Abv.self (L:List St4) (k:Nat) (s:St4):Abv L k s s:=⟨Int.le_refl _,Int.le_refl _⟩
theorem ch_at:∀{L:List St4} {i:Nat} {s t:St4},Ch L→L[i]?=some s→L[i+1]?=some t→Adj s t
  | s'::t'::r,0,s,t,h,e1,e2=>by cases e1;cases e2;exact h.1
  | s'::t'::r,i+1,s,t,h,e1,e2=>ch_at (L:=t'::r) (i:=i) h.2 (by simpa using e1) (by simpa using e2)
  | [_],0,_,_,_,_,e2=>by cases e2
  | [_],i+1,_,_,_,e1,_=>by simp at e1
  | [],_,_,_,_,e1,_=>by simp at e1
theorem cross {r j:St4} {pe qe px qx pt qt:Int} (he:0 < qe) (hx:0 < qx) (ht:0 < qt) (o:(pe*qx≤px*qe∧pt*qe≤pe*qt)∨(px*qe≤pe*qx∧pe*qt≤pt*qe)) (h1:r.at pe qe≤j.at pe qe) (h2:j.at px qx < r.at px qx):r.at pt qt≤j.at pt qt:=by
  unfold St4.at at *
  have key:qe*(r.m*px+r.h*qx - (j.m*px+j.h*qx)) - qx*(r.m*pe+r.h*qe - (j.m*pe+j.h*qe))=(r.m - j.m)*(px*qe - pe*qx):=by grind
  have key2:qe*(r.m*pt+r.h*qt - (j.m*pt+j.h*qt)) - qt*(r.m*pe+r.h*qe - (j.m*pe+j.h*qe))=(r.m - j.m)*(pt*qe - pe*qt):=by grind
  have hX:0 < r.m*px+r.h*qx - (j.m*px+j.h*qx):=by omega
  have hE:r.m*pe+r.h*qe - (j.m*pe+j.h*qe)≤0:=by omega
  suffices k:r.m*pt+r.h*qt - (j.m*pt+j.h*qt)≤0 by omega
  generalize r.m*px+r.h*qx - (j.m*px+j.h*qx)=X at key hX
  generalize r.m*pe+r.h*qe - (j.m*pe+j.h*qe)=E at key key2 hE
  generalize r.m*pt+r.h*qt - (j.m*pt+j.h*qt)=T at key2 ⊢
  generalize r.m - j.m=A at key key2
  have a1:0 < qe*X:=Int.mul_pos he hX
  have a2:qx*E≤0:=Int.mul_nonpos_of_nonneg_of_nonpos (by omega) hE
  have a3:qt*E≤0:=Int.mul_nonpos_of_nonneg_of_nonpos (by omega) hE
  have a4:A*(pt*qe - pe*qt)≤0:=by
    rcases o with ⟨o1,o2⟩ | ⟨o1,o2⟩
    · have:0 < A:=by
        rcases Int.lt_or_le 0 A with z | z
        · exact z
        · have:=Int.mul_nonpos_of_nonpos_of_nonneg z (show 0≤px*qe - pe*qx by omega)
          omega
      exact Int.mul_nonpos_of_nonneg_of_nonpos (by omega) (by omega)
    · have:A < 0:=by
        rcases Int.lt_or_le A 0 with z | z
        · exact z
        · have:=Int.mul_nonpos_of_nonneg_of_nonpos z (show px*qe - pe*qx≤0 by omega)
          omega
      exact Int.mul_nonpos_of_nonpos_of_nonneg (by omega) (by omega)
  rcases Int.lt_or_le 0 T with z | z
  · have:=Int.mul_pos he z
    omega
  · exact z
theorem beg_succ {L:List St4} {k:Nat} {s:St4} (h:L[k]?=some s):beg L (k+1)=(s.p,s.q):=by
  show (match L[k]? with | some s=>(s.p,s.q) | none=>((0,1):Int×Int))=_
  rw [h]
theorem beg_none {L:List St4} {k:Nat} (h:L[k]?=none):beg L (k+1)=(0,1):=by
  show (match L[k]? with | some s=>(s.p,s.q) | none=>((0,1):Int×Int))=_
  rw [h]
theorem beg_pos {n:Nat} {L:List St4} (l:LineB n L):∀ k,0 < (beg L k).2
  | 0=>(show (0:Int) < 1 by decide)
  | k+1=>by
    cases e:L[k]? with
    | none=>rw [beg_none e];decide
    | some s=>have:=l.ok s (List.mem_of_getElem? e);rw [beg_succ e];exact Int.lt_of_lt_of_le this.1 this.2.1
theorem ok_pos {n:Nat} {L:List St4} (l:LineB n L) {k:Nat} {s:St4} (h:L[k]?=some s):0 < s.q:=by
  have:=l.ok s (List.mem_of_getElem? h)
  exact Int.lt_of_lt_of_le this.1 this.2.1
theorem le_tr {p q r s t u:Int} (hs:0 < s) (hq:0 < q) (hu:0 < u) (h1:p*s≤r*q) (h2:r*u≤t*s):p*u≤t*q:=by
  have e1:=Int.mul_le_mul_of_nonneg_right h1 (Int.le_of_lt hu)
  have e2:=Int.mul_le_mul_of_nonneg_right h2 (Int.le_of_lt hq)
  have e3:r*q*u=r*u*q:=by grind
  have e4:p*s*u=s*(p*u):=by grind
  have e5:t*s*q=s*(t*q):=by grind
  exact Int.le_of_mul_le_mul_left (show s*(p*u)≤s*(t*q) by omega) hs
theorem beg_end {n:Nat} {L:List St4} (l:LineB n L) {k:Nat} {s:St4} (h:L[k]?=some s):(beg L k).1*s.q≤s.p*(beg L k).2:=by
  cases k with
  | zero=>have:=l.ok s (List.mem_of_getElem? h);show 0*s.q≤s.p*1;have:=this.1;omega
  | succ k =>
    have hk:k < L.length:=by have:=(List.getElem?_eq_some_iff.mp h).1;omega
    have e:L[k]?=some L[k]:=List.getElem?_eq_getElem hk
    have a:=ch_at l.ch e h
    rw [beg_succ e]
    exact Int.le_of_lt a.1
theorem beg_lt {n:Nat} {L:List St4} (l:LineB n L) {k:Nat} {s:St4} (h:L[k]?=some s):(beg L k).1*s.q < s.p*(beg L k).2:=by
  cases k with
  | zero=>have:=l.ok s (List.mem_of_getElem? h);show 0*s.q < s.p*1;have:=this.1;omega
  | succ k =>
    have hk:k < L.length:=by have:=(List.getElem?_eq_some_iff.mp h).1;omega
    have e:L[k]?=some L[k]:=List.getElem?_eq_getElem hk
    have a:=ch_at l.ch e h
    rw [beg_succ e]
    exact a.1
theorem end_beg {n:Nat} {L:List St4} (l:LineB n L) {k:Nat} {s:St4} (h:L[k]?=some s):∀ d,k+1+d≤L.length→s.p*(beg L (k+1+d)).2≤(beg L (k+1+d)).1*s.q
  | 0,_=>by show s.p*(beg L (k+1)).2≤(beg L (k+1)).1*s.q;rw [beg_succ h];exact Int.le_refl _
  | d+1,hd=>by
    have ih:=end_beg l h d (by omega)
    have hk:k+1+d < L.length:=by omega
    have e:L[k+1+d]?=some L[k+1+d]:=List.getElem?_eq_getElem hk
    have b:=beg_end l e
    have eb:beg L (k+1+(d+1))=(L[k+1+d].p,L[k+1+d].q):=beg_succ e
    rw [eb]
    exact le_tr (beg_pos l _) (ok_pos l h) (ok_pos l e) ih b
theorem adj_at {s t:St4} (a:Adj s t):t.at s.p s.q=s.at s.p s.q:=by
  have:=a.2.1
  unfold St4.at
  have e:(t.m - s.m)*s.p+(t.h - s.h)*s.q=(t.m*s.p+t.h*s.q) - (s.m*s.p+s.h*s.q):=by grind
  omega
theorem to_right {n:Nat} {L:List St4} (l:LineB n L) {k:Nat} {s:St4} (hk:L[k]?=some s):∀(d:Nat) {j:St4},L[k+d]?=some j→∀{p q:Int},0 < q→(beg L (k+d)).1*q≤p*(beg L (k+d)).2→∃(i:Nat) (r:St4),L[i]?=some r∧Abv L k s r∧r.at p q≤j.at p q
  | 0,j,hj,p,q,_,_=>by
    have:L[k]?=some j:=hj
    rw [hk] at this
    cases this
    exact ⟨k,s,hk,Abv.self L k s,Int.le_refl _⟩
  | d+1,j,hj,p,q,hq,hb=>by
    have hlt:k+d < L.length:=by have:=(List.getElem?_eq_some_iff.mp hj).1;omega
    have e:L[k+d]?=some L[k+d]:=List.getElem?_eq_getElem hlt
    have eb:beg L (k+(d+1))=(L[k+d].p,L[k+d].q):=beg_succ e
    rw [eb] at hb
    have ch:=adj_at (ch_at l.ch e (show L[k+d+1]?=some j from hj))
    have qe:=ok_pos l e
    obtain ⟨i,r,hi,ab,le⟩:=to_right l hk d e (p:=L[k+d].p) (q:=L[k+d].q) qe (beg_end l e)
    rw [← ch] at le
    by_cases c:r.at p q≤j.at p q
    · exact ⟨i,r,hi,ab,c⟩
    have c':j.at p q < r.at p q:=by omega
    refine ⟨k+(d+1),j,hj,⟨Int.le_trans ab.1 ?_,Int.le_trans ab.2 ?_⟩,Int.le_refl _⟩
    · refine cross qe hq (beg_pos l k) (.inl ⟨hb,?_⟩) le c'
      cases d with
      | zero=>have:=beg_end l e;simpa using this
      | succ d =>
        have h1:=beg_end l hk
        have h2:=end_beg l hk d (by omega)
        have h3:=le_tr (ok_pos l hk) (beg_pos l k) (beg_pos l (k+1+d)) h1 h2
        rw [show k+1+d=k+(d+1) by omega] at h3
        exact le_tr (beg_pos l (k+(d+1))) (beg_pos l k) qe h3 (beg_end l e)
    · refine cross qe hq (ok_pos l hk) (.inl ⟨hb,?_⟩) le c'
      cases d with
      | zero =>
        have:L[k]?=some L[k+0]:=e
        rw [hk] at this
        rw [← Option.some.inj this]
        exact Int.le_refl _
      | succ d =>
        have h2:=end_beg l hk d (by omega)
        rw [show k+1+d=k+(d+1) by omega] at h2
        exact le_tr (beg_pos l (k+(d+1))) (ok_pos l hk) qe h2 (beg_end l e)
theorem to_left {n:Nat} {L:List St4} (l:LineB n L) {k:Nat} {s:St4} (hk:L[k]?=some s):∀(d i0:Nat) {j:St4},i0+d=k→L[i0]?=some j→∀{p q:Int},0 < q→p*j.q≤j.p*q→∃(i:Nat) (r:St4),L[i]?=some r∧Abv L k s r∧r.at p q≤j.at p q
  | 0,i0,j,hi,hj,p,q,_,_=>by
    have:i0=k:=hi
    subst this
    rw [hk] at hj
    cases hj
    exact ⟨i0,s,hk,Abv.self L i0 s,Int.le_refl _⟩
  | d+1,i0,j,hi,hj,p,q,hq,hb=>by
    have hkl:=(List.getElem?_eq_some_iff.mp hk).1
    have e:L[i0+1]?=some L[i0+1]:=List.getElem?_eq_getElem (by omega)
    have a:=ch_at l.ch hj e
    have ch:=adj_at a
    have qe:=ok_pos l hj
    obtain ⟨i,r,hi',ab,le⟩:=to_left l hk d (i0+1) (by omega) e (p:=j.p) (q:=j.q) qe (Int.le_of_lt a.1)
    rw [ch] at le
    by_cases c:r.at p q≤j.at p q
    · exact ⟨i,r,hi',ab,c⟩
    have c':j.at p q < r.at p q:=by omega
    have h2:=end_beg l hj d (by omega)
    rw [show i0+1+d=k by omega] at h2
    refine ⟨i0,j,hj,⟨Int.le_trans ab.1 (cross qe hq (beg_pos l k) (.inr ⟨hb,h2⟩) le c'),Int.le_trans ab.2 (cross qe hq (ok_pos l hk) (.inr ⟨hb,le_tr (beg_pos l k) qe (ok_pos l hk) h2 (beg_end l hk)⟩) le c')⟩,Int.le_refl _⟩
theorem pk_idx {L:List St4} {p q:Int} {s:St4} (h:pk L p q=some s):∃ j:Nat,L[j]?=some s∧¬s.p*q < p*s.q∧∀ i,i < j→∀ t,L[i]?=some t→t.p*q < p*t.q:=by
  unfold pk at h
  obtain ⟨hp,i,hi,e,k⟩:=List.find?_eq_some_iff_getElem.mp h
  refine ⟨i,by rw [List.getElem?_eq_getElem hi,e],by simpa using hp,fun j hj t ht=>?_⟩
  have:=k j hj
  obtain ⟨hj',et⟩:=List.getElem?_eq_some_iff.mp ht
  rw [et] at this
  simpa using this
theorem between {r s:St4} {pb qb pe qe p q:Int} (hd:pb*qe < pe*qb) (h1:pb*q≤p*qb) (h2:p*qe≤pe*q) (hb:s.at pb qb≤r.at pb qb) (he:s.at pe qe≤r.at pe qe):s.at p q≤r.at p q:=by
  unfold St4.at at *
  have key:(pe*qb - pb*qe)*(r.m*p+r.h*q - (s.m*p+s.h*q))=(pe*q - p*qe)*(r.m*pb+r.h*qb - (s.m*pb+s.h*qb))+(p*qb - pb*q)*(r.m*pe+r.h*qe - (s.m*pe+s.h*qe)):=by grind
  have a1:=Int.mul_nonneg (show 0≤pe*q - p*qe by omega) (show 0≤r.m*pb+r.h*qb - (s.m*pb+s.h*qb) by omega)
  have a2:=Int.mul_nonneg (show 0≤p*qb - pb*q by omega) (show 0≤r.m*pe+r.h*qe - (s.m*pe+s.h*qe) by omega)
  rcases Int.lt_or_le (r.m*p+r.h*q - (s.m*p+s.h*q)) 0 with z | z
  · have:=Int.mul_neg_of_pos_of_neg (show 0 < pe*qb - pb*qe by omega) z
    omega
  · omega
theorem backs {n:Nat} {L:List St4} (l:LineB n L) (inn:Inn L) {p q:Int} (hq:0 < q) (h0:0≤p) (hpq:p≤q) :
    (∃(j:Nat) (s:St4),L[j]?=some s∧∀ r,Abv L j s r→hAt L p q≤hS r.m r.h p q)∧
    ∀(k:Nat) (s:St4),L[k]?=some s→∃(i:Nat) (r:St4),L[i]?=some r∧Abv L k s r∧hS r.m r.h p q≤hAt L p q:=by
  obtain ⟨s,hs⟩:=hAt_some l.way hq hpq
  obtain ⟨j,hj,he,hb⟩:=pk_idx hs
  have bb:(beg L j).1*q≤p*(beg L j).2:=by
    cases j with
    | zero=>show 0*q≤p*1;omega
    | succ j =>
      have hlt:j < L.length:=by have:=(List.getElem?_eq_some_iff.mp hj).1;omega
      have e:L[j]?=some L[j]:=List.getElem?_eq_getElem hlt
      rw [beg_succ e]
      exact Int.le_of_lt (hb j (by omega) _ e)
  have ee:p*s.q≤s.p*q:=by omega
  have I:=inn p q hq h0 hpq
  have ea:=hAt_of hs
  refine ⟨⟨j,s,hj,fun r ab=>?_⟩,fun k t hk=>?_⟩
  · have:=between (beg_lt l hj) bb ee ab.1 ab.2
    rw [← ea] at this
    unfold St4.at at this
    unfold hS
    omega
  · have:∃(i:Nat) (r:St4),L[i]?=some r∧Abv L k t r∧r.at p q≤s.at p q:=by
      rcases Nat.lt_or_ge j k with z | z
      · exact to_left l hk (k - j) j (by omega) hj hq ee
      · exact to_right l hk (j - k) (by rw [show k+(j - k)=j by omega];exact hj) hq (by rw [show k+(j - k)=j by omega];exact bb)
    obtain ⟨i,r,h1,h2,h3⟩:=this
    refine ⟨i,r,h1,h2,?_⟩
    rw [← ea] at h3
    unfold St4.at at h3
    unfold hS
    omega
theorem lt_tr {p q r s t u:Int} (hs:0 < s) (hq:0 < q) (hu:0 < u) (h1:p*s≤r*q) (h2:r*u < t*s):p*u < t*q:=by
  have e1:=Int.mul_le_mul_of_nonneg_right h1 (Int.le_of_lt hu)
  have e2:=Int.mul_lt_mul_of_pos_right h2 hq
  have e3:r*q*u=r*u*q:=by grind
  have e4:p*s*u=s*(p*u):=by grind
  have e5:t*s*q=s*(t*q):=by grind
  exact Int.lt_of_mul_lt_mul_left (show s*(p*u) < s*(t*q) by omega) (Int.le_of_lt hs)
theorem end_in {n:Nat} {L:List St4} (l:LineB n L) (inn:Inn L) {k:Nat} {s:St4} (h:L[k]?=some s):0≤s.at s.p s.q∧s.at s.p s.q≤s.q:=by
  have ok:=l.ok s (List.mem_of_getElem? h)
  have hk:=(List.getElem?_eq_some_iff.mp h).1
  have e:pk L s.p s.q=some s:=pk_at (k:=k) (fun j hj t ht=>by
    have b:=end_beg l ht (k - (j+1)) (by omega)
    rw [show j+1+(k - (j+1))=k by omega] at b
    exact lt_tr (beg_pos l k) (ok_pos l ht) (ok_pos l h) b (beg_lt l h)) h (by omega)
  have:=inn s.p s.q (ok_pos l h) (Int.le_of_lt ok.1) ok.2.1
  rw [hAt_of e] at this
  exact this
theorem beg_in {n:Nat} {L:List St4} (l:LineB n L) (inn:Inn L) {k:Nat} {s:St4} (h:L[k]?=some s):0≤s.at (beg L k).1 (beg L k).2∧s.at (beg L k).1 (beg L k).2≤(beg L k).2:=by
  cases k with
  | zero =>
    have ok:=l.ok s (List.mem_of_getElem? h)
    have e:pk L 0 1=some s:=pk_at (k:=0) (fun j hj=>absurd hj (by omega)) h (by have:=ok.1;omega)
    have:=inn 0 1 (by decide) (by decide) (by decide)
    rw [hAt_of e] at this
    exact this
  | succ k =>
    have hk:k < L.length:=by have:=(List.getElem?_eq_some_iff.mp h).1;omega
    have e:L[k]?=some L[k]:=List.getElem?_eq_getElem hk
    rw [beg_succ e]
    show 0≤s.at L[k].p L[k].q∧s.at L[k].p L[k].q≤L[k].q
    rw [adj_at (ch_at l.ch e h)]
    exact end_in l inn e
end Mine
namespace Mine
open Ln
structure Inw (m h p q:Int):Prop where
  lo:0≤m*p+h*q
  hi:m*p+h*q≤q
  up:m*p+h*q=0→0≤m
  dn:m*p+h*q=q→m≤0
structure Wy (m h p q:Int) (e f m' h':Int):Prop where
  f0:0 < f
  f9:f≤8
  gc:Lo.gc e f=1
  af:p*f < e*q
  be:e < f
  ne:m'≠m
  mm:m'.natAbs≤4
  hh:h'.natAbs≤5
  mt:(m' - m)*e+(h' - h)*f=0
  iw:Inw m' h' e f
structure Bw (S:List St4) (p q m h:Int):Prop where
  ok:∀ s∈S,OkB 10 s∧s.m.natAbs≤4∧0≤s.at s.p s.q∧s.at s.p s.q≤s.q
  fst:∀ s,S[0]?=some s→0≤s.h∧s.h≤1
  fs0:S=[]→0≤h∧h≤1
  ch:Ch S
  p0:0≤p
  pq:p < q
  mm:m.natAbs≤4
  hh:h.natAbs≤5
  join:∀ s,S.getLast?=some s→s.p=p∧s.q=q∧(m - s.m)*p+(h - s.h)*q=0∧m≠s.m
  iw:Inw m h p q
theorem Bw.start {m h:Int} (c:(0≤m∧m≤4∧h=0)∨(m≤0∧-4≤m∧h=1)):Bw [] 0 1 m h :=
  ⟨(fun _ h=>nomatch h),(fun _ h=>nomatch h),(fun _=>by omega),trivial,by omega,by omega,by omega,by omega,(fun _ h=>nomatch h),⟨by omega,by omega,by omega,by omega⟩⟩
theorem Bw.step {S:List St4} {p q m h e f m' h':Int} (b:Bw S p q m h) (w:Wy m h p q e f m' h'):Bw (S++[⟨e,f,m,h⟩]) e f m' h':=by
  have q0:0 < q:=by have:=b.p0;have:=b.pq;omega
  have e0:0 < e:=by
    rcases int_or 0 e with z | z
    · exact z
    · exfalso
      have h1:=Int.mul_nonneg b.p0 (show 0≤f by have:=w.f0;omega)
      have h2:e*q≤0:=Int.mul_nonpos_of_nonpos_of_nonneg z (by omega)
      have:=w.af
      omega
  have at':m'*e+h'*f=m*e+h*f:=by have:=w.mt;grind
  have i:=w.iw
  have k10:(2:Nat) ^ 10=1024:=rfl
  have f0:=w.f0
  have f9:=w.f9
  have be:=w.be
  have bm:=b.mm
  have bh:=b.hh
  refine ⟨?_,?_,?_,?_,by omega,w.be,w.mm,w.hh,?_,i⟩
  · intro s hs
    rcases List.mem_append.mp hs with z | z
    · exact b.ok s z
    · have:=List.mem_singleton.mp z
      subst this
      refine ⟨⟨e0,by show e≤f;omega,w.gc,by show f.natAbs < _;omega,by show m.natAbs < _;omega,by show h.natAbs < _;omega⟩,bm,?_,?_⟩
      · show 0≤m*e+h*f
        have:=i.lo
        omega
      · show m*e+h*f≤f
        have:=i.hi
        omega
  · intro s hs
    by_cases z:S=[]
    · subst z
      cases hs
      exact b.fs0 rfl
    · have l:=List.length_pos_iff.mpr z
      rw [List.getElem?_append_left l] at hs
      exact b.fst s hs
  · intro z
    simp at z
  · refine b.ch.snoc fun s hs=>?_
    obtain ⟨j1,j2,j3,j4⟩:=b.join s hs
    refine ⟨?_,?_,j4⟩
    · show s.p*f < e*s.q
      rw [j1,j2];exact w.af
    · show (m - s.m)*s.p+(h - s.h)*s.q=0
      rw [j1,j2];exact j3
  · intro s hs
    rw [List.getLast?_append,List.getLast?_singleton,Option.some_or] at hs
    cases hs
    exact ⟨rfl,rfl,w.mt,w.ne⟩
theorem way_up {m h p q:Int} (p0:0≤p) (pq:p < q) (mm:m.natAbs≤4) (i:Inw m h p q) (c:0 < m) (c2:1 < m+h):Wy m h p q (Lo.lowT (1 - h) m) (Lo.lowB (1 - h) m) 0 1:=by
  have m0:m≠0:=by omega
  have e1:=Lo.lowT_eq (1 - h) m
  have e2:=Lo.lowB_eq (1 - h) m
  have s0:=Lo.sg_pos (t:=1 - h) c
  have r:=rule_at (m:=1 - h) m0
  have bl:=Lo.lowB_le (t:=1 - h) m0
  have bp:=Lo.lowB_pos (t:=1 - h) m0
  have lt:m*p < (1 - h)*q:=by
    have:=i.hi
    have:¬m*p+h*q=q:=fun z=>by have:=i.dn z;omega
    have:(1 - h)*q=q - h*q:=by grind
    omega
  have tb:Lo.lowT (1 - h) m < Lo.lowB (1 - h) m:=by
    rcases int_or (Lo.lowT (1 - h) m) (Lo.lowB (1 - h) m) with z | z
    · exact z
    · exfalso
      have:=Int.mul_le_mul_of_nonneg_left z (show 0≤Lo.sg (1 - h) m by omega)
      omega
  have key:Lo.sg (1 - h) m*(Lo.lowT (1 - h) m*q - p*Lo.lowB (1 - h) m)=(1 - h)*q - m*p:=by
    have:Lo.sg (1 - h) m*(Lo.lowT (1 - h) m*q - p*Lo.lowB (1 - h) m)=(Lo.sg (1 - h) m*Lo.lowT (1 - h) m)*q - (Lo.sg (1 - h) m*Lo.lowB (1 - h) m)*p:=by grind
    rw [this,e1,e2]
  have af:p*Lo.lowB (1 - h) m < Lo.lowT (1 - h) m*q:=by
    rcases int_or (p*Lo.lowB (1 - h) m) (Lo.lowT (1 - h) m*q) with z | z
    · exact z
    · exfalso
      have:=Int.mul_nonneg (show 0≤Lo.sg (1 - h) m by omega) (show 0≤p*Lo.lowB (1 - h) m - Lo.lowT (1 - h) m*q by omega)
      have e:Lo.sg (1 - h) m*(p*Lo.lowB (1 - h) m - Lo.lowT (1 - h) m*q) = - (Lo.sg (1 - h) m*(Lo.lowT (1 - h) m*q - p*Lo.lowB (1 - h) m)):=by grind
      omega
  have g:=Lo.low_gc (t:=1 - h) m0
  generalize Lo.lowT (1 - h) m=T at *
  generalize Lo.lowB (1 - h) m=B at *
  exact ⟨bp,by omega,g,af,tb,by omega,by decide,by decide,by grind,⟨by omega,by omega,by omega,by omega⟩⟩
theorem way_dn {m h p q:Int} (p0:0≤p) (pq:p < q) (mm:m.natAbs≤4) (i:Inw m h p q) (c:m < 0) (c2:m+h < 0):Wy m h p q (Lo.lowT h (-m)) (Lo.lowB h (-m)) 0 0:=by
  have m0:-m≠0:=by omega
  have e1:=Lo.lowT_eq h (-m)
  have e2:=Lo.lowB_eq h (-m)
  have s0:=Lo.sg_pos (t:=h) (b:=-m) (by omega)
  have r:=rule_at (m:=h) m0
  have bl:=Lo.lowB_le (t:=h) m0
  have bp:=Lo.lowB_pos (t:=h) m0
  have lt:-m*p < h*q:=by
    have:=i.lo
    have:¬m*p+h*q=0:=fun z=>by have:=i.up z;omega
    have:-m*p = - (m*p):=by grind
    omega
  have tb:Lo.lowT h (-m) < Lo.lowB h (-m):=by
    rcases int_or (Lo.lowT h (-m)) (Lo.lowB h (-m)) with z | z
    · exact z
    · exfalso
      have:=Int.mul_le_mul_of_nonneg_left z (show 0≤Lo.sg h (-m) by omega)
      omega
  have key:Lo.sg h (-m)*(Lo.lowT h (-m)*q - p*Lo.lowB h (-m))=h*q - -m*p:=by
    have:Lo.sg h (-m)*(Lo.lowT h (-m)*q - p*Lo.lowB h (-m))=(Lo.sg h (-m)*Lo.lowT h (-m))*q - (Lo.sg h (-m)*Lo.lowB h (-m))*p:=by grind
    rw [this,e1,e2]
  have af:p*Lo.lowB h (-m) < Lo.lowT h (-m)*q:=by
    rcases int_or (p*Lo.lowB h (-m)) (Lo.lowT h (-m)*q) with z | z
    · exact z
    · exfalso
      have:=Int.mul_nonneg (show 0≤Lo.sg h (-m) by omega) (show 0≤p*Lo.lowB h (-m) - Lo.lowT h (-m)*q by omega)
      have e:Lo.sg h (-m)*(p*Lo.lowB h (-m) - Lo.lowT h (-m)*q) = - (Lo.sg h (-m)*(Lo.lowT h (-m)*q - p*Lo.lowB h (-m))):=by grind
      omega
  have g:=Lo.low_gc (t:=h) m0
  generalize Lo.lowT h (-m)=T at *
  generalize Lo.lowB h (-m)=B at *
  exact ⟨bp,by omega,g,af,tb,by omega,by decide,by decide,by grind,⟨by omega,by omega,by omega,by omega⟩⟩
structure Sty (m h:Int):Prop where
  lo:0≤m+h
  hi:m+h≤1
theorem sty_of {m h p q:Int} (p0:0≤p) (pq:p < q) (i:Inw m h p q) (a:¬ (0 < m∧1 < m+h)) (b:¬ (m < 0∧m+h < 0)):Sty m h:=by
  have lo:=i.lo
  have hi:=i.hi
  have q0:0 < q:=by omega
  have e:q*(m+h)=(m*p+h*q)+m*(q - p):=by grind
  rcases int_or m 0 with z | z
  · have k1:¬m+h < 0:=fun y=>b ⟨z,y⟩
    refine ⟨by omega,?_⟩
    have:m*(q - p)≤0:=Int.mul_nonpos_of_nonpos_of_nonneg (by omega) (by omega)
    rcases int_or 1 (m+h) with y | y
    · have:=Int.mul_le_mul_of_nonneg_left (show 2≤m+h by omega) (show 0≤q by omega)
      omega
    · exact y
  · have:0≤m*(q - p):=Int.mul_nonneg (by omega) (by omega)
    have l0:0≤m+h:=by
      rcases int_or (m+h) 0 with y | y
      · have:=Int.mul_le_mul_of_nonneg_left (show m+h≤-1 by omega) (show 0≤q by omega)
        omega
      · exact y
    refine ⟨l0,?_⟩
    rcases int_or 0 m with y | y
    · have:¬1 < m+h:=fun k=>a ⟨y,k⟩
      omega
    · have m0:m=0:=by omega
      subst m0
      rcases int_or 1 (0+h) with y | y
      · have:=Int.mul_le_mul_of_nonneg_left (show 2≤0+h by omega) (show 0≤q by omega)
        omega
      · exact y
theorem Bw.line {S:List St4} {p q m h:Int} (b:Bw S p q m h) (y:Sty m h):LineB 10 (S++[⟨1,1,m,h⟩])∧Inn (S++[⟨1,1,m,h⟩])∧∀ s∈S++[⟨1,1,m,h⟩],s.m.natAbs≤4:=by
  have k10:(2:Nat) ^ 10=1024:=rfl
  have bm:=b.mm
  have bh:=b.hh
  have L:LineB 10 (S++[⟨1,1,m,h⟩]):=by
    refine ⟨?_,?_,⟨⟨1,1,m,h⟩,by rw [List.getLast?_append,List.getLast?_singleton,Option.some_or],rfl,rfl⟩⟩
    · intro s hs
      rcases List.mem_append.mp hs with z | z
      · exact (b.ok s z).1
      · have:=List.mem_singleton.mp z
        subst this
        exact ⟨by show (0:Int) < 1;omega,by show (1:Int)≤1;omega,(by show Lo.gc 1 1=1;decide),by show (1:Int).natAbs < 2 ^ 10;decide,by show m.natAbs < 2 ^ 10;omega,by show h.natAbs < 2 ^ 10;omega⟩
    · refine b.ch.snoc fun s hs=>?_
      obtain ⟨j1,j2,j3,j4⟩:=b.join s hs
      refine ⟨?_,?_,j4⟩
      · show s.p*1 < 1*s.q
        have:=b.pq
        omega
      · show (m - s.m)*s.p+(h - s.h)*s.q=0
        rw [j1,j2];exact j3
  have okE:∀ s∈S++[⟨1,1,m,h⟩],0≤s.at s.p s.q∧s.at s.p s.q≤s.q:=by
    intro s hs
    rcases List.mem_append.mp hs with z | z
    · exact (b.ok s z).2.2
    · have:=List.mem_singleton.mp z
      subst this
      show 0≤m*1+h*1∧m*1+h*1≤1
      have:=y.lo
      have:=y.hi
      omega
  refine ⟨L,?_,?_⟩
  · refine wi_inn L ?_
    rw [← wi_bd L,List.all_eq_true]
    intro x hx
    unfold bdL at hx
    rcases List.mem_append.mp hx with z | z
    · obtain ⟨s,hs,rfl⟩:=List.mem_map.mp z
      refine decide_eq_true ?_
      show 0≤s.m*0+s.h*1∧s.m*0+s.h*1≤1
      have hs0:(S++[⟨1,1,m,h⟩])[0]?=some s:=by
        cases S with
        | nil =>
          have:=List.mem_singleton.mp hs
          rw [this]
          rfl
        | cons a r =>
          have:=List.mem_singleton.mp hs
          rw [this]
          rfl
      by_cases zz:S=[]
      · subst zz
        cases hs0
        have:=b.fs0 rfl
        show 0≤m*0+h*1∧m*0+h*1≤1
        omega
      · rw [List.getElem?_append_left (List.length_pos_iff.mpr zz)] at hs0
        have:=b.fst s hs0
        omega
    · obtain ⟨s,hs,rfl⟩:=List.mem_map.mp z
      exact decide_eq_true (okE s hs)
  · intro s hs
    rcases List.mem_append.mp hs with z | z
    · exact (b.ok s z).2.1
    · have:=List.mem_singleton.mp z
      subst this
      exact b.mm
end Mine
set_option maxHeartbeats 4000000
namespace PySem
section
variable {prog:Program} {w:World} {A:Around} {E:Value→Shared→Prop} {s:Shared} {l:Addr} {xs:Array (Int×Tok)}
theorem sum_intTupG {Q:Value→Shared→Prop} (hh:A.handled=none) (hl:s.heap.IsTuple l (intItems xs))
    (h:∀ h' tk t',(∀ b o,s.heap.get? b=some o→h'.get? b=some o)→Q (.int (preSum (numAt xs) xs.size) t') {s with heap:=h',toks:=tk}) :
    wpAny (model prog w) A (call (.builtin "sum") [.ref l]) Q E s:=by
  have hlt:l < s.heap.objs.size:=by obtain ⟨_,e,_⟩:=hl;exact Heap.lt_size e
  refine call_sum_walkG (wpAny_pyIter_tuple hl ?_)
  refine ⟨_,[s.heap.objs.size,l],[s.heap.objs.size],_,_,_,numAt xs,rfl,Walks.tuple (A:=A.in1) hh _ l (Nat.ne_of_lt hlt) (intItems xs),⟨⟨_,Heap.get?_push_size _ rfl,rfl,rfl⟩,hl.push _⟩,(fun b hb=>?_),(fun _ _=>intItems_at),fun h' tk t' hk=>?_⟩
  · show b < (s.heap.push _).objs.size
    rw [Heap.size_push]
    rcases List.mem_cons.mp hb with rfl | hb
    · exact Nat.lt_succ_self _
    · rcases List.mem_cons.mp hb with rfl | hb
      · exact Nat.lt_succ_of_lt hlt
      · cases hb
  · have:=h h' tk t' (fun b o e=>hk b o (fun hm=>by
      rcases List.mem_cons.mp hm with e1 | hm
      · exact absurd (e1 ▸ Heap.lt_size e) (Nat.lt_irrefl _)
      · cases hm) (Heap.get?_push_of_some _ e))
    simpa [intItems] using this
end
end PySem
namespace L2
open PySem PySem.Spec PyProof.Rows
theorem call_sumT {X:Cx} {K:PySem.W.Frag} (hk:X.K=K) (hc:X.calm=true):CallR X (.builtin "sum") (fun xs H Q=>∃(l:Addr) (ns:List Int),xs=[.ref l]∧SqT K H l (ns.map V.int)∧Q (.int ns.sum) H):=by
  subst hk
  intro pins s σ H xs us Q I r h
  obtain ⟨l,ns,rfl,hq,q⟩:=h
  obtain ⟨u,rfl,rx⟩:=vals1 r
  cases rx
  obtain ⟨its,rv,pl,_⟩:=I.tuple hq
  have hi:IntsAre its ns:=intsAre_of rv
  have hl:s.heap.IsTuple l its.toArray:=pl
  obtain ⟨ys,e⟩:=hi.allInts.items
  have en:ns=ys.toList.map (·.1):=by rw [← hi.numsOf,← nums_intItems,← e]
  rw [e] at hl
  refine sum_intTupG (I.ok.hd hc) hl fun h' tk t' hk=>?_
  have es:preSum (numAt ys) ys.size=ns.sum:=by rw [preSum_eq,← en,List.take_of_length_le (by rw [en];simp)]
  rw [es]
  exact ⟨.int ns.sum,H,I.kept hk,⟨t',rfl⟩,q⟩
end L2
namespace L2
open PySem PySem.Spec PyProof.Rows
section
variable {X:Cx}
end
end L2
namespace Mine
open PySem L2
theorem comp_filt {K:PySem.W.Frag} {wi:TI} {tc:TT} {te:TE} {js:List Nat} {σ:St} {H:Hp} {Q:VK} {xs:List V} (p:V→Bool) (g:V→V) (Src:Addr→Hp→Prop)
    (hwi:∀ R:It→Hp→Prop,(∀ l H,Src l H→R (Itl K l) H)→wi σ H R) (hsrc:∀ l H',Src l H'→H' l=some (.lst xs)∧Same H H') (hx:xs.length≤1000)
    (ht:∀(i:Nat) v H' (N:Bool→Hp→Prop),xs[i]?=some v→Same H H'→(∀ H'',Same H' H''→N (p v) H'')→tc (some v::cVals js σ) H' N)
    (hs:∀(i:Nat) v H' (N:VK),xs[i]?=some v→p v=true→Same H H'→(∀ H'',Same H' H''→N (g v) H'')→te (some v::cVals js σ) H' N)
    (hd:∀ D H',Same H H'→H D=none→H' D=some (.lst ((xs.filter p).map g))→Q (.ref D) H'):tComp wi tc te js σ H Q:=by
  refine hwi _ fun l H1 src=>?_
  intro D hD
  obtain ⟨e,s1⟩:=hsrc l H1 src
  have nl:l≠D:=ne_of_none e hD
  have hD0:H D=none:=s1.free hD
  refine ⟨fun i m H'=>m=xs.length - i∧i≤xs.length∧H' l=some (.lst xs)∧Same H H'∧H' D=some (.lst (((xs.take i).filter p).map g)),⟨xs.length,rfl,Nat.zero_le _,by rw [upd_ne nl];exact e,s1.trans (same_new hD _),upd_same⟩,?_⟩
  rintro i m H2 ⟨rfl,hi,e2,s2,eD⟩
  by_cases hlt:i < xs.length
  · refine .inr ⟨⟨xs,xs[i],SqL.of e2,by simp [hlt]⟩,fun v H3 y=>?_⟩
    obtain ⟨eh,y⟩:=y
    subst eh
    have hv:=y xs (SqL.of e2)
    have tk:xs.take (i+1)=xs.take i++[v]:=by rw [List.take_add_one,hv];rfl
    have hln:((xs.take i).filter p).length≤i:=Nat.le_trans (List.length_filter_le _ _) (by rw [List.length_take];omega)
    refine ht i v _ _ hv s2 fun H4 s4=>?_
    by_cases hp:p v=true
    · rw [if_pos hp]
      refine hs i v H4 _ hv hp (s2.trans s4) fun H5 s5=>?_
      have e5:=s5 _ _ (s4 _ _ eD)
      refine ⟨_,e5,by rw [List.length_map];exact Nat.lt_of_le_of_lt (show _≤1000 by omega) (by decide),xs.length - (i+1),by omega,rfl,hlt,?_,fun d u z=>?_,?_⟩
      · rw [upd_ne nl];exact s5 _ _ (s4 _ _ e2)
      · rw [upd_ne (ne_of_none z hD0)];exact s5 _ _ (s4 _ _ (s2 _ _ z))
      · rw [upd_same,tk,List.filter_append,List.filter_cons_of_pos hp,List.map_append]
        rfl
    · rw [if_neg hp]
      refine ⟨xs.length - (i+1),by omega,rfl,hlt,s4 _ _ e2,s2.trans s4,?_⟩
      rw [tk,List.filter_append,List.filter_cons_of_neg hp,List.map_append]
      have z:=s4 _ _ eD
      simpa using z
  · have ei:i=xs.length:=by omega
    subst ei
    rw [List.take_length] at eD
    exact .inl ⟨⟨xs,SqL.of e2,Nat.le_refl _⟩,hd D H2 s2 hD0 eD⟩
end Mine
namespace Mine
open PySem L2
noncomputable def spLowL:Sp:=fun vs H Q _=>∃ t b:Int,vs=[.int t,.int b]∧0 < b∧Sm b∧∀ a,H a=none→Q (.ref a) (upd H a (.tup [.int (Lo.lowT t b),.int (Lo.lowB t b)]))
noncomputable def spMeet32:Sp:=fun vs H Q _=>∃(a b:Addr) (m h m' h':Int),vs=[.ref a,.ref b]∧H a=some (.tup [.int m,.int h])∧H b=some (.tup [.int m',.int h'])∧m≠m'∧m.natAbs≤100∧m'.natAbs≤100∧∀ t,H t=none→Q (.ref t) (upd H t (.tup [.int (Lo.lowT (h' - h) (m - m')),.int (Lo.lowB (h' - h) (m - m'))]))
noncomputable def spInward32:Sp:=fun vs H Q _=>∃(a e b:Addr) (m h p q m' h':Int),vs=[.ref a,.ref e,.ref b]∧H a=some (.tup [.int m,.int h])∧H e=some (.tup [.int p,.int q])∧H b=some (.tup [.int m',.int h'])∧m.natAbs≤100∧h.natAbs≤100∧p.natAbs≤100∧q.natAbs≤100∧
  ∀ r:Bool,(r=true→0≤m*p+h*q∧m*p+h*q≤q∧(m*p+h*q=0→0≤m')∧(m*p+h*q=q→m'≤0))→Q (.bl r) H
noncomputable def WyAt (m h p q:Int) (H:Hp) (v:V) (e f m' h':Int):Prop:=∃ a b c,v=.ref a∧H a=some (.tup [.ref b,.ref c])∧H b=some (.tup [.int e,.int f])∧H c=some (.tup [.int m',.int h'])∧Wy m h p q e f m' h'
theorem WyAt.to {m h p q:Int} {H H':Hp} (k:Kp H H') {v:V} {e f m' h':Int} (w:WyAt m h p q H v e f m' h'):WyAt m h p q H' v e f m' h':=by
  obtain ⟨a,b,c,rfl,h1,h2,h3,w⟩:=w
  exact ⟨a,b,c,rfl,k _ _ h1 rfl,k _ _ h2 rfl,k _ _ h3 rfl,w⟩
noncomputable def Wys (m h p q:Int) (H:Hp) (us:List V):Prop:=∀ v∈us,∃ e f m' h',WyAt m h p q H v e f m' h'
theorem Wys.to {m h p q:Int} {H H':Hp} (k:Kp H H') {us:List V} (w:Wys m h p q H us):Wys m h p q H' us:=fun v hv=>by
  obtain ⟨e,f,m',h',y⟩:=w v hv
  exact ⟨e,f,m',h',y.to k⟩
noncomputable def spWays32:Sp:=fun vs H Q _=>∃(a b:Addr) (m h p q:Int),vs=[.ref a,.ref b,.int 4]∧H a=some (.tup [.int m,.int h])∧H b=some (.tup [.int p,.int q])∧m.natAbs≤4∧h.natAbs≤5∧0≤p∧p < q∧q≤8∧
  ∀(l:Addr) (us:List V) (H':Hp),Same H H'→H l=none→H' l=some (.lst us)→Wys m h p q H' us→us.length≤90→Q (.ref l) H'
noncomputable def spWayOut32:Sp:=fun vs H Q _=>∃(a:Addr) (m h p q:Int),vs=[.ref a]∧H a=some (.tup [.int m,.int h])∧m.natAbs≤4∧0≤p∧p < q∧Inw m h p q∧
  (Sty m h→Q .non H)∧∀(v:V) (H':Hp),Same H H'→¬Sty m h→(∃ e f m' h',WyAt m h p q H' v e f m' h'∧Sty m' h')→Q v H'
theorem low_meet {m h p q m' h':Int} (ne:m'≠m) (mm:m.natAbs≤4) (mm':m'.natAbs≤4) (hh':h'.natAbs≤5) (af:p*Lo.lowB (h' - h) (m - m') < Lo.lowT (h' - h) (m - m')*q) (be:Lo.lowT (h' - h) (m - m') < Lo.lowB (h' - h) (m - m'))
    (iw:0≤m*Lo.lowT (h' - h) (m - m')+h*Lo.lowB (h' - h) (m - m')∧m*Lo.lowT (h' - h) (m - m')+h*Lo.lowB (h' - h) (m - m')≤Lo.lowB (h' - h) (m - m')∧(m*Lo.lowT (h' - h) (m - m')+h*Lo.lowB (h' - h) (m - m')=0→0≤m')∧(m*Lo.lowT (h' - h) (m - m')+h*Lo.lowB (h' - h) (m - m')=Lo.lowB (h' - h) (m - m')→m'≤0)) :
    Wy m h p q (Lo.lowT (h' - h) (m - m')) (Lo.lowB (h' - h) (m - m')) m' h':=by
  have m0:m - m'≠0:=by omega
  have r:=Ln.rule_at (m:=h' - h) m0
  have bl:=Lo.lowB_le (t:=h' - h) m0
  have bp:=Lo.lowB_pos (t:=h' - h) m0
  have g:=Lo.low_gc (t:=h' - h) m0
  generalize Lo.lowT (h' - h) (m - m')=T at *
  generalize Lo.lowB (h' - h) (m - m')=B at *
  have e:m'*T+h'*B=m*T+h*B:=by grind
  exact ⟨bp,by omega,g,af,be,ne,mm',hh',by grind,⟨by omega,by omega,fun z=>iw.2.2.1 (by omega),fun z=>iw.2.2.2 (by omega)⟩⟩
theorem meet_b {m h x y:Int} (bm:m.natAbs≤4) (bh:h.natAbs≤5) (mx:x.natAbs≤4) (my:y.natAbs≤5) (ne:x≠m):(Lo.lowT (y - h) (m - x)).natAbs≤10∧(Lo.lowB (y - h) (m - x)).natAbs≤8:=by
  have b0:m - x≠0:=by omega
  exact ⟨Nat.le_trans (Lo.lowT_le b0) (by omega),Nat.le_trans (Lo.lowB_le b0) (by omega)⟩
section
variable {P:Program} {w:World} {K:PySem.W.Frag} {mg:Str→Option Value} {base:Heap}
theorem ok_lowL (T:TopDef K mg "_law_lowest" s_l_lowest) (Z_abs:mg "abs"=none):Def P w K mg base 1 "_law_lowest" ["_law_top","_law_bottom"] spLowL:=by
  refine def_of T sc_l_lowest (fun _ _ _ _ _ _ us hl=>match us,hl with | [_,_],_=>rfl) (fun vs H Q E h=>?_) (fun f cdv A outer s H vs Q E hr h=>?_)
  · obtain ⟨t,b,rfl,_⟩:=h
    rfl
  obtain ⟨t,b,rfl,hb,hs,q⟩:=h
  have nd:=sc_l_lowest.nd
  refine ⟨_,(pss_cons (ps_set (i:=2) nd rfl (Or.inl rfl) (pe_callB call_abs rfl Z_abs (by decide +kernel) (pa_cons (pv 0) pa_nil)))
    (pss_cons (ps_set (i:=3) nd rfl (Or.inl rfl) (pv 1))
    (pss_cons (ps_while PassesOwn.never (pt_cmpR op_gt (pv 3) pe_int (nomark _)) (pss_one (ps_par (i:=2) (j:=3) rfl nd rfl rfl (by decide) rfl rfl (pa_cons (pv 3) (pa_cons (pe_op op_modN (pv 2) (pv 3)) pa_nil)) rfl)))
    (pss_one (ps_ret (pe_tup (pa_cons (pe_op op_fdivK (pv 0) (pv 2)) (pa_cons (pe_op op_fdivK (pv 1) (pv 2)) pa_nil)))))))),?_⟩
  refine ⟨_,rfl,_,rfl,_,rfl,?_⟩
  rw [abs_is]
  refine ⟨fun m σ H'=>H'=H∧∃ g l:Int,σ=[some (.int t),some (.int b),some (.int g),some (.int l)]∧0≤g∧0≤l∧l.toNat=m∧Lo.gc g l=Lo.gc t b,⟨_,rfl,_,_,rfl,by omega,by omega,rfl,(by have:=Lo.gc_natAbs t b;rwa [show (b.natAbs:Int)=b by omega] at this)⟩,?_⟩
  rintro m σ H' ⟨rfl,g,l,rfl,hg,hl,rfl,e⟩
  refine ⟨_,rfl,_,_,rfl,rfl,_,rfl,?_⟩
  refine ite2 (fun c=>?_) (fun c=>?_)
  · have c':(0:Int) < l:=of_decide_eq_true c
    refine ⟨fun σ' H''=>H''=H'∧σ'=[some (.int t),some (.int b),some (.int l),some (.int (g.fmod l))],?_,?_⟩
    · rintro σ' H'' ⟨rfl,rfl⟩
      have z0:=Int.fmod_nonneg_of_pos g c'
      have z1:=Int.fmod_lt_of_pos g c'
      exact ⟨_,(show (g.fmod l).toNat < l.toNat by omega),rfl,l,g.fmod l,rfl,by omega,z0,rfl,by rw [Lo.gc_turn];exact e⟩
    · exact ⟨_,rfl,_,rfl,_,rfl,_,_,rfl,rfl,(by omega),_,_,rfl,rfl,rfl⟩
  · have c':¬ (0:Int) < l:=fun z=>c (decide_eq_true z)
    have l0:l=0:=by omega
    subst l0
    rw [Lo.gc_zero hg] at e
    subst e
    have es:Lo.gc t b=Lo.sg t b:=by unfold Lo.sg;rw [if_neg (by omega)]
    have hb':b≠0:=by omega
    have d:∀ x:Int,CDivK x (Lo.gc t b):=fun x=>by rw [es];exact div_ok (Lo.sg_ne hb') (Nat.lt_of_le_of_lt (Lo.sg_le hb') hs)
    have q2:∀ p,H' p=none→Q (.ref p) (upd H' p (.tup [.int (t.fdiv (Lo.gc t b)),.int (b.fdiv (Lo.gc t b))])):=by rw [es];exact q
    exact ⟨_,rfl,_,rfl,_,_,rfl,rfl,d t,_,rfl,_,rfl,_,_,rfl,rfl,d b,(by show 2≤sizeLine;decide),fun p hp=>q2 p hp⟩
theorem ok_meet32 (T:TopDef K mg "_law_meet" s_l_meet) (D_law_lowest:Def P w K mg base 1 "_law_lowest" ["_law_top","_law_bottom"] spLowL):Def P w K mg base 2 "_law_meet" ["_law_rule","_law_other"] spMeet32:=by
  refine def_of T sc_l_meet (fun _ _ _ _ _ _ us hl=>match us,hl with | [_,_],_=>rfl) (fun vs H Q E h=>?_) (fun f cdv A outer s H vs Q E hr h=>?_)
  · obtain ⟨a,b,m,h,m',h',rfl,_⟩:=h
    rfl
  obtain ⟨a,b,m,h,m',h',rfl,ea,eb,ne,bm,bm',q⟩:=h
  have nd:=sc_l_meet.nd
  have sa:SqT K H a [.int m,.int h]:=SqT.of ea
  have sb:SqT K H b [.int m',.int h']:=SqT.of eb
  refine ⟨_,(pss_cons (ps_set (i:=2) nd rfl (Or.inl rfl) (pe_op op_sub (pe_ix ix_tup (pv 1) pe_int (fun _ _=>rfl)) (pe_ix ix_tup (pv 0) pe_int (fun _ _=>rfl))))
    (pss_cons (ps_set (i:=3) nd rfl (Or.inl rfl) (pe_op op_sub (pe_ix ix_tup (pv 0) pe_int (fun _ _=>rfl)) (pe_ix ix_tup (pv 1) pe_int (fun _ _=>rfl))))
    (pss_cons (ps_if (pt_cmpR op_lt (pv 3) pe_int (nomark _)) (pss_one (ps_ret (pe_def D_law_lowest (hr.mono (by omega)) rfl (pa_cons (pe_un un_neg (pv 2)) (pa_cons (pe_un un_neg (pv 3)) pa_nil))))) pss_nil)
    (pss_one (ps_ret (pe_def D_law_lowest (hr.mono (by omega)) rfl (pa_cons (pv 2) (pa_cons (pv 3) pa_nil)))))))),?_⟩
  refine ⟨_,rfl,_,_,_,_,rfl,rfl,sb,rfl,_,rfl,_,_,_,_,rfl,rfl,sa,rfl,_,_,rfl,rfl,?_⟩
  refine ⟨_,rfl,_,_,_,_,rfl,rfl,sa,rfl,_,rfl,_,_,_,_,rfl,rfl,sb,rfl,_,_,rfl,rfl,?_⟩
  refine ⟨_,rfl,_,_,rfl,rfl,_,rfl,ite2 (fun c=>?_) (fun c=>?_)⟩
  · have c':m - m' < 0:=of_decide_eq_true c
    refine ⟨_,rfl,_,rfl,_,rfl,_,rfl,-(h' - h),-(m - m'),rfl,by omega,sm_of (by omega),fun t ht=>?_⟩
    have e1:=Lo.lowT_mul (f:=-1) (by decide) (h' - h) (b:=m - m') (by omega)
    have e2:=Lo.lowB_mul (f:=-1) (by decide) (h' - h) (b:=m - m') (by omega)
    rw [Int.neg_one_mul,Int.neg_one_mul] at e1 e2
    rw [e1,e2]
    exact q t ht
  · have c':¬m - m' < 0:=fun z=>c (decide_eq_true z)
    exact ⟨_,rfl,_,rfl,(h' - h),(m - m'),rfl,by omega,sm_of (by omega),fun t ht=>q t ht⟩
theorem ok_inward32 (T:TopDef K mg "_law_inward" s_l_inward):Def P w K mg base 1 "_law_inward" ["_law_rule","_law_end","_law_other"] spInward32:=by
  refine def_of T sc_l_inward (fun _ _ _ _ _ _ us hl=>match us,hl with | [_,_,_],_=>rfl) (fun vs H Q E h=>?_) (fun f cdv A outer s H vs Q E hr h=>?_)
  · obtain ⟨a,e,b,m,h,p,q,m',h',rfl,_⟩:=h
    rfl
  obtain ⟨a,e,b,m,h,p,q,m',h',rfl,ea,ee,eb,bm,bh,bp,bq,qq⟩:=h
  have nd:=sc_l_inward.nd
  have sa:SqT K H a [.int m,.int h]:=SqT.of ea
  have se:SqT K H e [.int p,.int q]:=SqT.of ee
  have sb:SqT K H b [.int m',.int h']:=SqT.of eb
  refine ⟨_,(pss_cons (ps_set (i:=3) nd rfl (Or.inl rfl) (pe_op op_add (pe_op op_mulK (pe_ix ix_tup (pv 0) pe_int (fun _ _=>rfl)) (pe_ix ix_tup (pv 1) pe_int (fun _ _=>rfl))) (pe_op op_mulK (pe_ix ix_tup (pv 0) pe_int (fun _ _=>rfl)) (pe_ix ix_tup (pv 1) pe_int (fun _ _=>rfl)))))
    (pss_cons (ps_if (PW.pt (pw_or (pt_cmpR op_lt (pv 3) pe_int (nomark _)) (pw_or (pt_cmpR op_gt (pv 3) (pe_ix ix_tup (pv 1) pe_int (fun _ _=>rfl)) (nomark _)) (pw_or1 (PW.pt (pw_and (pt_cmpR op_eq (pv 3) pe_int (nomark _)) (pw_and1 (pt_cmpR op_lt (pe_ix ix_tup (pv 2) pe_int (fun _ _=>rfl)) pe_int (nomark _))))))))) (pss_one (ps_ret pe_bl)) pss_nil)
    (pss_one (ps_ret (pe_or (pe_cmpR op_lt (pv 3) (pe_ix ix_tup (pv 1) pe_int (fun _ _=>rfl)) (nomark _)) (pe_one (pe_cmpR op_le (pe_ix ix_tup (pv 2) pe_int (fun _ _=>rfl)) pe_int (nomark _)))))))),?_⟩
  refine ⟨_,rfl,_,_,_,_,rfl,rfl,sa,rfl,_,rfl,_,_,_,_,rfl,rfl,se,rfl,_,_,rfl,rfl,mulS (sm_of (by omega)) (sm_of (by omega)),_,rfl,_,_,_,_,rfl,rfl,sa,rfl,_,rfl,_,_,_,_,rfl,rfl,se,rfl,_,_,rfl,rfl,mulS (sm_of (by omega)) (sm_of (by omega)),_,_,rfl,rfl,?_⟩
  refine ⟨_,rfl,_,_,rfl,rfl,_,rfl,?_⟩
  refine ite2 (fun c=>iteT (qq false fun z=>by cases z)) (fun c=>?_)
  have c':¬m*p+h*q < 0:=fun y=>c (decide_eq_true y)
  refine ⟨_,rfl,_,rfl,_,_,_,_,rfl,rfl,se,rfl,_,_,rfl,rfl,_,rfl,?_⟩
  refine ite2 (fun c2=>iteT (qq false fun z=>by cases z)) (fun c2=>?_)
  have c2':¬q < m*p+h*q:=fun y=>c2 (decide_eq_true y)
  have fin:(m*p+h*q=0→0≤m')→∀ c:Bool,c=decide (m*p+h*q < q)→if c=true then Q (.bl true) H else Q (.bl (decide (m'≤0))) H:=fun k c ec=>by
    subst ec
    refine ite2 (fun c3=>?_) (fun c3=>?_)
    · have c3:=of_decide_eq_true c3
      exact qq true fun _=>⟨by omega,by omega,k,fun z=>by omega⟩
    · have c3:¬m*p+h*q < q:=fun y=>c3 (decide_eq_true y)
      exact qq _ fun z=>⟨by omega,by omega,k,fun _=>of_decide_eq_true z⟩
  refine ⟨_,rfl,rfl,_,rfl,ite2 (fun c3=>?_) (fun c3=>iteF ?_)⟩
  · refine ⟨_,rfl,_,_,_,_,rfl,rfl,sb,rfl,_,_,rfl,rfl,_,rfl,ite2 (fun c4=>qq false fun z=>by cases z) (fun c4=>?_)⟩
    have c4:¬m' < 0:=fun y=>c4 (decide_eq_true y)
    refine ⟨_,rfl,_,rfl,_,_,_,_,rfl,rfl,se,rfl,_,_,rfl,rfl,_,rfl,ite2 (fun c5=>?_) (fun c5=>?_)⟩
    · exact qq true fun _=>⟨by omega,by omega,fun _=>by omega,fun z=>by have:=of_decide_eq_true c5;omega⟩
    · refine ⟨_,rfl,_,_,_,_,rfl,rfl,sb,rfl,_,_,rfl,rfl,?_⟩
      exact qq _ fun z=>⟨by omega,by omega,fun _=>by omega,fun _=>of_decide_eq_true z⟩
  · have c3:¬m*p+h*q=0:=fun y=>c3 (decide_eq_true (congrArg V.int y))
    refine ⟨_,rfl,_,rfl,_,_,_,_,rfl,rfl,se,rfl,_,_,rfl,rfl,_,rfl,ite2 (fun c5=>?_) (fun c5=>?_)⟩
    · exact qq true fun _=>⟨by omega,by omega,fun z=>absurd z c3,fun z=>by have:=of_decide_eq_true c5;omega⟩
    · refine ⟨_,rfl,_,_,_,_,rfl,rfl,sb,rfl,_,_,rfl,rfl,?_⟩
      exact qq _ fun z=>⟨by omega,by omega,fun z=>absurd z c3,fun _=>of_decide_eq_true z⟩
theorem ok_ways32 (T:TopDef K mg "_law_ways" s_l_ways) (Z_range:mg "range"=none) (D__law_meet:Def P w K mg base 2 "_law_meet" ["_law_rule","_law_other"] spMeet32) (D__law_inward:Def P w K mg base 1 "_law_inward" ["_law_rule","_law_end","_law_other"] spInward32):Def P w K mg base 3 "_law_ways" ["_law_rule","_law_begin","_law_steep"] spWays32:=by
  refine def_of T sc_l_ways (fun _ _ _ _ _ _ us hl=>match us,hl with | [_,_,_],_=>rfl) (fun vs H Q E h=>?_) (fun f cdv A outer s H vs Q E hr h=>?_)
  · obtain ⟨a,b,m,h,p,q,rfl,_⟩:=h
    rfl
  obtain ⟨a,b,m,h,p,q,rfl,ea,eb,bm,bh,p0,pq,q8,qq⟩:=h
  have nd:=sc_l_ways.nd
  have sz:∀ n:Nat,n≤100→n≤sizeLine:=fun n h=>Nat.le_trans h (by decide)
  refine ⟨_,(pss_cons (ps_set (i:=3) nd rfl (Or.inl rfl) (pe_lst pa_nil))
    (pss_cons (ps_for PassesOwn.never rfl (pi_range2 rfl Z_range (pa_cons (pe_un un_neg (pv 2)) (pa_cons (pe_op op_add (pv 2) pe_int) pa_nil))) (pg_name (i:=4) nd rfl (Or.inl rfl)) (pss_one (ps_for PassesOwn.never rfl (pi_range2 rfl Z_range (pa_cons (pe_un un_neg (pv 2)) (pa_cons (pe_op op_add (pv 2) pe_int) pa_nil))) (pg_name (i:=5) nd rfl (Or.inl rfl)) (pss_one (ps_if (pt_cmpR op_ne (pv 4) (pe_ix ix_tup (pv 0) pe_int (fun _ _=>rfl)) (nomark _)) (pss_cons (ps_set (i:=6) nd rfl (Or.inl rfl) (pe_def D__law_meet (hr.mono (by decide)) rfl (pa_cons (pv 0) (pa_cons (pe_tup (pa_cons (pv 4) (pa_cons (pv 5) pa_nil))) pa_nil))))
    (pss_cons (ps_set (i:=7) nd rfl (Or.inl rfl) (pe_and (pe_cmpR op_lt (pe_op op_mulK (pe_ix ix_tup (pv 1) pe_int (fun _ _=>rfl)) (pe_ix ix_tup (pv 6) pe_int (fun _ _=>rfl))) (pe_op op_mulK (pe_ix ix_tup (pv 6) pe_int (fun _ _=>rfl)) (pe_ix ix_tup (pv 1) pe_int (fun _ _=>rfl))) (nomark _)) (pe_one (pe_cmpR op_lt (pe_ix ix_tup (pv 6) pe_int (fun _ _=>rfl)) (pe_ix ix_tup (pv 6) pe_int (fun _ _=>rfl)) (nomark _)))))
    (pss_one (ps_if (PW.pt (pw_and (pt_truth (pv 7) (fun _=>rfl)) (pw_and1 (pt_val (pe_def D__law_inward (hr.mono (by decide)) rfl (pa_cons (pv 0) (pa_cons (pv 6) (pa_cons (pe_tup (pa_cons (pv 4) (pa_cons (pv 5) pa_nil))) pa_nil)))))))) (pss_one (ps_expr (pe_bm PySem.F.plainAttrs_list PySem.F.slot_list_append PySem.F.type_list_append mt_append (pv 3) (pa_cons (pe_tup (pa_cons (pv 6) (pa_cons (pe_tup (pa_cons (pv 4) (pa_cons (pv 5) pa_nil))) pa_nil))) pa_nil)))) pss_nil)))) pss_nil)))))
    (pss_one (ps_ret (pv 3))))),?_⟩
  refine ⟨sz 0 (by decide),fun l hl=>?_⟩
  have u1:=same_new hl (.lst [])
  refine ⟨_,rfl,_,rfl,_,rfl,_,_,rfl,rfl,_,_,rfl,⟨by decide,by decide,by decide,by decide⟩,?_⟩
  refine for_range (fun i σ H'=>∃(o4 o5 o6 o7:Option V) (us:List V),σ=[some (.ref a),some (.ref b),some (.int 4),some (.ref l),o4,o5,o6,o7]∧Same H H'∧H' l=some (.lst us)∧Wys m h p q H' us∧us.length≤10*i)
    ⟨_,_,_,_,[],rfl,u1,upd_same,(fun _ h=>nomatch h),Nat.zero_le _⟩ (fun i σ H' hi z=>?_) (fun σ H' z=>?_)
  · obtain ⟨o4,o5,o6,o7,us,rfl,sm,el,wy,lu⟩:=z
    refine ⟨_,rfl,_,rfl,_,rfl,_,_,rfl,rfl,_,_,rfl,⟨by decide,by decide,by decide,by decide⟩,?_⟩
    refine for_range (fun j σ H'=>∃(o5 o6 o7:Option V) (us:List V),σ=[some (.ref a),some (.ref b),some (.int 4),some (.ref l),some (.int (-4+(i:Int))),o5,o6,o7]∧Same H H'∧H' l=some (.lst us)∧Wys m h p q H' us∧us.length≤10*i+j)
      ⟨_,_,_,us,rfl,sm,el,wy,lu⟩ (fun j σ H' hj z=>?_) (fun σ H' z=>?_)
    · obtain ⟨o5,o6,o7,us,rfl,sm,el,wy,lu⟩:=z
      have hi':i < 9:=hi
      have hj':j < 10:=hj
      have skip:∀ o6 o7 H2,Same H' H2→H2 l=some (.lst us)→∃(o5 o6' o7':Option V) (us:List V),[some (V.ref a),some (.ref b),some (.int 4),some (.ref l),some (.int (-4+(i:Int))),some (.int (-4+(j:Int))),o6,o7]=[some (.ref a),some (.ref b),some (.int 4),some (.ref l),some (.int (-4+(i:Int))),o5,o6',o7']∧Same H H2∧H2 l=some (.lst us)∧Wys m h p q H2 us∧us.length≤10*i+(j+1):=fun o6 o7 H2 s2 e2=>⟨_,_,_,us,rfl,sm.trans s2,e2,wy.to (Kp.of s2),by omega⟩
      have mx:(-4+(i:Int)).natAbs≤4:=by omega
      have my:(-4+(j:Int)).natAbs≤5:=by omega
      generalize -4+(i:Int)=x at *
      generalize -4+(j:Int)=y at *
      refine ⟨_,rfl,_,rfl,_,_,_,_,rfl,rfl,SqT.of (sm _ _ ea),rfl,rfl,_,rfl,ite2 (fun c=>?_) (fun c=>skip _ _ _ (Same.refl _) el)⟩
      have ne:x≠m:=fun z=>by rw [z] at c;simp at c
      refine ⟨_,rfl,_,rfl,_,rfl,sz 2 (by decide),fun t ht=>?_⟩
      have s2:=same_new ht (.tup [V.int x,V.int y])
      have e2:upd H' t (.tup [V.int x,V.int y]) t=some (.tup [V.int x,V.int y]):=upd_same
      generalize upd H' t (.tup [V.int x,V.int y])=H2 at s2 e2 ⊢
      have sA:=sm.trans s2
      refine ⟨a,t,m,h,x,y,rfl,sA _ _ ea,e2,Ne.symm ne,Nat.le_trans bm (by decide),Nat.le_trans mx (by decide),fun e he=>?_⟩
      have bB:=(meet_b bm bh mx my ne).2
      have bT:=(meet_b bm bh mx my ne).1
      have smp:Sm p:=sm_of (Int.ofNat_le.mp (by rw [Int.natAbs_of_nonneg p0];exact Int.le_trans (Int.le_of_lt pq) (Int.le_trans q8 (by decide))))
      have smq:Sm q:=sm_of (Int.ofNat_le.mp (by rw [Int.natAbs_of_nonneg (Int.le_trans p0 (Int.le_of_lt pq))];exact Int.le_trans q8 (by decide)))
      have LM:=low_meet (m:=m) (h:=h) (p:=p) (q:=q) (m':=x) (h':=y) ne bm mx my
      generalize Lo.lowT (y - h) (m - x)=T at bT LM ⊢
      generalize Lo.lowB (y - h) (m - x)=B at bB LM ⊢
      have s3:=same_new he (.tup [V.int T,V.int B])
      have e3:upd H2 e (.tup [V.int T,V.int B]) e=some (.tup [V.int T,V.int B]):=upd_same
      generalize upd H2 e (.tup [V.int T,V.int B])=H3 at s3 e3 ⊢
      have s23:=s2.trans s3
      have sB:=sA.trans s3
      have sb:SqT K H3 b [.int p,.int q]:=SqT.of (sB _ _ eb)
      have se:SqT K H3 e [.int T,.int B]:=SqT.of e3
      refine ⟨_,rfl,_,_,_,_,rfl,rfl,sb,rfl,_,rfl,_,_,_,_,rfl,rfl,se,rfl,_,_,rfl,rfl,mulS smp (sm_of (Nat.le_trans bB (by decide))),_,rfl,_,_,_,_,rfl,rfl,se,rfl,_,rfl,_,_,_,_,rfl,rfl,sb,rfl,_,_,rfl,rfl,mulS (sm_of (Nat.le_trans bT (by decide))) smq,_,_,rfl,rfl,_,rfl,?_⟩
      refine ite2 (fun c1=>?_) (fun c1=>?_)
      · have af:=of_decide_eq_true c1
        refine ⟨_,rfl,_,_,_,_,rfl,rfl,se,rfl,_,rfl,_,_,_,_,rfl,rfl,se,rfl,_,_,rfl,rfl,?_⟩
        refine ⟨_,rfl,_,rfl,ite2 (fun c2=>?_) (fun c2=>iteF (skip _ _ _ s23 (s23 _ _ el)))⟩
        have be:=of_decide_eq_true c2
        refine ⟨_,rfl,_,rfl,_,rfl,_,rfl,sz 2 (by decide),fun t2 ht2=>?_⟩
        have s4:=same_new ht2 (.tup [V.int x,V.int y])
        have e4:upd H3 t2 (.tup [V.int x,V.int y]) t2=some (.tup [V.int x,V.int y]):=upd_same
        generalize upd H3 t2 (.tup [V.int x,V.int y])=H4 at s4 e4 ⊢
        have sC:=sB.trans s4
        refine ⟨a,e,t2,m,h,T,B,x,y,rfl,sC _ _ ea,s4 _ _ e3,e4,Nat.le_trans bm (by decide),Nat.le_trans bh (by decide),Nat.le_trans bT (by decide),Nat.le_trans bB (by decide),fun r hr'=>?_⟩
        refine ⟨_,rfl,?_⟩
        cases r with
        | false=>exact iteF (skip _ _ _ (s23.trans s4) ((s23.trans s4) _ _ el))
        | true =>
          have W:=LM af be (hr' rfl)
          have el4:=(s23.trans s4) _ _ el
          refine iteT ⟨_,rfl,.inl ⟨rfl,_,SqL.of el4⟩,_,rfl,_,rfl,_,rfl,sz 2 (by decide),fun t3 ht3=>?_⟩
          have s5:=same_new ht3 (.tup [V.int x,V.int y])
          have e5:upd H4 t3 (.tup [V.int x,V.int y]) t3=some (.tup [V.int x,V.int y]):=upd_same
          generalize upd H4 t3 (.tup [V.int x,V.int y])=H5 at s5 e5 ⊢
          refine ⟨sz 2 (by decide),fun t4 ht4=>?_⟩
          have s6:=same_new ht4 (.tup [V.ref e,V.ref t3])
          have e6:upd H5 t4 (.tup [V.ref e,V.ref t3]) t4=some (.tup [V.ref e,V.ref t3]):=upd_same
          generalize upd H5 t4 (.tup [V.ref e,V.ref t3])=H6 at s6 e6 ⊢
          have sD:=s4.trans (s5.trans s6)
          have sE:=s23.trans sD
          have el6:=sE _ _ el
          refine ⟨l,us,_,rfl,rfl,el6,small1000 (by omega),?_⟩
          have k:Kp H6 (upd H6 l (.lst (us++[.ref t4]))):=kp_mut el6 rfl
          refine ⟨_,_,_,us++[.ref t4],rfl,same_mut (sm.trans sE) hl _,upd_same,?_,by simp;omega⟩
          intro v hv
          rcases List.mem_append.mp hv with z | z
          · obtain ⟨e',f',m',h',y'⟩:=wy v z
            exact ⟨e',f',m',h',(y'.to (Kp.of sE)).to k⟩
          · have:=List.mem_singleton.mp z
            subst this
            exact ⟨T,B,x,y,WyAt.to k ⟨t4,e,t3,rfl,e6,sD _ _ e3,s6 _ _ e5,W⟩⟩
      · exact ⟨_,rfl,_,rfl,iteF (iteF (skip _ _ _ s23 (s23 _ _ el)))⟩
    · obtain ⟨o5,o6,o7,us,rfl,sm,el,wy,lu⟩:=z
      exact ⟨_,_,_,_,us,rfl,sm,el,wy,by have z:(4+2 - -4:Int).toNat=10:=rfl;rw [z] at lu;omega⟩
  · obtain ⟨o4,o5,o6,o7,us,rfl,sm,el,wy,lu⟩:=z
    exact ⟨_,rfl,qq l us H' sm hl el wy (by have z:(4+1 - -4:Int).toNat=9:=rfl;rw [z] at lu;omega)⟩
end
end Mine
namespace Mine
open PySem L2
section
variable {P:Program} {w:World} {K:PySem.W.Frag} {mg:Str→Option Value} {base:Heap}
theorem ok_wayOut32 (T:TopDef K mg "_law_way_out" s_l_way_out) (D_law_lowest:Def P w K mg base 1 "_law_lowest" ["_law_top","_law_bottom"] spLowL):Def P w K mg base 2 "_law_way_out" ["_law_rule"] spWayOut32:=by
  refine def_of T sc_l_way_out (fun _ _ _ _ _ _ us hl=>match us,hl with | [_],_=>rfl) (fun vs H Q E h=>?_) (fun f cdv A outer s H vs Q E hr h=>?_)
  · obtain ⟨a,m,h,p,q,rfl,_⟩:=h
    rfl
  obtain ⟨a,m,h,p,q,rfl,ea,bm,p0,pq,iw,q1,q2⟩:=h
  have nd:=sc_l_way_out.nd
  have sz:∀ n:Nat,n≤100→n≤sizeLine:=fun n h=>Nat.le_trans h (by decide)
  have fin:∀(e f m' h':Int) (t:Addr),H t=none→Wy m h p q e f m' h'→Sty m' h'→¬Sty m h→∀ t2,upd H t (.tup [.int e,.int f]) t2=none→∀ t3,upd (upd H t (.tup [.int e,.int f])) t2 (.tup [.int m',.int h']) t3=none→
      Q (.ref t3) (upd (upd (upd H t (.tup [.int e,.int f])) t2 (.tup [.int m',.int h'])) t3 (.tup [.ref t,.ref t2])):=fun e f m' h' t ht W S N t2 ht2 t3 ht3=>by
    have s1:=same_new ht (.tup [V.int e,V.int f])
    have s2:=same_new ht2 (.tup [V.int m',V.int h'])
    have s3:=same_new ht3 (.tup [V.ref t,V.ref t2])
    exact q2 _ _ ((s1.trans s2).trans s3) N ⟨e,f,m',h',⟨t3,t,t2,rfl,upd_same,(s2.trans s3) _ _ upd_same,s3 _ _ upd_same,W⟩,S⟩
  refine ⟨_,(pss_cons (ps_asg (pv 0) (pg_tup rfl (pgs_cons (pg_name (i:=1) nd rfl (Or.inl rfl)) (pgs_cons (pg_name (i:=2) nd rfl (Or.inl rfl)) pgs_nil))))
    (pss_cons (ps_if (PW.pt (pw_and (pt_cmpR op_gt (pv 1) pe_int (nomark _)) (pw_and1 (pt_cmpR op_gt (pe_op op_add (pv 1) (pv 2)) pe_int (nomark _))))) (pss_one (ps_ret (pe_tup (pa_cons (pe_def D_law_lowest (hr.mono (by omega)) rfl (pa_cons (pe_op op_sub pe_int (pv 2)) (pa_cons (pv 1) pa_nil))) (pa_cons (pe_tup (pa_cons pe_int (pa_cons pe_int pa_nil))) pa_nil))))) pss_nil)
    (pss_cons (ps_if (PW.pt (pw_and (pt_cmpR op_lt (pv 1) pe_int (nomark _)) (pw_and1 (pt_cmpR op_lt (pe_op op_add (pv 1) (pv 2)) pe_int (nomark _))))) (pss_one (ps_ret (pe_tup (pa_cons (pe_def D_law_lowest (hr.mono (by omega)) rfl (pa_cons (pv 2) (pa_cons (pe_un un_neg (pv 1)) pa_nil))) (pa_cons (pe_tup (pa_cons pe_int (pa_cons pe_int pa_nil))) pa_nil))))) pss_nil)
    (pss_one (ps_ret pe_non))))),?_⟩
  refine ⟨_,rfl,a,_,rfl,SqT.of ea,rfl,_,_,rfl,_,_,rfl,rfl,?_⟩
  refine ⟨_,rfl,_,_,rfl,rfl,_,rfl,?_⟩
  refine ite2 (fun c=>?_) (fun c=>iteF ?_)
  · have c':0 < m:=of_decide_eq_true c
    refine ⟨_,rfl,_,rfl,_,_,rfl,rfl,_,_,rfl,rfl,_,rfl,ite2 (fun c2=>?_) (fun c2=>?_)⟩
    · have c2':1 < m+h:=of_decide_eq_true c2
      refine ⟨_,rfl,_,_,rfl,rfl,_,rfl,1 - h,m,rfl,c',sm_of (by omega),fun t ht=>⟨sz 2 (by decide),fun t2 ht2=>⟨sz 2 (by decide),fun t3 ht3=>?_⟩⟩⟩
      exact fin _ _ 0 1 t ht (way_up p0 pq bm iw c' c2') ⟨by decide,by decide⟩ (fun z=>by have:=z.hi;omega) t2 ht2 t3 ht3
    · have c2':¬1 < m+h:=fun z=>c2 (decide_eq_true z)
      refine ⟨_,rfl,_,_,rfl,rfl,_,rfl,ite2 (fun c3=>absurd (of_decide_eq_true c3) (by show ¬m < 0;omega)) (fun c3=>iteF ?_)⟩
      exact q1 (sty_of p0 pq iw (by omega) (by omega))
  · have c':¬0 < m:=fun z=>c (decide_eq_true z)
    refine ⟨_,rfl,_,_,rfl,rfl,_,rfl,ite2 (fun c3=>?_) (fun c3=>iteF ?_)⟩
    · have c3':m < 0:=of_decide_eq_true c3
      refine ⟨_,rfl,_,rfl,_,_,rfl,rfl,_,_,rfl,rfl,_,rfl,ite2 (fun c2=>?_) (fun c2=>?_)⟩
      · have c2':m+h < 0:=of_decide_eq_true c2
        refine ⟨_,rfl,_,rfl,_,rfl,h,-m,rfl,by omega,sm_of (by omega),fun t ht=>⟨sz 2 (by decide),fun t2 ht2=>⟨sz 2 (by decide),fun t3 ht3=>?_⟩⟩⟩
        exact fin _ _ 0 0 t ht (way_dn p0 pq bm iw c3' c2') ⟨by decide,by decide⟩ (fun z=>by have:=z.lo;omega) t2 ht2 t3 ht3
      · have c2':¬m+h < 0:=fun z=>c2 (decide_eq_true z)
        exact q1 (sty_of p0 pq iw (by omega) (by omega))
    · have c3':¬m < 0:=fun z=>c3 (decide_eq_true z)
      exact q1 (sty_of p0 pq iw (by omega) (by omega))
end
end Mine
namespace Mine
open PySem L2
structure SR (gs:List Gr) (Ls:List (List St4)):Prop where
  rl:RowsL gs Ls
  ok:GrsOk gs
  nq:∀ g∈gs,g≠.q
  wo:∀ n x,0 < n→0≤x→x≤n→worthsG n x 0 gs []=Ls.map fun F=>hAt F x n
theorem SR.nil:SR [] []:=⟨⟨rfl,(fun _ _ h=>nomatch h)⟩,(fun _ _ h=>nomatch h),(fun _ h=>nomatch h),fun _ _ _ _ _=>rfl⟩
theorem SR.push {gs:List Gr} {Ls:List (List St4)} {g:Gr} {F:List St4} (h:SR gs Ls) (rl:RowL Ls F g) (go:GrOk gs.length g) (nq:g≠.q) (w:∀ n x,0 < n→0≤x→x≤n→g.worth n x 0 (Ls.map fun F=>hAt F x n)=hAt F x n):SR (gs++[g]) (Ls++[F]):=by
  have len:=h.rl.1
  refine ⟨⟨by simp [len],fun i g' hg=>?_⟩,fun i g' hg=>?_,fun g' hg=>?_,fun n x h1 h2 h3=>?_⟩
  · rcases Nat.lt_or_ge i gs.length with z | z
    · rw [List.getElem?_append_left z] at hg
      obtain ⟨F',e,r⟩:=h.rl.2 i g' hg
      refine ⟨F',by rw [List.getElem?_append_left (by omega)];exact e,?_⟩
      rw [List.take_append_of_le_length (by omega)]
      exact r
    · rw [List.getElem?_append_right z] at hg
      have e0:i - gs.length=0:=by have:=(List.getElem?_eq_some_iff.mp hg).1;simp at this;omega
      rw [e0] at hg
      cases hg
      have ei:i=Ls.length:=by omega
      subst ei
      refine ⟨F,by simp,?_⟩
      rw [List.take_append_of_le_length (Nat.le_refl _),List.take_length]
      exact rl
  · rcases Nat.lt_or_ge i gs.length with z | z
    · rw [List.getElem?_append_left z] at hg
      exact h.ok i g' hg
    · rw [List.getElem?_append_right z] at hg
      have e0:i - gs.length=0:=by have:=(List.getElem?_eq_some_iff.mp hg).1;simp at this;omega
      rw [e0] at hg
      cases hg
      have ei:i=gs.length:=by omega
      subst ei
      exact go
  · rcases List.mem_append.mp hg with hg | hg
    · exact h.nq g' hg
    · rw [List.mem_singleton.mp hg];exact nq
  · rw [worthsG_snoc,h.wo n x h1 h2 h3,List.map_append,w n x h1 h2 h3]
    rfl
theorem getD_hAt {Ls:List (List St4)} {i:Nat} {F:List St4} (h:Ls[i]?=some F) (x n:Int):(Ls.map fun F=>hAt F x n).getD i 0=hAt F x n:=by
  rw [List.getD_eq_getElem?_getD,List.getElem?_map,h]
  rfl
theorem SR.last {gs:List Gr} {Ls:List (List St4)} {F:List St4} (h:SR gs (Ls++[F])) {n x:Int} (h1:0 < n) (h2:0≤x) (h3:x≤n):lastG n x 0 gs=hAt F x n:=by
  unfold lastG
  rw [h.wo n x h1 h2 h3,List.map_append]
  simp
noncomputable abbrev natsV (ns:List Nat):List V:=ns.map fun i:Nat=>V.int (i:Int)
theorem nats_at {ns:List Nat} {k i:Nat} (h:ns[k]?=some i):atI (natsV ns) (k:Int)=some (.int (i:Int)):=atI_nat (by rw [List.getElem?_map,h];rfl)
theorem keep {Ls:List (List St4)} (E:List (List St4)) {j:Nat} {F:List St4} (h:Ls[j]?=some F):(Ls++E)[j]?=some F:=by
  rw [List.getElem?_append_left (List.getElem?_eq_some_iff.mp h).1]
  exact h
structure St30 (H H':Hp) (r st p:Addr) (us0:Nat) (Ls0:List (List St4)) (ns ms:List Nat) (L:Nat) (a b:Int) (up:Bool) (us:List V) (gs:List Gr) (Ls:List (List St4)):Prop where
  sb:SB (.ref r) H H'
  hr:H' r=some (.lst us)
  hs:H' st=some (.lst (natsV ms))
  hp:H' p=some (.lst (natsV ns))
  al:All2 (GrV H') us gs
  sr:SR gs Ls
  kp:∀(j:Nat) (F:List St4),Ls0[j]?=some F→Ls[j]?=some F
  lu:us.length=us0+2*ms.length
  pl:∀(k i:Nat),ms[k]?=some i→Ls[i]?=some (lineS (a+letE up) (b+letD up+k))
  la:ms≠[]→∃ i,ms.getLast?=some i∧i+1=us.length
noncomputable def spSteep30:Sp:=fun vs H Q _=>∃(r p:Addr) (us:List V) (gs:List Gr) (Ls:List (List St4)) (ns:List Nat) (L:Nat) (a b:Int) (up:Bool),vs=[.ref r,.ref p,.int (L:Int)]∧r≠p∧H r=some (.lst us)∧All2 (GrV H) us gs∧SR gs Ls∧H p=some (.lst (natsV ns))∧1≤ns.length∧ns.length≤13∧us.length≤300∧Ls[L]?=some (letS up)∧
  (∀(k i:Nat),ns[k]?=some i→Ls[i]?=some (lineS a (b+k)))∧a.natAbs≤11∧(a+letE up).natAbs≤12∧
  ∀(l:Addr) (ms:List Nat) (us':List V) (gs':List Gr) (Ls':List (List St4)) (H':Hp),H l=none→ms.length+1=ns.length→St30 H H' r l p us.length Ls ns ms L a b up us' gs' Ls'→Q (.ref l) H'
section
variable {P:Program} {w:World} {K:PySem.W.Frag} {mg:Str→Option Value} {base:Heap}
theorem ok_steep30 (T:TopDef K mg "put_steeper" s_put_steeper) (Z_len:mg "len"=none) (Z_range:mg "range"=none):Def P w K mg base 1 "put_steeper" ["rows","places","letter"] spSteep30:=by
  refine def_of T sc_put_steeper (fun _ _ _ _ _ _ us hl=>match us,hl with | [_,_,_],_=>rfl) (fun vs H Q E h=>?_) (fun f cdv A outer s H vs Q E hr h=>?_)
  · obtain ⟨r,p,us,gs,Ls,ns,L,a,b,up,rfl,_⟩:=h
    rfl
  obtain ⟨r,p,us,gs,Ls,ns,L,a,b,up,rfl,nrp,hr0,al0,sr0,hp0,n1,n13,few,hL,pl0,a11,a12,q⟩:=h
  have nd:=sc_put_steeper.nd
  have ln:(natsV ns).length=ns.length:=List.length_map _
  refine ⟨_,(pss_cons (ps_set (i:=3) nd rfl (Or.inl rfl) (pe_lst pa_nil))
    (pss_cons (ps_for PassesOwn.never rfl (pi_range1 rfl Z_range (pa_cons (pe_op op_sub (pe_callB call_len rfl Z_len (by decide +kernel) (pa_cons (pv 1) pa_nil)) pe_int) pa_nil)) (pg_name (i:=4) nd rfl (Or.inl rfl)) (pss_cons (ps_expr (pe_bm PySem.F.plainAttrs_list PySem.F.slot_list_append PySem.F.type_list_append mt_append (pv 0) (pa_cons (pe_tup (pa_cons pe_str (pa_cons (pe_ix ix_list (pv 1) (pv 4) (fun _ _=>rfl)) (pa_cons (pv 2) pa_nil)))) pa_nil)))
    (pss_cons (ps_expr (pe_bm PySem.F.plainAttrs_list PySem.F.slot_list_append PySem.F.type_list_append mt_append (pv 0) (pa_cons (pe_tup (pa_cons pe_str (pa_cons (pe_op op_sub (pe_callB call_len rfl Z_len (by decide +kernel) (pa_cons (pv 0) pa_nil)) pe_int) (pa_cons (pe_ix ix_list (pv 1) (pe_op op_add (pv 4) pe_int) (fun _ _=>rfl)) pa_nil)))) pa_nil)))
    (pss_one (ps_expr (pe_bm PySem.F.plainAttrs_list PySem.F.slot_list_append PySem.F.type_list_append mt_append (pv 3) (pa_cons (pe_op op_sub (pe_callB call_len rfl Z_len (by decide +kernel) (pa_cons (pv 0) pa_nil)) pe_int) pa_nil)))))))
    (pss_one (ps_ret (pv 3))))),?_⟩
  refine ⟨(by show 0≤sizeLine;decide),fun st hst=>?_⟩
  have u0:=same_new hst (.lst [])
  have nsr:st≠r:=fun z=>by rw [z,hr0] at hst;cases hst
  have nsp:st≠p:=fun z=>by rw [z,hp0] at hst;cases hst
  refine ⟨_,rfl,_,_,rfl,.inl ⟨_,SqL.of (u0 _ _ hp0),rfl⟩,_,_,rfl,rfl,_,rfl,by omega,by omega,?_⟩
  refine for_range (fun i σ H'=>∃(o4:Option V) (ms:List Nat) (us':List V) (gs':List Gr) (Ls':List (List St4)),σ=[some (.ref r),some (.ref p),some (.int (L:Int)),some (.ref st),o4]∧ms.length=i∧St30 H H' r st p us.length Ls ns ms L a b up us' gs' Ls')
    ⟨_,[],us,gs,Ls,rfl,rfl,⟨SB.of u0,u0 _ _ hr0,upd_same,u0 _ _ hp0,al0.imp (GrV.to (Kp.of u0)),sr0,fun _ _ h=>h,by simp,(fun _ _ h=>nomatch h),fun z=>absurd rfl z⟩⟩ (fun i σ H' hi z=>?_) (fun σ H' z=>?_)
  · obtain ⟨o4,ms,us',gs',Ls',rfl,lm,S⟩:=z
    have i1:i+1 < ns.length:=by omega
    have e0:(0:Int)+(i:Int)=(i:Int):=by omega
    rw [e0]
    have x1:ns[i]?=some ns[i]:=List.getElem?_eq_getElem (by omega)
    have x2:ns[i+1]?=some ns[i+1]:=List.getElem?_eq_getElem i1
    have A1:=S.kp _ _ (pl0 i _ x1)
    have A2:=S.kp _ _ (pl0 (i+1) _ x2)
    have AL:=S.kp _ _ hL
    have lg:=S.al.len
    have lr:=S.sr.rl.1
    obtain ⟨f1,f2,key,h1,h2⟩:=stepS (a:=a) (b:=b+(i:Int)) (up:=up) a11 a12
    have lus:=S.lu
    refine ⟨_,rfl,.inl ⟨rfl,_,SqL.of S.hr⟩,_,rfl,_,rfl,_,_,_,_,rfl,rfl,SqL.of S.hp,nats_at x1,_,rfl,(by show 3≤sizeLine;decide),fun t1 ht1=>?_⟩
    have v1:=same_new ht1 (.tup [.str "more",.int (ns[i]:Int),.int (L:Int)])
    refine ⟨r,us',_,rfl,rfl,v1 _ _ S.hr,small1000 (by omega),?_⟩
    have g1:GrOk gs'.length (.fold .more ns[i] L):=fun x hx=>by
      have:x=ns[i]∨x=L:=by simpa [Gr.nums] using hx
      have b1:=(List.getElem?_eq_some_iff.mp A1).1
      have b2:=(List.getElem?_eq_some_iff.mp AL).1
      rcases this with rfl | rfl <;> omega
    have s1:SR (gs'++[.fold .more ns[i] L]) (Ls'++[lineF .more (lineS a (b+(i:Int))) (letS up)]):=S.sr.push ⟨_,_,A1,AL,f1,rfl⟩ g1 (by intro z;cases z) fun n x z1 z2 z3=>by
      show W5.worth .more n _ _=_
      rw [getD_hAt A1,getD_hAt AL,h1 x n z1 z2 z3]
    have hr2:upd (upd H' t1 (.tup [.str "more",.int (ns[i]:Int),.int (L:Int)])) r (.lst (us'++[.ref t1])) r=some (.lst (us'++[.ref t1])):=upd_same
    have hp2:upd (upd H' t1 (.tup [.str "more",.int (ns[i]:Int),.int (L:Int)])) r (.lst (us'++[.ref t1])) p=some (.lst (natsV ns)):=by rw [upd_ne (Ne.symm nrp)];exact v1 _ _ S.hp
    have hs2:upd (upd H' t1 (.tup [.str "more",.int (ns[i]:Int),.int (L:Int)])) r (.lst (us'++[.ref t1])) st=some (.lst (natsV ms)):=by rw [upd_ne nsr];exact v1 _ _ S.hs
    have sb2:SB (.ref r) H (upd (upd H' t1 (.tup [.str "more",.int (ns[i]:Int),.int (L:Int)])) r (.lst (us'++[.ref t1]))):=(S.sb.trans (SB.of v1)).trans (sb_upd _ _)
    have k2:Kp (upd H' t1 (.tup [.str "more",.int (ns[i]:Int),.int (L:Int)])) (upd (upd H' t1 (.tup [.str "more",.int (ns[i]:Int),.int (L:Int)])) r (.lst (us'++[.ref t1]))):=kp_mut (v1 _ _ S.hr) rfl
    have al2:All2 (GrV (upd (upd H' t1 (.tup [.str "more",.int (ns[i]:Int),.int (L:Int)])) r (.lst (us'++[.ref t1])))) (us'++[.ref t1]) (gs'++[.fold .more ns[i] L]):=((S.al.imp (GrV.to (Kp.of v1))).imp (GrV.to k2)).app (.cons (GrV.to k2 _ _ (GrV.mk (.fold .more ns[i] L) upd_same)) .nil)
    generalize upd (upd H' t1 (.tup [.str "more",.int (ns[i]:Int),.int (L:Int)])) r (.lst (us'++[.ref t1]))=H2 at hr2 hp2 hs2 sb2 al2 ⊢
    have c1:((i:Int)+1)=((i+1:Nat):Int):=by omega
    have c2:((((us'++[V.ref t1]).length:Nat):Int) - 1)=((us'.length:Nat):Int):=by simp
    refine ⟨_,rfl,.inl ⟨rfl,_,SqL.of hr2⟩,_,rfl,_,_,rfl,.inl ⟨_,SqL.of hr2,rfl⟩,_,_,rfl,rfl,_,rfl,_,rfl,_,_,rfl,rfl,_,_,_,_,rfl,rfl,SqL.of hp2,(by rw [c1];exact nats_at x2),(by show 3≤sizeLine;decide),fun t2 ht2=>?_⟩
    dsimp only
    rw [c2]
    have v2:=same_new ht2 (.tup [.str "less",.int (us'.length:Int),.int (ns[i+1]:Int)])
    refine ⟨r,_,_,rfl,rfl,v2 _ _ hr2,small1000 (by simp;omega),?_⟩
    have M1:(Ls'++[lineF .more (lineS a (b+(i:Int))) (letS up)])[us'.length]?=some (lineF .more (lineS a (b+(i:Int))) (letS up)):=by
      rw [show us'.length=Ls'.length by omega];simp
    have A2':(Ls'++[lineF .more (lineS a (b+(i:Int))) (letS up)])[ns[i+1]]?=some (lineS a (b+(i:Int)+1)):=by
      have:=keep [lineF .more (lineS a (b+(i:Int))) (letS up)] A2
      rw [this]
      congr 2
      omega
    have g2:GrOk (gs'++[Gr.fold .more ns[i] L]).length (.fold .less us'.length ns[i+1]):=fun x hx=>by
      have:x=us'.length∨x=ns[i+1]:=by simpa [Gr.nums] using hx
      have b2:=(List.getElem?_eq_some_iff.mp A2).1
      rw [List.length_append]
      rcases this with rfl | rfl
      · simp;omega
      · simp;omega
    have s2:SR (gs'++[.fold .more ns[i] L]++[.fold .less us'.length ns[i+1]]) (Ls'++[lineF .more (lineS a (b+(i:Int))) (letS up)]++[lineS (a+letE up) (b+(i:Int)+letD up)]):=s1.push ⟨_,_,M1,A2',f2,key.symm⟩ g2 (by intro z;cases z) fun n x z1 z2 z3=>by
      show W5.worth .less n _ _=_
      rw [getD_hAt M1,getD_hAt A2',h2 x n z1 z2 z3]
    have hr3:upd (upd H2 t2 (.tup [.str "less",.int (us'.length:Int),.int (ns[i+1]:Int)])) r (.lst (us'++[.ref t1]++[.ref t2])) r=some (.lst (us'++[.ref t1]++[.ref t2])):=upd_same
    have hp3:upd (upd H2 t2 (.tup [.str "less",.int (us'.length:Int),.int (ns[i+1]:Int)])) r (.lst (us'++[.ref t1]++[.ref t2])) p=some (.lst (natsV ns)):=by rw [upd_ne (Ne.symm nrp)];exact v2 _ _ hp2
    have hs3:upd (upd H2 t2 (.tup [.str "less",.int (us'.length:Int),.int (ns[i+1]:Int)])) r (.lst (us'++[.ref t1]++[.ref t2])) st=some (.lst (natsV ms)):=by rw [upd_ne nsr];exact v2 _ _ hs2
    have sb3:SB (.ref r) H (upd (upd H2 t2 (.tup [.str "less",.int (us'.length:Int),.int (ns[i+1]:Int)])) r (.lst (us'++[.ref t1]++[.ref t2]))):=(sb2.trans (SB.of v2)).trans (sb_upd _ _)
    have k3:Kp (upd H2 t2 (.tup [.str "less",.int (us'.length:Int),.int (ns[i+1]:Int)])) (upd (upd H2 t2 (.tup [.str "less",.int (us'.length:Int),.int (ns[i+1]:Int)])) r (.lst (us'++[.ref t1]++[.ref t2]))):=kp_mut (v2 _ _ hr2) rfl
    have al3:All2 (GrV (upd (upd H2 t2 (.tup [.str "less",.int (us'.length:Int),.int (ns[i+1]:Int)])) r (.lst (us'++[.ref t1]++[.ref t2])))) (us'++[.ref t1]++[.ref t2]) (gs'++[.fold .more ns[i] L]++[.fold .less us'.length ns[i+1]]):=((al2.imp (GrV.to (Kp.of v2))).imp (GrV.to k3)).app (.cons (GrV.to k3 _ _ (GrV.mk (.fold .less us'.length ns[i+1]) upd_same)) .nil)
    generalize upd (upd H2 t2 (.tup [.str "less",.int (us'.length:Int),.int (ns[i+1]:Int)])) r (.lst (us'++[.ref t1]++[.ref t2]))=H3 at hr3 hp3 hs3 sb3 al3 ⊢
    have c3:((((us'++[V.ref t1]++[V.ref t2]).length:Nat):Int) - 1)=((us'.length+1:Nat):Int):=by simp;omega
    refine ⟨_,rfl,.inl ⟨rfl,_,SqL.of hs3⟩,_,rfl,_,_,rfl,.inl ⟨_,SqL.of hr3,rfl⟩,_,_,rfl,rfl,st,_,_,rfl,rfl,hs3,small1000 (by simp;omega),?_⟩
    dsimp only
    rw [c3]
    have k4:Kp H3 (upd H3 st (.lst (natsV ms++[.int ((us'.length+1:Nat):Int)]))):=kp_mut hs3 rfl
    have kpm:∀(j:Nat) (F:List St4),Ls[j]?=some F→(Ls'++[lineF .more (lineS a (b+(i:Int))) (letS up)]++[lineS (a+letE up) (b+(i:Int)+letD up)])[j]?=some F:=fun j F h=>keep _ (keep _ (S.kp j F h))
    refine ⟨_,ms++[us'.length+1],us'++[.ref t1]++[.ref t2],_,_,rfl,by simp [lm],?_,?_,?_,?_,al3.imp (GrV.to k4),s2,kpm,by simp;omega,fun k j hk=>?_,fun _=>⟨us'.length+1,by simp,by simp⟩⟩
    · exact fun c o hc nc=>by rw [upd_ne (ne_of_none hc hst)];exact sb3 c o hc nc
    · rw [upd_ne (Ne.symm nsr)];exact hr3
    · rw [upd_same];simp [natsV]
    · rw [upd_ne (Ne.symm nsp)];exact hp3
    · rcases Nat.lt_or_ge k ms.length with z | z
      · rw [List.getElem?_append_left z] at hk
        exact keep _ (keep _ (S.pl k j hk))
      · rw [List.getElem?_append_right z] at hk
        have ek:k - ms.length=0:=by have:=(List.getElem?_eq_some_iff.mp hk).1;simp at this;omega
        rw [ek] at hk
        cases hk
        have e5:k=i:=by omega
        subst e5
        rw [show us'.length+1=(Ls'++[lineF .more (lineS a (b+(k:Int))) (letS up)]).length by simp;omega]
        rw [List.getElem?_concat_length]
        congr 2
        omega
  · obtain ⟨o4,ms,us',gs',Ls',rfl,lm,S⟩:=z
    exact ⟨_,rfl,q st ms us' gs' Ls' H' hst (by omega) S⟩
end
end Mine
namespace Mine
open PySem L2
theorem lineS_flat (b:Int):lineS 0 b=St1 (((if 1≤b then 1 else 0:Nat)):Int):=by
  unfold lineS
  rw [if_pos rfl]
  congr 1
  by_cases h:1≤b
  · rw [if_pos h];show min 1 (max 0 b)=1;omega
  · rw [if_neg h];show min 1 (max 0 b)=0;omega
structure Rs30 (H H':Hp) (l:Addr) (sl h:Int) (us:List V) (gs:List Gr) (Ls:List (List St4)):Prop where
  sm:Same H H'
  fr:H l=none
  el:H' l=some (.lst us)
  al:All2 (GrV H') us gs
  sr:SR gs (Ls++[lineS sl h])
  few:us.length≤4+sl.natAbs*(sl.natAbs+1)
theorem SR.ne {gs:List Gr} {Ls:List (List St4)} (h:SR gs Ls):SR (gs++[.ne]) (Ls++[St1 0]):=h.push rfl (fun x hx=>nomatch hx) (by intro z;cases z) fun n x z1 z2 z3=>by rw [st1_at z3];show (0:Int)=_;omega
theorem SR.al' {gs:List Gr} {Ls:List (List St4)} (h:SR gs Ls):SR (gs++[.al]) (Ls++[St1 1]):=h.push rfl (fun x hx=>nomatch hx) (by intro z;cases z) fun n x z1 z2 z3=>by rw [st1_at z3];show n=_;omega
theorem SR.pp {gs:List Gr} {Ls:List (List St4)} (h:SR gs Ls):SR (gs++[.p]) (Ls++[lineP]):=h.push rfl (fun x hx=>nomatch hx) (by intro z;cases z) fun n x z1 z2 z3=>by rw [p_at z3];rfl
noncomputable def gs3:List Gr:=[.ne,.al,.p]
noncomputable def Ls3:List (List St4):=[St1 0,St1 1,lineP]
theorem sr3:SR gs3 Ls3:=SR.nil.ne.al'.pp
noncomputable def gs4:List Gr:=[.ne,.al,.p,.no 2]
noncomputable def Ls4:List (List St4):=[St1 0,St1 1,lineP,lineNo lineP]
theorem sr4:SR gs4 Ls4:=by
  obtain ⟨_,g,at_⟩:=no_facts p_gd (by decide)
  refine sr3.push (g:=.no 2) ⟨lineP,rfl,by decide,rfl⟩ (fun x hx=>?_) (by intro z;cases z) fun n x z1 z2 z3=>?_
  · have:x=2:=by simpa [Gr.nums] using hx
    subst this
    decide
  · rw [at_ x n z1 z2 z3]
    show n - ((Ls3.map fun F=>hAt F x n).getD 2 0)=_
    rw [getD_hAt (F:=lineP) rfl]
theorem vals_map {f:Nat→Nat} {ys:List V} {l:List Nat} (h:All2 (fun v i=>v=V.int ((f i:Nat):Int)) ys l):ys=natsV (l.map f):=by
  induction h with
  | nil=>rfl
  | cons r _ ih=>rw [r,ih];rfl
theorem last_is {Ls:List (List St4)} {i:Nat} {F:List St4} (h:Ls[i]?=some F) (e:i+1=Ls.length):Ls=Ls.take i++[F]:=by
  have:=List.take_append_drop i Ls
  have d:Ls.drop i=[F]:=by
    obtain ⟨hi,z⟩:=List.getElem?_eq_some_iff.mp h
    rw [List.drop_eq_getElem_cons hi,z,List.drop_eq_nil_of_le (by omega)]
  rw [d] at this
  exact this.symm
structure Wh30 (H H':Hp) (r p:Addr) (us:List V) (gs:List Gr) (Ls:List (List St4)) (ns:List Nat) (s n L:Nat) (b:Int) (up:Bool):Prop where
  sm:Same H H'
  rp:r≠p
  er:H' r=some (.lst us)
  ep:H' p=some (.lst (natsV ns))
  al:All2 (GrV H') us gs
  sr:SR gs Ls
  hL:Ls[L]?=some (letS up)
  cnt:s+ns.length=n+1
  pos:1≤ns.length
  few:us.length+(n - s)*(n - s+1)≤4+n*(n+1)
  pl:∀(k i:Nat),ns[k]?=some i→Ls[i]?=some (lineS ((s:Int)*letE up) (b+(s:Int)*letD up+k))
  la:1≤s→∃ i,ns.getLast?=some i∧i+1=us.length
noncomputable def spFlat30:Sp:=fun vs H Q _=>∃ h:Int,vs=[.int h]∧∀(l:Addr) (us:List V) (gs:List Gr) (Ls:List (List St4)) (H':Hp),Rs30 H H' l 0 h us gs Ls→Q (.ref l) H'
noncomputable def spStraight30:Sp:=fun vs H Q _=>∃ sl h:Int,vs=[.int sl,.int h]∧sl.natAbs≤12∧∀(l:Addr) (us:List V) (gs:List Gr) (Ls:List (List St4)) (H':Hp),Rs30 H H' l sl h us gs Ls→Q (.ref l) H'
section
variable {P:Program} {w:World} {K:PySem.W.Frag} {mg:Str→Option Value} {base:Heap}
theorem ok_flat30 (T:TopDef K mg "flat_rows" s_flat_rows):Def P w K mg base 1 "flat_rows" ["height"] spFlat30:=by
  refine def_of T sc_flat_rows (fun _ _ _ _ _ _ us hl=>match us,hl with | [_],_=>rfl) (fun vs H Q E h=>?_) (fun f cdv A outer s H vs Q E hr h=>?_)
  · obtain ⟨h,rfl,_⟩:=h
    rfl
  obtain ⟨h,rfl,q⟩:=h
  have nd:=sc_flat_rows.nd
  have sz:∀ n:Nat,n≤100→n≤sizeLine:=fun n h=>Nat.le_trans h (by decide)
  refine ⟨_,(pss_one (ps_ret (pe_ifExp (pt_cmpR op_ge (pv 0) pe_int (nomark _)) (pe_lst (pa_cons (pe_tup (pa_cons pe_str pa_nil)) pa_nil)) (pe_lst (pa_cons (pe_tup (pa_cons pe_str pa_nil)) pa_nil))))),?_⟩
  refine ⟨_,rfl,_,_,rfl,rfl,_,rfl,?_⟩
  refine ite2 (fun c=>?_) (fun c=>?_)
  · have c:1≤h:=of_decide_eq_true c
    refine ⟨sz 1 (by decide),fun p hp=>⟨sz 1 (by decide),fun l hl=>?_⟩⟩
    have u1:=same_new hp (.tup [V.str "always"])
    have u2:=same_new hl (.lst [V.ref p])
    refine q l _ [.al] [] _ ⟨u1.trans u2,u1.free hl,upd_same,.cons (GrV.mk .al (u2 _ _ upd_same)) .nil,?_,by simp⟩
    rw [lineS_flat,if_pos c]
    exact SR.nil.al'
  · have c:¬1≤h:=fun z=>c (decide_eq_true z)
    refine ⟨sz 1 (by decide),fun p hp=>⟨sz 1 (by decide),fun l hl=>?_⟩⟩
    have u1:=same_new hp (.tup [V.str "never"])
    have u2:=same_new hl (.lst [V.ref p])
    refine q l _ [.ne] [] _ ⟨u1.trans u2,u1.free hl,upd_same,.cons (GrV.mk .ne (u2 _ _ upd_same)) .nil,?_,by simp⟩
    rw [lineS_flat,if_neg c]
    exact SR.nil.ne
theorem ok_straight30 (T:TopDef K mg "straight_rows" s_straight_rows) (Z_abs:mg "abs"=none) (Z_len:mg "len"=none) (Z_range:mg "range"=none) {tm:Tok} (M_STEEPEST_straights:mg "STEEPEST_straights"=some (.int 12 tm)) (D_flat_rows:Def P w K mg base 1 "flat_rows" ["height"] spFlat30) (D_put_steeper:Def P w K mg base 1 "put_steeper" ["rows","places","letter"] spSteep30):Def P w K mg base 2 "straight_rows" ["slope","height"] spStraight30:=by
  refine def_of T sc_straight_rows (fun _ _ _ _ _ _ us hl=>match us,hl with | [_,_],_=>rfl) (fun vs H Q E h=>?_) (fun f cdv A outer s H vs Q E hr h=>?_)
  · obtain ⟨sl,h,rfl,_⟩:=h
    rfl
  obtain ⟨sl,h,rfl,sl12,q⟩:=h
  have nd:=sc_straight_rows.nd
  have sz:∀ n:Nat,n≤100→n≤sizeLine:=fun n h=>Nat.le_trans h (by decide)
  have t5:∃ t,Hold (cxOf CX0 P w K mg base n_straight_rows "straight_rows" (defScope s_straight_rows) f cdv A outer s H E).nox ((defBody s_straight_rows).drop 5) t∧∀(r:Addr) (up:Bool) (us:List V) (gs:List Gr) (Ls:List (List St4)) (b:Int) (o4 o5:Option V) (H1:Hp),Same H H1→H r=none→H1 r=some (.lst us)→All2 (GrV H1) us gs→SR gs Ls→1≤us.length→us.length≤4→Ls[us.length - 1]?=some (letS up)→Ls[0]?=some (St1 0)→Ls[1]?=some (St1 1)→sl≠0→sl=(sl.natAbs:Int)*letE up→h=b+(sl.natAbs:Int)*letD up→
      t {nx:=fun _ H'=>Q .non H',rt:=Q} [some (.int sl),some (.int h),some (.ref r),some (.int b),o4,o5] H1:=by
    refine ⟨_,⟨(pss_cons (ps_set (i:=4) nd rfl (Or.inl rfl) (pe_op op_sub (pe_callB call_len rfl Z_len (by decide +kernel) (pa_cons (pv 2) pa_nil)) pe_int))
    (pss_cons (ps_setF (i:=5) nd rfl (Or.inl rfl) (Or.inl rfl) rfl rfl (pi_range1 rfl Z_range (pa_cons (pe_op op_add (pe_callB call_abs rfl Z_abs (by decide +kernel) (pa_cons (pv 0) pa_nil)) pe_int) pa_nil)) rfl (by decide +kernel) (by decide +kernel) rfl (show ∀ p∈Scope.names _,p.2=NameKind.free→List.lookup p.1 (defScope s_straight_rows).names=some .cell∨List.lookup p.1 (defScope s_straight_rows).names=some .free by decide +kernel) (fa_cons (j:=3) rfl (Or.inl rfl) (by decide +kernel) (Or.inl rfl) fa_nil) (show (["k","lowest"]:List Str).Nodup by decide +kernel) (fun _ _ _ _=>pif_nil) (fun _ _ _ _=>(pe_ifExp (pt_cmpR op_ge (pe_op op_add (pv 1) (pv 0)) pe_int (nomark _)) pe_int pe_int)))
    (pss_cons (ps_while PassesOwn.never (pt_cmpR op_gt (pe_callB call_len rfl Z_len (by decide +kernel) (pa_cons (pv 5) pa_nil)) pe_int (nomark _)) (pss_one (ps_set (i:=5) nd rfl (Or.inl rfl) (pe_def D_put_steeper (hr.mono (by omega)) rfl (pa_cons (pv 2) (pa_cons (pv 5) (pa_cons (pv 4) pa_nil)))))))
    (pss_one (ps_ret (pv 2))))))⟩,?_⟩
    intro r up us gs Ls b o4 o5 H1 s1 hr0 er al sr l1 l4 hL h0 h1 ne es eh
    refine ⟨_,rfl,_,_,rfl,.inl ⟨_,SqL.of er,rfl⟩,_,_,rfl,rfl,?_⟩
    dsimp only [gName,tSeq,tAsgC,List.set]
    have en:((if sl < 0 then -sl else sl)+1).toNat=sl.natAbs+1:=by by_cases c:sl < 0 <;> simp only [c,if_true,if_false] <;> omega
    have em:(if sl < 0 then -sl else sl)≤12:=by by_cases c:sl < 0 <;> simp only [c,if_true,if_false] <;> omega
    refine comp_rangeM (lo:=0) (n:=((if sl < 0 then -sl else sl)+1).toNat) (fun _ v i=>v=V.int (((if 1≤b+(i:Int) then 1 else 0:Nat)):Int)) (fun _ _ _ _ _ _ _ h=>h) (fun H'=>H'=H1) (fun R h=>⟨_,rfl,_,rfl,_,_,rfl,rfl,_,rfl,by omega,by omega,h _ rfl⟩) (fun H' h=>by rw [h];exact Same.refl _) (by omega) (fun i H' N hi s' hN=>?_) (fun D ys H' s' hD eD al'=>?_)
    · have e0:(0:Int)+(i:Int)=(i:Int):=by omega
      rw [e0]
      refine ⟨_,rfl,_,rfl,_,_,rfl,rfl,_,_,rfl,rfl,_,rfl,ite2 (fun c=>?_) (fun c=>?_)⟩
      · have c:=of_decide_eq_true c
        refine hN _ _ (Same.refl _) (fun a z=>by cases z) ?_
        rw [if_pos c]
        rfl
      · have c:¬1≤b+(i:Int):=fun z=>c (decide_eq_true z)
        refine hN _ _ (Same.refl _) (fun a z=>by cases z) ?_
        rw [if_neg c]
        rfl
    · rw [en] at al'
      have ey:=vals_map al'
      have ryD:r≠D:=fun z=>by rw [← z,er] at hD;cases hD
      have eL:(us.length:Int) - 1=((us.length - 1:Nat):Int):=by omega
      rw [eL]
      refine ⟨fun m σ H2=>∃(p:Addr) (us2:List V) (gs2:List Gr) (Ls2:List (List St4)) (ns:List Nat) (s:Nat),σ=[some (.int sl),some (.int h),some (.ref r),some (.int b),some (.int ((us.length - 1:Nat):Int)),some (.ref p)]∧m=ns.length∧Wh30 H H2 r p us2 gs2 Ls2 ns s sl.natAbs (us.length - 1) b up,⟨_,D,us,gs,Ls,(List.range (sl.natAbs+1)).map fun i:Nat=>if 1≤b+(i:Int) then 1 else 0,0,rfl,rfl,?_⟩,?_⟩
      · refine ⟨s1.trans s',ryD,s' _ _ er,by rw [← ey];exact eD,al.imp (GrV.to (Kp.of s')),sr,hL,by simp,by simp,by rw [Nat.sub_zero];omega,fun k i hk=>?_,fun z=>by omega⟩
        rw [List.getElem?_map] at hk
        rcases Nat.lt_or_ge k (sl.natAbs+1) with z | z
        · rw [List.getElem?_range z] at hk
          cases hk
          show Ls[if 1≤b+(k:Int) then 1 else 0]?=_
          rw [show ((0:Nat):Int)*letE up=0 by simp,show b+((0:Nat):Int)*letD up+(k:Int)=b+(k:Int) by simp,lineS_flat]
          by_cases c:1≤b+(k:Int)
          · rw [if_pos c];exact h1
          · rw [if_neg c];exact h0
        · rw [List.getElem?_eq_none (by simpa using z)] at hk
          cases hk
      · rintro m σ H2 ⟨p,us2,gs2,Ls2,ns,s2,rfl,rfl,W⟩
        have ln:(natsV ns).length=ns.length:=List.length_map _
        refine ⟨_,rfl,_,_,rfl,.inl ⟨_,SqL.of W.ep,rfl⟩,_,_,rfl,rfl,_,rfl,ite2 (fun c=>?_) (fun c=>?_)⟩
        · have c:=of_decide_eq_true c
          have cnt:=W.cnt
          have few:=W.few
          have n2:2≤ns.length:=by omega
          have nn:sl.natAbs*(sl.natAbs+1)≤12*13:=Nat.mul_le_mul sl12 (by omega)
          obtain ⟨e,he⟩:∃ e,sl.natAbs - s2=e+1:=⟨sl.natAbs - s2 - 1,by omega⟩
          have he2:sl.natAbs - (s2+1)=e:=by omega
          have hee:(e+1)*(e+1+1)=e*(e+1)+2*(e+1):=by rw [Nat.mul_comm (e+1) (e+1+1),Nat.add_mul,Nat.add_mul,Nat.mul_comm e (e+1),Nat.add_mul];omega
          have lms:∀ ms:List Nat,ms.length+1=ns.length→ms.length=e+1:=fun ms h=>by omega
          rw [he,hee] at few
          have lE:letE up=1∨letE up = -1:=by cases up;exact .inr rfl;exact .inl rfl
          have ea:((s2:Int)*letE up).natAbs=s2:=by rcases lE with z | z <;> rw [z] <;> omega
          have ea2:((s2:Int)*letE up+letE up).natAbs=s2+1:=by rcases lE with z | z <;> rw [z] <;> omega
          refine ⟨_,fun σ' H' z=>z,?_⟩
          refine ⟨_,rfl,_,rfl,_,rfl,r,p,us2,gs2,Ls2,ns,us.length - 1,(s2:Int)*letE up,b+(s2:Int)*letD up,up,rfl,W.rp,W.er,W.al,W.sr,W.ep,W.pos,by omega,by omega,W.hL,W.pl,by omega,by omega,fun l ms us' gs' Ls' H' hl lm S=>?_⟩
          refine ⟨ms.length,by omega,l,us',gs',Ls',ms,s2+1,rfl,rfl,?_⟩
          have lu:=S.lu
          refine ⟨fun c o hc=>S.sb c o (W.sm c o hc) (fun z=>(by cases z;rw [hr0] at hc;cases hc)),(fun z=>(by rw [← z,W.er] at hl;cases hl)),S.hr,S.hs,S.al,S.sr,S.kp _ _ W.hL,by omega,by omega,(by rw [he2];have:=lms ms lm;omega),fun k i hk=>?_,fun _=>S.la (fun z=>by rw [z] at lm;simp at lm;omega)⟩
          have:=S.pl k i hk
          rw [this]
          rw [show (((s2+1:Nat)):Int)*letE up=(s2:Int)*letE up+letE up by rw [Int.natCast_add,Int.add_mul];simp,show (((s2+1:Nat)):Int)*letD up=(s2:Int)*letD up+letD up by rw [Int.natCast_add,Int.add_mul];simp]
          congr 2
          omega
        · have c:¬1 < ((natsV ns).length:Int):=fun z=>c (decide_eq_true z)
          have cnt:=W.cnt
          have few:=W.few
          have pos:=W.pos
          have n1:ns.length=1:=by omega
          obtain ⟨i,gl,li⟩:=W.la (by omega)
          obtain ⟨j,rfl⟩:∃ j,ns=[j]:=by
            match ns,n1 with
            | [j],_=>exact ⟨j,rfl⟩
          have:i=j:=by simpa using gl.symm
          subst this
          have key:=W.pl 0 i rfl
          have es2:s2=sl.natAbs:=by omega
          subst es2
          rw [← es,show b+(sl.natAbs:Int)*letD up+((0:Nat):Int)=h by omega] at key
          have lg:=W.al.len
          have lr:=W.sr.rl.1
          refine ⟨_,rfl,q r us2 gs2 (Ls2.take i) H2 ⟨W.sm,hr0,W.er,W.al,?_,(by have:=few;omega)⟩⟩
          rw [← last_is key (by omega)]
          exact W.sr
  obtain ⟨t5,ht5,k5⟩:=t5
  have es:∀ up:Bool,sl≠0→(up=true↔0 < sl)→sl=(sl.natAbs:Int)*letE up:=fun up _ hu=>by
    cases up with
    | true=>have:=hu.mp rfl;show sl=(sl.natAbs:Int)*1;omega
    | false => have : ¬ 0 < sl := fun z => by cases hu.mpr z
               show sl=(sl.natAbs:Int)*(-1);omega
  refine ⟨_,pss_cons (ps_if (pt_cmpR op_gt (pe_callB call_abs rfl Z_abs (by decide +kernel) (pa_cons (pv 0) pa_nil)) (pe_glob (v:=V.int 12) rfl M_STEEPEST_straights ⟨_,rfl⟩) (nomark _)) (pss_one ps_dead) pss_nil) (pss_cons (ps_if (pt_cmpR op_eq (pv 0) pe_int (nomark _)) (pss_one (ps_ret (pe_def D_flat_rows (hr.mono (by omega)) rfl (pa_cons (pv 1) pa_nil)))) pss_nil) (pss_cons (ps_set (i:=2) nd rfl (Or.inl rfl) (pe_lst (pa_cons (pe_tup (pa_cons pe_str pa_nil)) (pa_cons (pe_tup (pa_cons pe_str pa_nil)) (pa_cons (pe_tup (pa_cons pe_str pa_nil)) pa_nil))))) (pss_cons (ps_set (i:=3) nd rfl (Or.inr rfl) (pv 1)) (pss_consH (ps_if (pt_cmpR op_lt (pv 0) pe_int (nomark _)) (pss_cons (ps_expr (pe_bm PySem.F.plainAttrs_list PySem.F.slot_list_append PySem.F.type_list_append mt_append (pv 2) (pa_cons (pe_tup (pa_cons pe_str (pa_cons pe_int pa_nil))) pa_nil)))
    (pss_one (ps_set (i:=3) nd rfl (Or.inr rfl) (pe_op op_add (pv 1) (pv 0))))) pss_nil) ht5)))),?_⟩
  refine ⟨_,rfl,_,rfl,_,_,rfl,rfl,_,rfl,ite2 (fun c=>?_) (fun _=>?_)⟩
  · exfalso
    have c:=of_decide_eq_true c
    by_cases n:sl < 0
    · rw [if_pos n] at c;omega
    · rw [if_neg n] at c;omega
  refine ⟨_,rfl,rfl,_,rfl,ite2 (fun c=>?_) (fun c=>?_)⟩
  · have c:V.int sl=V.int 0:=of_decide_eq_true c
    cases c
    exact ⟨_,rfl,h,rfl,fun l us gs Ls H' R=>q l us gs Ls H' R⟩
  have ne:sl≠0:=fun z=>c (by rw [z];rfl)
  refine ⟨sz 1 (by decide),fun p1 hp1=>⟨sz 1 (by decide),fun p2 hp2=>⟨sz 1 (by decide),fun p3 hp3=>⟨sz 3 (by decide),fun l hl=>?_⟩⟩⟩⟩
  have u1:=same_new hp1 (.tup [V.str "never"])
  have u2:=same_new hp2 (.tup [V.str "always"])
  have u3:=same_new hp3 (.tup [V.str "p"])
  have u4:=same_new hl (.lst [V.ref p1,V.ref p2,V.ref p3])
  have g1:=GrV.mk .ne (((u2.trans u3).trans u4) _ _ upd_same)
  have g2:=GrV.mk .al ((u3.trans u4) _ _ upd_same)
  have g3:=GrV.mk .p (u4 _ _ upd_same)
  have s4:=((u1.trans u2).trans u3).trans u4
  have fl:H l=none:=((u1.trans u2).trans u3).free hl
  have el:upd (upd (upd (upd H p1 (.tup [V.str "never"])) p2 (.tup [V.str "always"])) p3 (.tup [V.str "p"])) l (.lst [V.ref p1,V.ref p2,V.ref p3]) l=some (.lst [V.ref p1,V.ref p2,V.ref p3]):=upd_same
  generalize upd (upd (upd (upd H p1 (.tup [V.str "never"])) p2 (.tup [V.str "always"])) p3 (.tup [V.str "p"])) l (.lst [V.ref p1,V.ref p2,V.ref p3])=H4 at g1 g2 g3 s4 el ⊢
  refine ⟨_,rfl,_,rfl,_,_,rfl,rfl,_,rfl,ite2 (fun c=>?_) (fun c=>?_)⟩
  · have c:=of_decide_eq_true c
    refine ⟨_,rfl,.inl ⟨rfl,_,SqL.of el⟩,sz 2 (by decide),fun t ht=>?_⟩
    have u5:=same_new ht (.tup [V.str "not",V.int 2])
    refine ⟨l,_,_,rfl,rfl,u5 _ _ el,small1000 (by simp),?_⟩
    have k5':Kp (upd H4 t (.tup [V.str "not",V.int 2])) (upd (upd H4 t (.tup [V.str "not",V.int 2])) l (.lst ([V.ref p1,V.ref p2,V.ref p3]++[V.ref t]))):=kp_mut (u5 _ _ el) rfl
    refine ⟨_,rfl,_,rfl,_,_,rfl,rfl,?_⟩
    refine k5 l false _ gs4 Ls4 (h+sl) _ _ _ (same_mut (s4.trans u5) fl _) fl upd_same ?_ sr4 (by simp) (by simp) rfl rfl rfl ne (es false ne ⟨fun z=>(by cases z),fun z=>(by omega)⟩) (by show h=h+sl+(sl.natAbs:Int)*1;omega)
    have k6:=(Kp.of u5).trans k5'
    exact .cons (GrV.to k6 _ _ g1) (.cons (GrV.to k6 _ _ g2) (.cons (GrV.to k6 _ _ g3) (.cons (GrV.to k5' _ _ (GrV.mk (.no 2) upd_same)) .nil)))
  · have c:¬sl < 0:=fun z=>c (decide_eq_true z)
    exact k5 l true _ gs3 Ls3 h _ _ _ s4 fl el (.cons g1 (.cons g2 (.cons g3 .nil))) sr3 (by simp) (by simp) rfl rfl rfl ne (es true ne ⟨fun _=>by omega,fun _=>rfl⟩) (by show h=h+(sl.natAbs:Int)*0;omega)
end
end Mine
namespace Mine
open PySem L2
noncomputable def mvG (by_:Nat):Gr→Gr
  | .no i=>.no (i+by_)
  | .fold u i j=>.fold u (i+by_) (j+by_)
  | g=>g
theorem worths_pre (n x y:Int):∀(gs:List Gr) (ws:List Int),∃ r,worthsG n x y gs ws=ws++r
  | [],ws=>⟨[],by simp [worthsG]⟩
  | g::gs,ws=>by
    obtain ⟨r,e⟩:=worths_pre n x y gs (ws++[g.worth n x y ws])
    exact ⟨g.worth n x y ws::r,by show worthsG n x y gs (ws++[g.worth n x y ws])=_;rw [e];simp⟩
theorem worths_app (n x y:Int):∀(a b:List Gr) (ws:List Int),worthsG n x y (a++b) ws=worthsG n x y b (worthsG n x y a ws)
  | [],b,ws=>rfl
  | g::a,b,ws=>by show worthsG n x y (a++b) (ws++[g.worth n x y ws])=_;rw [worths_app n x y a b];rfl
theorem SR.at {gs:List Gr} {Ls:List (List St4)} (h:SR gs Ls) {k:Nat} {g:Gr} (hg:gs[k]?=some g):∃ F,Ls[k]?=some F∧RowL (Ls.take k) F g∧GrOk k g∧g≠.q∧∀ n x,0 < n→0≤x→x≤n→g.worth n x 0 ((Ls.take k).map fun F=>hAt F x n)=hAt F x n:=by
  obtain ⟨F,hF,r⟩:=h.rl.2 k g hg
  refine ⟨F,hF,r,h.ok k g hg,h.nq g (List.mem_of_getElem? hg),fun n x z1 z2 z3=>?_⟩
  have hk:=(List.getElem?_eq_some_iff.mp hg).1
  have w:=h.wo n x z1 z2 z3
  have e1:gs=gs.take k++g::gs.drop (k+1):=by
    have:=(List.getElem?_eq_some_iff.mp hg).2
    rw [← this,← List.drop_eq_getElem_cons hk,List.take_append_drop]
  rw [e1,worths_app] at w
  obtain ⟨r2,e2⟩:=worths_pre n x 0 (gs.drop (k+1)) (worthsG n x 0 (gs.take k) []++[g.worth n x 0 (worthsG n x 0 (gs.take k) [])])
  have w2:worthsG n x 0 (gs.take k) []++[g.worth n x 0 (worthsG n x 0 (gs.take k) [])]++r2=Ls.map fun F=>hAt F x n:=by rw [← e2];exact w
  have lk:(worthsG n x 0 (gs.take k) []).length=k:=by rw [worthsG_len];simp;omega
  generalize worthsG n x 0 (gs.take k) []=W at w2 lk
  have t1:W=(Ls.take k).map fun F=>hAt F x n:=by
    have:=congrArg (List.take k) w2
    rw [List.append_assoc,List.take_append_of_le_length (by omega),List.take_of_length_le (by omega),← List.map_take] at this
    exact this
  have t2:=congrArg (fun l=>l[k]?) w2
  rw [List.append_assoc,List.getElem?_append_right (by omega),List.getElem?_map,hF,lk,Nat.sub_self] at t2
  rw [← t1]
  exact Option.some.inj t2
theorem RowL.mv {A B:List (List St4)} {F:List St4} {g:Gr} (h:RowL B F g):RowL (A++B) F (mvG A.length g):=by
  have sh:∀{i:Nat} {C:List St4},B[i]?=some C→(A++B)[i+A.length]?=some C:=fun {i C} e=>by rw [List.getElem?_append_right (by omega),show i+A.length - A.length=i by omega];exact e
  cases g with
  | no i=>obtain ⟨C,e,l,f⟩:=h;exact ⟨C,sh e,l,f⟩
  | fold u i j=>obtain ⟨C,D,e1,e2,f1,f2⟩:=h;exact ⟨C,D,sh e1,sh e2,f1,f2⟩
  | ne=>exact h
  | al=>exact h
  | p=>exact h
  | q=>exact h
theorem mv_worth {n x y:Int} {as bs:List Int} {g:Gr} {k:Nat} (hk:bs.length=k) (h:GrOk k g):(mvG as.length g).worth n x y (as++bs)=g.worth n x y bs:=by
  have sh:∀ i,i < k→(as++bs).getD (i+as.length) 0=bs.getD i 0:=fun i hi=>by
    rw [List.getD_eq_getElem?_getD,List.getElem?_append_right (by omega),show i+as.length - as.length=i by omega,← List.getD_eq_getElem?_getD]
  cases g with
  | no i=>show n - (as++bs).getD (i+as.length) 0=n - bs.getD i 0;rw [sh i (h i (by simp [Gr.nums]))]
  | fold u i j=>show u.worth n ((as++bs).getD (i+as.length) 0) ((as++bs).getD (j+as.length) 0)=u.worth n (bs.getD i 0) (bs.getD j 0);rw [sh i (h i (by simp [Gr.nums])),sh j (h j (by simp [Gr.nums]))]
  | ne=>rfl
  | al=>rfl
  | p=>rfl
  | q=>rfl
theorem mv_ok {k b:Nat} {g:Gr} (h:GrOk k g):GrOk (b+k) (mvG b g):=by
  intro x hx
  cases g with
  | no i =>
    have:x=i+b:=by simpa [mvG,Gr.nums] using hx
    have:=h i (by simp [Gr.nums])
    omega
  | fold u i j =>
    have:x=i+b∨x=j+b:=by simpa [mvG,Gr.nums] using hx
    have:=h i (by simp [Gr.nums])
    have:=h j (by simp [Gr.nums])
    omega
  | _=>simp [mvG,Gr.nums] at hx
theorem SR.app {gs gs':List Gr} {Ls Ls':List (List St4)} (h:SR gs Ls) (h':SR gs' Ls'):SR (gs++gs'.map (mvG gs.length)) (Ls++Ls'):=by
  have lg:=h.rl.1
  have lg':=h'.rl.1
  have step:∀ k,k≤gs'.length→SR (gs++(gs'.take k).map (mvG gs.length)) (Ls++Ls'.take k):=by
    intro k
    induction k with
    | zero=>intro _;simpa using h
    | succ k ih =>
      intro hk
      have hg:gs'[k]?=some gs'[k]:=List.getElem?_eq_getElem (by omega)
      obtain ⟨F,hF,r,ok,nq,w⟩:=h'.at hg
      have e1:(gs'.take (k+1)).map (mvG gs.length)=(gs'.take k).map (mvG gs.length)++[mvG gs.length gs'[k]]:=by rw [List.take_succ,hg,List.map_append];rfl
      have e2:Ls'.take (k+1)=Ls'.take k++[F]:=by rw [List.take_succ,hF];rfl
      rw [e1,e2,← List.append_assoc,← List.append_assoc]
      refine (ih (by omega)).push ?_ ?_ ?_ fun n x z1 z2 z3=>?_
      · rw [lg];exact r.mv
      · have:=mv_ok (b:=gs.length) ok
        rw [List.length_append,List.length_map,List.length_take,Nat.min_eq_left (by omega)]
        exact this
      · cases e:gs'[k] with
        | q=>exact absurd e nq
        | _=>intro z;cases z
      · rw [List.map_append]
        have:=mv_worth (n:=n) (x:=x) (y:=0) (as:=Ls.map fun F=>hAt F x n) (bs:=(Ls'.take k).map fun F=>hAt F x n) (g:=gs'[k]) (k:=k) (by simp;omega) ok
        rw [List.length_map,← lg] at this
        rw [this]
        exact w n x z1 z2 z3
  have:=step gs'.length (Nat.le_refl _)
  rwa [List.take_length,lg',List.take_length] at this
end Mine
namespace Mine
open PySem L2
noncomputable def fw (u:W5) (q:Int):List Int→Int
  | []=>0
  | a::r=>r.foldl (u.worth q) a
theorem fw_snoc {u:W5} {q:Int} {l:List Int} (h:l≠[]) (b:Int):fw u q (l++[b])=u.worth q (fw u q l) b:=by
  cases l with
  | nil=>exact absurd rfl h
  | cons a r=>show (r++[b]).foldl (u.worth q) a=_;rw [List.foldl_append];rfl
structure Fd32 (H H':Hp) (r:Addr) (us:List V) (Ls:List (List St4)) (ns:List Nat) (Fs:List (List St4)) (u:W5) (f:Nat) (us':List V) (gs':List Gr) (Ls':List (List St4)) (G:List St4):Prop where
  sb:SB (.ref r) H H'
  er:H' r=some (.lst us')
  al:All2 (GrV H') us' gs'
  sr:SR gs' Ls'
  kp:∀(j:Nat) (F:List St4),Ls[j]?=some F→Ls'[j]?=some F
  lu:us'.length+1=us.length+Fs.length
  gi:Ls'[f]?=some G
  gd:Gd 4 G
  la:2≤Fs.length→f+1=us'.length
  one:Fs.length=1→ns[0]?=some f
  ht:∀ p q,0 < q→0≤p→p≤q→hAt G p q=fw u q (Fs.map fun F=>hAt F p q)
noncomputable def spFolded32:Sp:=fun vs H Q _=>∃(r p:Addr) (u:W5) (us:List V) (gs:List Gr) (Ls:List (List St4)) (ns:List Nat) (Fs:List (List St4)),vs=[.ref r,.str u.str,.ref p]∧(u=.lesser∨u=.greater)∧r≠p∧H r=some (.lst us)∧All2 (GrV H) us gs∧SR gs Ls∧H p=some (.lst (natsV ns))∧1≤ns.length∧ns.length≤10∧us.length≤300∧ns.length=Fs.length∧
  (∀(k i:Nat),ns[k]?=some i→∃ F,Fs[k]?=some F∧Ls[i]?=some F∧Gd 4 F)∧
  ∀(f:Nat) (us':List V) (gs':List Gr) (Ls':List (List St4)) (G:List St4) (H':Hp),Fd32 H H' r us Ls ns Fs u f us' gs' Ls' G→Q (.int (f:Int)) H'
section
variable {P:Program} {w:World} {K:PySem.W.Frag} {mg:Str→Option Value} {base:Heap}
theorem ok_folded32 (T:TopDef K mg "put_folded" s_put_folded) (Z_len:mg "len"=none):Def P w K mg base 1 "put_folded" ["rows","word","places"] spFolded32:=by
  refine def_of T sc_put_folded (fun _ _ _ _ _ _ us hl=>match us,hl with | [_,_,_],_=>rfl) (fun vs H Q E h=>?_) (fun f cdv A outer s H vs Q E hr h=>?_)
  · obtain ⟨r,p,u,us,gs,Ls,ns,Fs,rfl,_⟩:=h
    rfl
  obtain ⟨r,p,u,us,gs,Ls,ns,Fs,rfl,hu,nrp,er,al,sr,ep,n1,n10,few,ln,pl,q⟩:=h
  have nd:=sc_put_folded.nd
  obtain ⟨n0,nr,rfl⟩:∃ n0 nr,ns=n0::nr:=by cases ns with | nil=>simp at n1 | cons a b=>exact ⟨a,b,rfl⟩
  obtain ⟨F0,hF0,hL0,g0⟩:=pl 0 n0 rfl
  obtain ⟨Fr,rfl⟩:∃ Fr,Fs=F0::Fr:=by cases Fs with | nil=>simp at hF0 | cons a b=>cases hF0;exact ⟨b,rfl⟩
  have lf:nr.length=Fr.length:=by simpa using ln
  refine ⟨_,(pss_cons (ps_set (i:=3) nd rfl (Or.inl rfl) (pe_ix ix_list (pv 2) pe_int (fun _ _=>rfl)))
    (pss_cons (ps_for PassesOwn.never rfl (pi_list (pe_slice sl_list (pv 2) (po_some pe_int) po_none)) (pg_name (i:=4) nd rfl (Or.inl rfl)) (pss_cons (ps_expr (pe_bm PySem.F.plainAttrs_list PySem.F.slot_list_append PySem.F.type_list_append mt_append (pv 0) (pa_cons (pe_tup (pa_cons (pv 1) (pa_cons (pv 3) (pa_cons (pv 4) pa_nil)))) pa_nil)))
    (pss_one (ps_set (i:=3) nd rfl (Or.inl rfl) (pe_op op_sub (pe_callB call_len rfl Z_len (by decide +kernel) (pa_cons (pv 0) pa_nil)) pe_int)))))
    (pss_one (ps_ret (pv 3))))),?_⟩
  refine ⟨_,rfl,_,_,_,_,rfl,rfl,SqL.of ep,nats_at (k:=0) rfl,?_⟩
  refine ⟨_,rfl,_,rfl,p,_,rfl,SqL.of ep,fun p2 hp2=>?_⟩
  have ec:cutV (natsV (n0::nr)) (some 1) none=natsV nr:=cutS _ _
  rw [ec]
  have u2:=same_new hp2 (.lst (natsV nr))
  have n2r:p2≠r:=fun z=>by rw [z,er] at hp2;cases hp2
  refine ⟨p2,rfl,⟨_,SqL.of upd_same⟩,?_⟩
  refine for_list (xs:=natsV nr) (fun i σ H'=>∃(o4:Option V) (fo:Nat) (us':List V) (gs':List Gr) (Ls':List (List St4)) (G:List St4),σ=[some (.ref r),some (.str u.str),some (.ref p),some (.int (fo:Int)),o4]∧H' p2=some (.lst (natsV nr))∧Fd32 H H' r us Ls ((n0::nr).take (i+1)) ((F0::Fr).take (i+1)) u fo us' gs' Ls' G)
    ⟨_,n0,us,gs,Ls,F0,rfl,upd_same,⟨SB.of u2,u2 _ _ er,al.imp (GrV.to (Kp.of u2)),sr,fun _ _ h=>h,by simp,hL0,g0,fun z=>by simp at z,fun _=>rfl,fun p q _ _ _=>rfl⟩⟩ (fun i σ H' _ z=>?_) (fun i x σ H' hx z=>?_) (fun σ H' z=>?_)
  · obtain ⟨_,_,_,_,_,_,_,e,_⟩:=z
    exact SqL.of e
  · obtain ⟨o4,fo,us',gs',Ls',G,rfl,e2,D⟩:=z
    rw [List.getElem?_map] at hx
    have hi:i < nr.length:=by
      rcases Nat.lt_or_ge i nr.length with z | z
      · exact z
      · rw [List.getElem?_eq_none z] at hx;cases hx
    have hx':nr[i]?=some nr[i]:=List.getElem?_eq_getElem hi
    rw [hx'] at hx
    cases hx
    obtain ⟨F,hF,hL,gF⟩:=pl (i+1) nr[i] (by simpa using hx')
    have lu:=D.lu
    rw [List.length_take,Nat.min_eq_left (by simp;omega)] at lu
    have st4:u.steep 4 4=4:=by rcases hu with rfl | rfl <;> rfl
    obtain ⟨f1,f2,f3⟩:=fold_facts u D.gd gF (by rw [st4];decide)
    rw [st4] at f2
    have hLF:=D.kp _ _ hL
    have lg:=D.al.len
    have lr:=D.sr.rl.1
    refine ⟨_,rfl,.inl ⟨rfl,_,SqL.of D.er⟩,_,rfl,_,rfl,_,rfl,(by show 3≤sizeLine;decide),fun t ht=>?_⟩
    have u3:=same_new ht (.tup [.str u.str,.int (fo:Int),.int (nr[i]:Int)])
    refine ⟨r,us',_,rfl,rfl,u3 _ _ D.er,small1000 (by simp at n10;omega),?_⟩
    have hr3:upd (upd H' t (.tup [.str u.str,.int (fo:Int),.int (nr[i]:Int)])) r (.lst (us'++[.ref t])) r=some (.lst (us'++[.ref t])):=upd_same
    have k3:Kp (upd H' t (.tup [.str u.str,.int (fo:Int),.int (nr[i]:Int)])) (upd (upd H' t (.tup [.str u.str,.int (fo:Int),.int (nr[i]:Int)])) r (.lst (us'++[.ref t]))):=kp_mut (u3 _ _ D.er) rfl
    refine ⟨_,rfl,_,_,rfl,.inl ⟨_,SqL.of hr3,rfl⟩,_,_,rfl,rfl,?_⟩
    dsimp only
    have c2:((((us'++[V.ref t]).length:Nat):Int) - 1)=((us'.length:Nat):Int):=by simp
    rw [c2]
    have go:GrOk gs'.length (.fold u fo nr[i]):=fun x hx=>by
      have:x=fo∨x=nr[i]:=by simpa [Gr.nums] using hx
      have b1:=(List.getElem?_eq_some_iff.mp D.gi).1
      have b2:=(List.getElem?_eq_some_iff.mp hLF).1
      rcases this with rfl | rfl <;> omega
    have s3:SR (gs'++[.fold u fo nr[i]]) (Ls'++[lineF u G F]):=D.sr.push ⟨_,_,D.gi,hLF,f1,rfl⟩ go (by intro z;cases z) fun n x z1 z2 z3=>by
      show u.worth n _ _=_
      rw [getD_hAt D.gi,getD_hAt hLF,f3 x n z1 z2 z3]
    have tk:(F0::Fr).take (i+1+1)=(F0::Fr).take (i+1)++[F]:=by rw [List.take_succ,hF];rfl
    refine ⟨_,us'.length,us'++[.ref t],_,_,lineF u G F,rfl,?_,⟨?_,hr3,?_,s3,fun j F h=>keep _ (D.kp j F h),?_,?_,f2,?_,?_,fun p q z1 z2 z3=>?_⟩⟩
    · rw [upd_ne n2r];exact u3 _ _ e2
    · exact (D.sb.trans (SB.of u3)).trans (sb_upd _ _)
    · exact ((D.al.imp (GrV.to (Kp.of u3))).imp (GrV.to k3)).app (.cons (GrV.to k3 _ _ (GrV.mk (.fold u fo nr[i]) upd_same)) .nil)
    · rw [List.length_take,Nat.min_eq_left (by simp;omega)];simp;omega
    · rw [show us'.length=Ls'.length by omega,List.getElem?_concat_length]
    · intro _;simp
    · intro z;rw [List.length_take,Nat.min_eq_left (by simp;omega)] at z;omega
    · rw [f3 p q z1 z2 z3,D.ht p q z1 z2 z3,tk,List.map_append]
      exact (fw_snoc (by simp) _).symm
  · obtain ⟨o4,fo,us',gs',Ls',G,rfl,e2,D⟩:=z
    rw [show (natsV nr).length+1=(n0::nr).length by simp,List.take_length,show (n0::nr).length=(F0::Fr).length by simp [lf],List.take_length] at D
    exact ⟨_,rfl,q fo us' gs' Ls' G H' D⟩
end
end Mine
namespace Mine
open PySem L2
noncomputable def mvArg32 (s:Stmt):Expr:=match s with
  | .Return (some (.BinOp _ _ (.Call _ [e] _ _) _)) _=>e
  | _=>.Constant .none 0 ⟨0,0,0,0⟩
theorem mv_word (b:Nat) (g:Gr):(mvG b g).word=g.word:=by cases g <;> rfl
theorem mv_nums (b:Nat) (g:Gr):(mvG b g).nums=g.nums.map (·+b):=by cases g <;> rfl
theorem nums_len (g:Gr):g.nums.length≤2:=by cases g <;> simp [Gr.nums]
noncomputable def spMoved32:Sp:=fun vs H Q _=>∃(v:V) (b:Nat) (g:Gr),vs=[v,.int (b:Int)]∧GrV H v g∧∀ a H',Same H H'→H a=none→GrV H' (.ref a) (mvG b g)→Q (.ref a) H'
section
variable {P:Program} {w:World} {K:PySem.W.Frag} {mg:Str→Option Value} {base:Heap}
theorem ok_moved32 (T:TopDef K mg "moved" s_moved) (Z_tuple:mg "tuple"=none):Def P w K mg base 1 "moved" ["row","by"] spMoved32:=by
  refine def_of T sc_moved (fun _ _ _ _ _ _ us hl=>match us,hl with | [_,_],_=>rfl) (fun vs H Q E h=>?_) (fun f cdv A outer s H vs Q E hr h=>?_)
  · obtain ⟨v,b,g,rfl,_⟩:=h
    rfl
  obtain ⟨v,b,g,rfl,gv,q⟩:=h
  have nd:=sc_moved.nd
  have cm:∃ te,PE (cxOf CX0 P w K mg base n_moved "moved" (defScope s_moved) f cdv A outer s H E).nox (mvArg32 ((defBody s_moved).getD 0 (.Pass ⟨0,0,0,0⟩))) te∧∀(Q':VK) (p:Addr) (x:Str) (is:List Nat) (H3:Hp),H3 p=some (.tup (.str x::is.map fun i:Nat=>.int (i:Int)))→is.length≤2→
      (∀ D H4,Same H3 H4→H4 D=some (.lst (is.map fun i:Nat=>.int ((i+b:Nat):Int)))→Q' (.ref D) H4)→te [some (.ref p),some (.int (b:Int))] H3 Q':=by
    refine ⟨_,(pe_compF rfl (pi_tup (pe_slice sl_tupA (pv 0) (po_some pe_int) po_none)) rfl (by decide +kernel) (by decide +kernel) rfl (show ∀ p∈Scope.names _,p.2=NameKind.free→List.lookup p.1 (defScope s_moved).names=some .cell∨List.lookup p.1 (defScope s_moved).names=some .free by decide +kernel) (fa_cons (j:=1) rfl (Or.inl rfl) (by decide +kernel) (Or.inl rfl) fa_nil) (show (["place","by"]:List Str).Nodup by decide +kernel) (fun _ _ _ _=>pif_nil) (fun _ _ _ _=>(pe_op op_add (pv 0) (pv 1)))),?_⟩
    intro Q' p x is H3 e3 hl fin
    refine comp_from ?_
    refine ⟨_,rfl,_,rfl,?_⟩
    dsimp only [tNoPart]
    refine sl1 (K:=K) e3 fun p1 hp1=>?_
    refine ⟨p1,rfl,⟨_,SqT.of upd_same⟩,?_⟩
    have sp:=same_new hp1 (.tup (is.map fun i:Nat=>V.int (i:Int)))
    refine comp_mapT (K:=K) (ts:=is) (R:=fun _ v i=>v=V.int ((i:Nat):Int)) (xs:=is.map fun i:Nat=>V.int (i:Int)) (fun i=>.int ((i+b:Nat):Int)) (fun _ _ v t _ h=>h) (fun l H'=>l=p1∧H'=upd H3 p1 (.tup (is.map fun i:Nat=>V.int (i:Int)))) (fun R h=>h p1 _ ⟨rfl,rfl⟩) (fun l H' h=>by obtain ⟨rfl,rfl⟩:=h;exact ⟨upd_same,Same.refl _⟩) (by rw [List.length_map];omega)
      ?_ (fun v i H' N _ hv hN=>?_) (fun D H4 s4 hD eD=>fin D H4 (sp.trans s4) eD)
    · clear hl sp hp1 e3 fin
      induction is with
      | nil=>exact .nil
      | cons i r ih=>exact .cons rfl ih
    · subst hv
      refine ⟨_,rfl,_,rfl,_,_,rfl,rfl,?_⟩
      have:=hN _ (Same.refl _)
      rw [Int.natCast_add] at this
      exact this
  obtain ⟨tC,htC,hqC⟩:=cm
  obtain ⟨r,rfl,e⟩:=gv.tup
  have gl:=nums_len g
  refine ⟨_,(pss_one (ps_ret (pe_op op_catT (pe_tup (pa_cons (pe_ix ix_tup (pv 0) pe_int (fun _ _=>rfl)) pa_nil)) (pe_callTy call_tuple_of rfl Z_tuple (by decide +kernel) (pa_cons htC pa_nil))))),?_⟩
  refine ⟨_,rfl,_,_,_,_,rfl,rfl,SqT.of e,at_of (by decide) rfl,(by show 1≤sizeLine;decide),fun p1 hp1=>?_⟩
  have u1:=same_new hp1 (.tup [V.str g.word])
  refine hqC _ r g.word g.nums _ (u1 _ _ e) gl fun D H2 s2 eD=>?_
  refine ⟨D,_,rfl,.inl ⟨SqL.of eD,fun p2 hp2=>?_⟩⟩
  have u3:=same_new hp2 (.tup (g.nums.map fun i:Nat=>V.int ((i+b:Nat):Int)))
  have e1:=u3 _ _ (s2 _ _ (show upd H p1 (.tup [V.str g.word]) p1=_ from upd_same))
  have sA:=(u1.trans s2).trans u3
  refine ⟨p1,p2,[V.str g.word],_,rfl,rfl,SqT.of e1,SqT.of upd_same,by simp,(by simp only [List.length_cons,List.length_nil,List.length_map];exact Nat.le_trans (show _≤3 by omega) (by decide)),fun z=>?_,fun z p3 hp3=>?_⟩
  · refine q p1 _ sA hp1 (GrV.mk (mvG b g) ?_)
    have z':g.nums=[]:=by simpa using z
    rw [e1,mv_word,mv_nums,z']
    rfl
  · have u4:=same_new hp3 (.tup ([V.str g.word]++g.nums.map fun i:Nat=>V.int ((i+b:Nat):Int)))
    refine q p3 _ (sA.trans u4) (sA.free hp3) (GrV.mk (mvG b g) ?_)
    rw [upd_same,mv_word,mv_nums,List.map_map]
    rfl
end
end Mine
namespace Mine
open PySem L2
theorem comp_listM {α:Type} {K:PySem.W.Frag} {wi:TI} {te:TE} {js:List Nat} {σ:St} {H:Hp} {Q:VK} {xs:List V} {ts:List α} {R0 R:Hp→V→α→Prop} (hR0:∀ H H' v t,Same H H'→R0 H v t→R0 H' v t) (hR:∀ D H H' v t,SB (.ref D) H H'→v≠.ref D→R H v t→R H' v t) (Src:Addr→Hp→Prop)
    (hwi:∀ R:It→Hp→Prop,(∀ l H,Src l H→R (Itl K l) H)→wi σ H R) (hsrc:∀ l H',Src l H'→H' l=some (.lst xs)∧Same H H') (hx:xs.length≤1000) (o:All2 (R0 H) xs ts)
    (hs:∀ v t H' (N:VK),t∈ts→Same H H'→R0 H' v t→(∀ v' H'',Same H' H''→(∀ a,v'=.ref a→H' a=none)→R H'' v' t→N v' H'')→te (some v::cVals js σ) H' N)
    (hd:∀ D ys H',Same H H'→H D=none→H' D=some (.lst ys)→All2 (R H') ys ts→Q (.ref D) H'):tComp wi tNoIf te js σ H Q:=by
  refine comp_list Src hwi (fun l H src=>(hsrc l H src).1) hx (fun l D i ys H'=>H D=none∧Same H H'∧(∀ v∈ys,v≠.ref D)∧All2 (R H') ys (ts.take i)) (fun l H' D src hD=>⟨(hsrc l H' src).2.free hD,(hsrc l H' src).2.trans (same_new hD _),(fun _ z=>nomatch z),.nil⟩) (fun l D i v ys H' hv nl el eD h N hN=>?_) (fun l D ys H' el eD h=>?_)
  · obtain ⟨hD,sm,nD,al⟩:=h
    obtain ⟨t,ht,hr⟩:=o.get i v hv
    refine hs v t H' N (List.mem_of_getElem? ht) sm (hR0 _ _ _ _ sm hr) fun v' H'' s2 fr r=>?_
    have eD2:=s2 _ _ eD
    have nv:v'≠.ref D:=fun z=>by have:=fr D z;rw [eD] at this;cases this
    have sb1:SB (.ref D) H' (upd H'' D (.lst (ys++[v']))):=(SB.of s2).trans (sb_upd _ _)
    refine hN _ _ (s2 _ _ el) eD2 ⟨hD,same_mut (sm.trans s2) hD _,fun u hu=>?_,?_⟩
    · rcases List.mem_append.mp hu with hu | hu
      · exact nD u hu
      · rw [List.mem_singleton.mp hu];exact nv
    · rw [List.take_succ,ht]
      exact (al.mem fun u hu t ru=>hR D _ _ _ _ sb1 (nD u hu) ru).app (.cons (hR D _ _ _ _ (sb_upd _ _) nv r) .nil)
  · obtain ⟨hD,sm,nD,al⟩:=h
    refine hd D ys H' sm hD eD ?_
    rwa [o.len,List.take_length] at al
end Mine
namespace Mine
open PySem L2
noncomputable def psArg (s:Stmt):Expr:=match s with
  | .For _ _ b _ _=>match b.getD 1 (.Pass ⟨0,0,0,0⟩) with
    | .If _ c _ _=>match c.getD 1 (.Pass ⟨0,0,0,0⟩) with
      | .Expr (.Call _ [e] _ _) _=>e
      | _=>.Constant .none 0 ⟨0,0,0,0⟩
    | _=>.Constant .none 0 ⟨0,0,0,0⟩
  | _=>.Constant .none 0 ⟨0,0,0,0⟩
noncomputable abbrev kRule (s:St4):List Key:=[.inl s.m,.inl s.h]
structure Ps32 (H H':Hp) (r d:Addr) (L:List St4) (i:Nat) (kvs:List (List Key×V)) (us:List V) (gs:List Gr) (Ls:List (List St4)):Prop where
  sb:∀ c o,H c=some o→c≠r→H' c=some o
  fd:H d=none
  er:H' r=some (.lst us)
  ed:H' d=some (.dT kvs)
  al:All2 (GrV H') us gs
  sr:SR gs Ls
  lk:kvs.length≤i
  lu:us.length≤24*kvs.length
  ks:∀(j:Nat) (k:List Key) (v:V),kvs[j]?=some (k,v)→∃(s:St4) (pl:Nat),s∈L∧k=kRule s∧v=.int (pl:Int)∧Ls[pl]?=some (lineS s.m s.h)
  own:∀(j:Nat) (k:List Key) (v:V),kvs[j]?=some (k,v)→valV kvs k=some v
  has:∀(j:Nat) (s:St4),j < i→L[j]?=some s→∃ v,valV kvs (kRule s)=some v
  la:kvs≠[]→∃ k,kvs.getLast?=some (k,.int (((us.length - 1:Nat)):Int))∧1≤us.length
theorem put_new {kvs:List (List Key×V)} {k:List Key} {v:V} (h:valV kvs k=none):putK kvs k v=kvs++[(k,v)]:=by
  unfold putK
  rw [valV_any,h]
  rfl
theorem sl1Q {K:PySem.W.Frag} {H:Hp} {a:Addr} {x:V} {us:List V} {Q:VK} (e:SqT K H a (x::us)) (h:∀ p,H p=none→Q (.ref p) (upd H p (.tup us))):rSlA K (.ref a) (some 1) none H Q:=by
  refine ⟨a,_,rfl,e,fun z=>?_,fun _ p=>?_⟩
  · have hix0:_root_.HT.sIx (x::us).length 0 (some 1)=1:=by
      rw [show (some (1:Int))=some ((1:Nat):Int) from rfl,_root_.HT.sIx_nat,List.length_cons];omega
    exact absurd (hix0.symm.trans z) (by decide)
  · intro hp'
    rw [cutS]
    exact h _ hp'
theorem noPart32 {σ:St} {H:Hp} {Q:Option Int→Hp→Prop} (h:Q none H):tNoPart σ H Q:=h
noncomputable def spPut32 (K:PySem.W.Frag):Sp:=fun vs H Q _=>∃(r:Addr) (x:V) (L:List St4),vs=[.ref r,x]∧H r=some (.lst [])∧Dat K H (lnD L) x∧L.length≤6∧(∀ s∈L,s.m.natAbs≤4)∧∀(d:Addr) (kvs:List (List Key×V)) (us:List V) (gs:List Gr) (Ls:List (List St4)) (H':Hp),Ps32 H H' r d L L.length kvs us gs Ls→Q (.ref d) H'
section
variable {P:Program} {w:World} {K:PySem.W.Frag} {mg:Str→Option Value} {base:Heap}
theorem all2_mapB {α β γ:Type} {R:α→γ→Prop} {f:β→γ} {as:List α} {bs:List β} (h:All2 (fun a b=>R a (f b)) as bs):All2 R as (bs.map f):=by
  induction h with
  | nil=>exact .nil
  | cons r _ ih=>exact .cons r ih
theorem ok_put32 (T:TopDef K mg "put_straights" s_put_straights) (Z_len:mg "len"=none) (D_straight_rows:Def P w K mg base 2 "straight_rows" ["slope","height"] spStraight30) (D_moved:Def P w K mg base 1 "moved" ["row","by"] spMoved32):Def P w K mg base 3 "put_straights" ["rows","line"] (spPut32 K):=by
  refine def_of T sc_put_straights (fun _ _ _ _ _ _ us hl=>match us,hl with | [_,_],_=>rfl) (fun vs H Q E h=>?_) (fun f cdv A outer s H vs Q E hr h=>?_)
  · obtain ⟨r,x,L,rfl,_⟩:=h
    rfl
  obtain ⟨r,x,L,rfl,er0,dx,few,mild,q⟩:=h
  have nd:=sc_put_straights.nd
  have hu:=hu_of hr
  obtain ⟨la,xs,rfl,sa,da⟩:=ln_el dx
  have lx:=ln_len da
  have cm:∃ te,PE (cxOf CX0 P w K mg base n_put_straights "put_straights" (defScope s_put_straights) f cdv A outer s H E).nox (psArg ((defBody s_put_straights).getD 1 (.Pass ⟨0,0,0,0⟩))) te∧∀(Q':VK) (o0 o1 o2 o3:Option V) (p:Addr) (m h:Int) (b:Nat) (H3:Hp),H3 p=some (.tup [.int m,.int h])→m.natAbs≤4→
      (∀(D:Addr) (ys:List V) (gs:List Gr) (Ls:List (List St4)) (H4:Hp),Same H3 H4→H3 D=none→H4 D=some (.lst ys)→All2 (GrV H4) ys (gs.map (mvG b))→SR gs (Ls++[lineS m h])→ys.length≤24→Q' (.ref D) H4)→te [o0,o1,o2,o3,some (.ref p),some (.int (b:Int))] H3 Q':=by
    refine ⟨_,(pe_compF rfl (pi_list (pe_def D_straight_rows (hr.mono (by omega)) rfl (pa_cons (pe_ix ix_tup (pv 4) pe_int (fun _ _=>rfl)) (pa_cons (pe_ix ix_tup (pv 4) pe_int (fun _ _=>rfl)) pa_nil)))) rfl (by decide +kernel) (by decide +kernel) rfl (show ∀ p∈Scope.names _,p.2=NameKind.free→List.lookup p.1 (defScope s_put_straights).names=some .cell∨List.lookup p.1 (defScope s_put_straights).names=some .free by decide +kernel) (fa_cons (j:=5) rfl (Or.inl rfl) (by decide +kernel) (Or.inl rfl) fa_nil) (show (["row","by"]:List Str).Nodup by decide +kernel) (fun _ _ _ _=>pif_nil) (fun _ _ _ _=>(pe_def D_moved (hr.mono (by decide)) rfl (pa_cons (pv 0) (pa_cons (pv 1) pa_nil))))),?_⟩
    intro Q' o0 o1 o2 o3 p m h b H3 e3 m4 fin
    refine comp_from ?_
    refine ⟨_,rfl,_,_,_,_,rfl,rfl,SqT.of e3,rfl,_,rfl,_,_,_,_,rfl,rfl,SqT.of e3,rfl,m,h,rfl,by omega,fun l us gs Ls H1 R=>?_⟩
    have fw':us.length≤24:=Nat.le_trans R.few (by have:=Nat.mul_le_mul m4 (show m.natAbs+1≤5 by omega);omega)
    refine ⟨l,rfl,⟨us,SqL.of R.el⟩,?_⟩
    refine comp_listM (K:=K) (R0:=GrV) (R:=fun H' v g=>GrV H' v (mvG b g)) (xs:=us) (ts:=gs) (fun _ _ v t s h=>GrV.to (Kp.of s) v t h) (fun D _ _ v t sb nv h=>?_) (fun l' H'=>l'=l∧H'=H1) (fun R h=>h l _ ⟨rfl,rfl⟩) (fun l' H' h=>by obtain ⟨rfl,rfl⟩:=h;exact ⟨R.el,Same.refl _⟩) (by omega) R.al (fun v t H' N _ s' gv hN=>?_) (fun D ys H4 s4 hD eD al=>?_)
    · obtain ⟨a,rfl,e⟩:=h
      exact ⟨a,rfl,sb a _ e (fun z=>nv z)⟩
    · exact ⟨_,rfl,_,rfl,v,b,t,rfl,gv,fun a H'' s2 fa gv2=>hN (.ref a) H'' s2 (fun a' z=>by cases z;exact fa) gv2⟩
    · refine fin D ys gs Ls H4 (R.sm.trans s4) (R.sm.free hD) eD (all2_mapB al) R.sr (by rw [al.len,← R.al.len];exact fw')
  obtain ⟨tC,htC,hqC⟩:=cm
  refine ⟨_,(pss_cons (ps_set (i:=2) nd rfl (Or.inl rfl) pe_dnewT)
    (pss_cons (ps_for PassesOwn.never rfl (pi_tup (pv 1)) (pg_name (i:=3) nd rfl (Or.inl rfl)) (pss_cons (ps_set (i:=4) nd rfl (Or.inl rfl) (pe_slice sl_tupA (pv 3) (po_some pe_int) po_none))
    (pss_one (ps_if (pt_cmp (pc_dnotin hu (pv 4) (pv 2))) (pss_cons (ps_set (i:=5) nd rfl (Or.inr rfl) (pe_callB call_len rfl Z_len (by decide +kernel) (pa_cons (pv 0) pa_nil)))
    (pss_cons (ps_expr (pe_bm PySem.F.plainAttrs_list PySem.F.slot_list_extend PySem.F.type_list_extend mt_extend (pv 0) (pa_cons htC pa_nil)))
    (pss_one (ps_dput hu (pv 2) (pv 4) (pe_op op_sub (pe_callB call_len rfl Z_len (by decide +kernel) (pa_cons (pv 0) pa_nil)) pe_int) rfl)))) pss_nil))))
    (pss_one (ps_ret (pv 2))))),?_⟩
  intro d hd
  have ud:=same_new hd (.dT [])
  have ndr:d≠r:=fun z=>by rw [z,er0] at hd;cases hd
  have tst:∀{H':Hp},(∀ c o,H c=some o→c≠r→H' c=some o)→Tst H H':=fun sb=>⟨fun a ys e=>sb a _ e (fun z=>by rw [z,er0] at e;cases e),fun a o u e=>sb a _ e (fun z=>by rw [z,er0] at e;cases e)⟩
  refine ⟨_,rfl,la,rfl,⟨xs,sa.ts ud.ts⟩,?_⟩
  refine for_tup (xs:=xs) (fun i σ H'=>∃(o3 o4 o5:Option V) (kvs:List (List Key×V)) (us:List V) (gs:List Gr) (Ls:List (List St4)),σ=[some (.ref r),some (.ref la),some (.ref d),o3,o4,o5]∧Ps32 H H' r d L i kvs us gs Ls)
    ⟨_,_,_,[],[],[],[],rfl,⟨fun c o h _=>ud _ _ h,hd,ud _ _ er0,upd_same,.nil,SR.nil,Nat.le_refl _,Nat.le_refl _,(fun _ _ _ h=>by simp at h),(fun _ _ _ h=>by simp at h),(fun _ _ h=>by omega),fun z=>absurd rfl z⟩⟩ (fun i σ H' _ z=>?_) (fun i x σ H' hx z=>?_) (fun σ H' z=>?_)
  · obtain ⟨_,_,_,_,_,_,_,_,S⟩:=z
    exact sa.ts (tst S.sb)
  · obtain ⟨o3,o4,o5,kvs,us,gs,Ls,rfl,S⟩:=z
    obtain ⟨st,hst,dst⟩:=ln_at' (da.ts (tst S.sb)) hx
    obtain ⟨c,e,rfl,q1,d1⟩:=st_el dst
    have hi:i < L.length:=(List.getElem?_eq_some_iff.mp hst).1
    have mem:=List.mem_of_getElem? hst
    have lk:=S.lk
    have lu:=S.lu
    refine ⟨_,rfl,_,rfl,?_⟩
    refine noPart32 ?_
    refine sl1Q (K:=K) q1 fun p1 hp1=>?_
    have u1:=same_new hp1 (.tup [.int st.m,.int st.h])
    have ep1:upd H' p1 (.tup [.int st.m,.int st.h]) p1=some (.tup ((kRule st).map kV)):=upd_same
    have sb1:∀ c o,H c=some o→c≠r→upd H' p1 (.tup [.int st.m,.int st.h]) c=some o:=fun c o h1 h2=>u1 _ _ (S.sb c o h1 h2)
    have al1:=S.al.imp (GrV.to (Kp.of u1))
    have er1:=u1 _ _ S.er
    have ed1:=u1 _ _ S.ed
    generalize upd H' p1 (.tup [.int st.m,.int st.h])=H1 at ep1 sb1 al1 er1 ed1 ⊢
    refine ⟨_,rfl,_,rfl,d,_,rfl,DGet.t ed1 ep1,_,rfl,ite2 (fun z=>?_) (fun z=>?_)⟩
    · have hn:valV kvs (kRule st)=none:=by
        cases e:valV kvs (kRule st) with
        | none=>rfl
        | some v=>rw [e] at z;cases z
      refine ⟨_,rfl,_,_,rfl,.inl ⟨_,SqL.of er1,rfl⟩,?_⟩
      refine ⟨_,rfl,.inl ⟨rfl,_,SqL.of er1⟩,?_⟩
      refine hqC _ _ _ _ _ p1 st.m st.h us.length H1 ep1 (mild st mem) fun D ys gs' Ls' H4 s4 hD eD al' sr' l24=>?_
      have er4:=s4 _ _ er1
      have ed4:=s4 _ _ ed1
      refine ⟨r,D,us,ys,rfl,rfl,er4,eD,(Nat.le_trans (show us.length+ys.length≤200 by omega) (by decide)),?_⟩
      have k5:Kp H4 (upd H4 r (.lst (us++ys))):=kp_mut er4 rfl
      have er5:upd H4 r (.lst (us++ys)) r=some (.lst (us++ys)):=upd_same
      have ed5:upd H4 r (.lst (us++ys)) d=some (.dT kvs):=by rw [upd_ne ndr];exact ed4
      have ep5:upd H4 r (.lst (us++ys)) p1=some (.tup ((kRule st).map kV)):=k5 _ _ (s4 _ _ ep1) rfl
      have al5:All2 (GrV (upd H4 r (.lst (us++ys)))) (us++ys) (gs++gs'.map (mvG us.length)):=((al1.imp (GrV.to (Kp.of s4))).imp (GrV.to k5)).app (al'.imp (GrV.to k5))
      have sb5:∀ c o,H c=some o→c≠r→upd H4 r (.lst (us++ys)) c=some o:=fun c o h1 h2=>by rw [upd_ne h2];exact s4 _ _ (sb1 c o h1 h2)
      generalize upd H4 r (.lst (us++ys))=H5 at er5 ed5 ep5 al5 sb5 ⊢
      refine ⟨_,rfl,_,_,rfl,.inl ⟨_,SqL.of er5,rfl⟩,_,_,rfl,rfl,_,rfl,_,rfl,d,_,rfl,DPut.t ed5 ep5 (Nat.lt_of_le_of_lt (show kvs.length≤100 by omega) (by decide)),?_⟩
      have lg:=S.al.len
      have srA:=S.sr.app sr'
      rw [← lg] at srA
      have lr:=srA.rl.1
      have lal:=al5.len
      have y1:1≤ys.length:=by
        have h1:=sr'.rl.1
        have h2:=al'.len
        rw [List.length_map] at h2
        simp at h1
        omega
      have k6:Kp H5 (upd H5 d (.dT (putK kvs (kRule st) (.int ((((us++ys).length:Nat):Int) - 1))))):=kp_mut ed5 rfl
      have cp:((((us++ys).length:Nat):Int) - 1)=((((us++ys).length - 1:Nat)):Int):=by simp;omega
      rw [cp] at k6
      dsimp only
      rw [cp]
      rw [put_new hn] at k6 ⊢
      have pl1:(Ls++(Ls'++[lineS st.m st.h]))[(us++ys).length - 1]?=some (lineS st.m st.h):=by
        rw [← List.append_assoc]
        rw [← List.append_assoc] at lr
        have:(us++ys).length - 1=(Ls++Ls').length:=by
          rw [List.length_append (as:=Ls++Ls')] at lr
          simp only [List.length_cons,List.length_nil] at lr
          omega
        rw [this,List.getElem?_concat_length]
      refine ⟨_,_,_,kvs++[(kRule st,.int (((us++ys).length - 1:Nat):Int))],us++ys,_,_,rfl,⟨fun c o h1 h2=>?_,S.fd,?_,upd_same,al5.imp (GrV.to k6),srA,?_,?_,fun j k v hj=>?_,fun j k v hj=>?_,fun j s hj hs=>?_,fun _=>⟨kRule st,by simp,by simp;omega⟩⟩⟩
      · rw [upd_ne (fun z=>by rw [z,S.fd] at h1;cases h1)];exact sb5 c o h1 h2
      · rw [upd_ne (Ne.symm ndr)];exact er5
      · simp;omega
      · simp;omega
      · rcases Nat.lt_or_ge j kvs.length with z | z
        · rw [List.getElem?_append_left z] at hj
          obtain ⟨s,pl,h1,h2,h3,h4⟩:=S.ks j k v hj
          exact ⟨s,pl,h1,h2,h3,keep _ h4⟩
        · rw [List.getElem?_append_right z] at hj
          have ej:j - kvs.length=0:=by have:=(List.getElem?_eq_some_iff.mp hj).1;simp at this;omega
          rw [ej] at hj
          cases hj
          exact ⟨st,_,mem,rfl,rfl,pl1⟩
      · rw [valV_snoc _ _ _ _ hn]
        rcases Nat.lt_or_ge j kvs.length with z | z
        · rw [List.getElem?_append_left z] at hj
          have ow:=S.own j k v hj
          rw [if_neg (fun z2=>by rw [z2,hn] at ow;cases ow)]
          exact ow
        · rw [List.getElem?_append_right z] at hj
          have ej:j - kvs.length=0:=by have:=(List.getElem?_eq_some_iff.mp hj).1;simp at this;omega
          rw [ej] at hj
          cases hj
          rw [if_pos rfl]
      · rw [valV_snoc _ _ _ _ hn]
        by_cases c:kRule s=kRule st
        · exact ⟨_,by rw [if_pos c]⟩
        · rw [if_neg c]
          rcases Nat.lt_or_ge j i with z | z
          · exact S.has j s z hs
          · have:j=i:=by omega
            subst this
            rw [hst] at hs
            cases hs
            exact absurd rfl c
    · have hs':∃ v,valV kvs (kRule st)=some v:=by
        cases e:valV kvs (kRule st) with
        | none=>rw [e] at z;exact absurd rfl z
        | some v=>exact ⟨v,rfl⟩
      refine ⟨_,_,_,kvs,us,gs,Ls,rfl,⟨sb1,S.fd,er1,ed1,al1,S.sr,by omega,S.lu,S.ks,S.own,fun j s hj hs=>?_,S.la⟩⟩
      rcases Nat.lt_or_ge j i with z | z
      · exact S.has j s z hs
      · have:j=i:=by omega
        subst this
        rw [hst] at hs
        cases hs
        exact hs'
  · obtain ⟨o3,o4,o5,kvs,us,gs,Ls,rfl,S⟩:=z
    rw [lx] at S
    exact ⟨_,rfl,q d kvs us gs Ls H' S⟩
end
end Mine
namespace Mine
open PySem L2
local macro_rules | `(tactic| walk_at "mul") => `(tactic| first | exact mulS (by assumption) (by assumption) | exact mulS (by first | assumption | exact sm_of (by omega) | exact sm_of (by decide) | exact sm_mod (by decide) (by decide)) (by first | assumption | exact sm_of (by omega) | exact sm_of (by decide) | exact sm_mod (by decide) (by decide)))
local macro_rules | `(tactic| walk_at "rd1") => `(tactic| first
  | refine ⟨_,rfl,?_⟩
  | refine ⟨_,_,rfl,rfl,?_⟩
  | (refine' ⟨_,_,_,_,rfl,rfl,?sq,?ia,?k⟩;(case' sq=>first | assumption | exact Scr.l (by assumption));(case' ia=>first | rfl | assumption))
  | refine ⟨rfl,?_⟩
  | (refine ⟨?m,?_⟩;(case' m=>walk_at "mul"))
  | (refine ⟨?m,?_⟩;(case' m=>exact div_ok (by first | assumption | omega) (by assumption)))
  | (refine ⟨?m,?_⟩;(case' m=>show (0:Int) < _;decide))
  | (refine ⟨?m,?_⟩;(case' m=>exact ⟨by decide,by decide⟩))
  | (refine ⟨?m,?_⟩;(case' m=>exact ⟨by decide,by decide,by decide⟩)))
local macro_rules | `(tactic| walk_at "rd") => `(tactic| repeat walk_at "rd1")
noncomputable def hgD (s:St4) (p q:Int):PyData:=frD (Lo.lowT (s.m*p+s.h*q) q) (Lo.lowB (s.m*p+s.h*q) q)
noncomputable def spTol32 (K:PySem.W.Frag):Sp:=fun vs H Q _=>∃(x y:V) (s:St4) (p q:Int),vs=[x,y]∧Dat K H (stD s) x∧Dat K H (frD p q) y∧0 < q∧Sm p∧Sm q∧Sm s.m∧Sm s.h∧∀ v H',Same H H'→Dat K H' (hgD s p q) v→Q v H'
section
variable {P:Program} {w:World} {K:PySem.W.Frag} {mg:Str→Option Value} {base:Heap}
theorem ok_told (T:TopDef K mg "told_by_stretch" s_told_by_stretch) (D_fraction:Def P w K mg base 2 "fraction" ["top","bottom"] spLow):Def P w K mg base 3 "told_by_stretch" ["stretch","x"] (spTol32 K):=by
  refine def_of T sc_told_by_stretch (fun _ _ _ _ _ _ us hl=>match us,hl with | [_,_],_=>rfl) (fun vs H Q E h=>?_) (fun f cdv A outer s H vs Q E hr h=>?_)
  · obtain ⟨x,y,s,p,q,rfl,_⟩:=h
    rfl
  obtain ⟨x,y,s,p,q,rfl,hx,hy,q0,b1,b2,b3,b4,k⟩:=h
  obtain ⟨a,e,rfl,sa,_⟩:=st_el hx
  obtain ⟨c,rfl,sc⟩:=fr_el hy
  have nd:=sc_told_by_stretch.nd
  refine ⟨_,(pss_one (ps_ret (pe_def D_fraction (hr.mono (by decide)) rfl (pa_cons (pe_op op_add (pe_op op_mulK (pe_ix ix_tup (pv 0) pe_int (fun _ _=>rfl)) (pe_ix ix_tup (pv 1) pe_int (fun _ _=>rfl))) (pe_op op_mulK (pe_ix ix_tup (pv 0) pe_int (fun _ _=>rfl)) (pe_ix ix_tup (pv 1) pe_int (fun _ _=>rfl)))) (pa_cons (pe_ix ix_tup (pv 1) pe_int (fun _ _=>rfl)) pa_nil))))),?_⟩
  walk_at "rd"
  exact ⟨_,q,rfl,by omega,b2,fun z H' sm e=>k _ _ sm (fr_mk (SqT.of e))⟩
end
noncomputable def spOutside (K:PySem.W.Frag):Sp:=fun vs H Q _=>∃(x:V) (p q:Int),vs=[x]∧Dat K H (frD p q) x∧Sm p∧Sm q∧Q (.bl (decide (p < 0∨q < p))) H
section
variable {P:Program} {w:World} {K:PySem.W.Frag} {mg:Str→Option Value} {base:Heap}
theorem ok_outside (T:TopDef K mg "is_outside" s_is_outside) (TN:TopTup K mg "NOUGHT" [0,1]) (TW:TopTup K mg "WHOLE" [1,1]) (D_less:Def P w K mg base 1 "less" ["one","other"] (spLess K)):Def P w K mg base 2 "is_outside" ["x"] (spOutside K):=by
  refine def_of T sc_is_outside (fun _ _ _ _ _ _ us hl=>match us,hl with | [_],_=>rfl) (fun vs H Q E h=>?_) (fun f cdv A outer s H vs Q E hr h=>?_)
  · obtain ⟨x,p,q,rfl,_⟩:=h
    rfl
  obtain ⟨x,p,q,rfl,hx,b1,b2,k⟩:=h
  have nd:=sc_is_outside.nd
  obtain ⟨aN,M_NOUGHT,qN⟩:=TN.ex
  obtain ⟨aW,M_WHOLE,qW⟩:=TW.ex
  refine ⟨_,(pss_one (ps_ret (pe_or (pe_def D_less (hr.mono (by decide)) rfl (pa_cons (pv 0) (pa_cons (pe_glob (v:=V.ref aN) rfl M_NOUGHT rfl) pa_nil))) (pe_one (pe_def D_less (hr.mono (by decide)) rfl (pa_cons (pe_glob (v:=V.ref aW) rfl M_WHOLE rfl) (pa_cons (pv 0) pa_nil))))))),?_⟩
  have s0:Sm 0:=sm_of (by decide)
  have s1:Sm 1:=sm_of (by decide)
  refine ⟨_,rfl,_,_,p,q,0,1,rfl,hx,fr_mk (qN H),b1,b2,s0,s1,_,rfl,?_⟩
  refine ite2 (fun c=>?_) (fun c=>?_)
  · have c':p*1 < 0*q:=of_decide_eq_true c
    rw [decide_eq_true (show p < 0∨q < p from .inl (by omega))] at k
    exact k
  · have c':¬p*1 < 0*q:=fun z=>c (decide_eq_true z)
    refine ⟨_,rfl,_,_,1,1,p,q,rfl,fr_mk (qW H),hx,s1,s1,b1,b2,?_⟩
    have e:decide (1*q < p*1)=decide (p < 0∨q < p):=by
      by_cases z:q < p
      · rw [decide_eq_true (show 1*q < p*1 by omega),decide_eq_true (show p < 0∨q < p from .inr z)]
      · rw [decide_eq_false (show ¬1*q < p*1 by omega),decide_eq_false (show ¬ (p < 0∨q < p) by omega)]
    rw [e]
    exact k
end
section
variable {P:Program} {w:World} {K:PySem.W.Frag} {mg:Str→Option Value} {base:Heap}
structure Bk (n:Nat) (L:List St4):Prop where
  b:Ln.LineB n L
  i:Inn L
  few:L.length≤6
  mild:∀ s∈L,s.m.natAbs≤4
noncomputable def spIsOut32 (K:PySem.W.Frag):Sp:=fun vs H Q _=>∃(x y:V) (s:St4) (p q:Int),vs=[x,y]∧Dat K H (stD s) x∧Dat K H (frD p q) y∧0 < q∧0 < s.q∧Sm p∧Sm q∧Sm s.m∧Sm s.h∧Sm s.p∧Sm s.q∧(0≤s.at p q∧s.at p q≤q)∧(0≤s.at s.p s.q∧s.at s.p s.q≤s.q)∧∀ H',Same H H'→Q (.bl false) H'
noncomputable def spStay32 (K:PySem.W.Frag):Sp:=fun vs H Q _=>∃(x:V) (n:Nat) (L:List St4),vs=[x]∧n≤100∧Dat K H (lnD L) x∧Bk n L∧∀ H',Same H H'→Q .non H'
theorem low_in {t q:Int} (hq:0 < q) (h:0≤t∧t≤q):decide (Lo.lowT t q < 0∨Lo.lowB t q < Lo.lowT t q)=false:=by
  have e1:=Lo.lowT_eq t q
  have e2:=Lo.lowB_eq t q
  have g:=Lo.sg_pos (t:=t) hq
  refine decide_eq_false fun z=>?_
  rcases z with z | z
  · have:=Int.mul_neg_of_pos_of_neg g z
    omega
  · have:=Int.mul_lt_mul_of_pos_left z g
    omega
theorem ok_isOut32 (T:TopDef K mg "is_out" s_is_out) (D_is_outside:Def P w K mg base 2 "is_outside" ["x"] (spOutside K)) (D_told_by_stretch:Def P w K mg base 3 "told_by_stretch" ["stretch","x"] (spTol32 K)):Def P w K mg base 4 "is_out" ["stretch","start"] (spIsOut32 K):=by
  refine def_of T sc_is_out (fun _ _ _ _ _ _ us hl=>match us,hl with | [_,_],_=>rfl) (fun vs H Q E h=>?_) (fun f cdv A outer s H vs Q E hr h=>?_)
  · obtain ⟨x,y,s,p,q,rfl,_⟩:=h
    rfl
  obtain ⟨x,y,st,p,q,rfl,dx,dy,q0,sq0,b1,b2,b3,b4,b5,b6,i1,i2,k⟩:=h
  have nd:=sc_is_out.nd
  obtain ⟨a,e,rfl,sa,de⟩:=st_el dx
  have sm1:∀{t r:Int},0 < r→Sm r→0≤t∧t≤r→Sm (Lo.lowT t r)∧Sm (Lo.lowB t r):=fun {t r} h0 hs ht=>by
    have h1:=Lo.lowT_le (t:=t) (show r≠0 by omega)
    have h2:=Lo.lowB_le (t:=t) (show r≠0 by omega)
    unfold Sm at *
    exact ⟨by omega,by omega⟩
  refine ⟨_,(pss_one (ps_ret (pe_or (pe_def D_is_outside (hr.mono (by decide)) rfl (pa_cons (pe_def D_told_by_stretch (hr.mono (by decide)) rfl (pa_cons (pv 0) (pa_cons (pv 1) pa_nil))) pa_nil)) (pe_one (pe_def D_is_outside (hr.mono (by decide)) rfl (pa_cons (pe_def D_told_by_stretch (hr.mono (by decide)) rfl (pa_cons (pv 0) (pa_cons (pe_ix ix_tup (pv 0) pe_int (fun _ _=>rfl)) pa_nil))) pa_nil)))))),?_⟩
  refine ⟨_,rfl,_,rfl,_,y,st,p,q,rfl,dx,dy,q0,b1,b2,b3,b4,fun v1 H1 s1 d1=>?_⟩
  have z1:=sm1 q0 b2 i1
  refine ⟨v1,_,_,rfl,d1,z1.1,z1.2,_,rfl,?_⟩
  have f1:=low_in q0 i1
  unfold St4.at at f1
  rw [f1]
  refine iteF ?_
  refine ⟨_,rfl,_,rfl,_,_,_,_,rfl,rfl,sa.ts s1.ts,rfl,_,e,st,st.p,st.q,rfl,dx.ts s1.ts,de.ts s1.ts,sq0,b5,b6,b3,b4,fun v2 H2 s2 d2=>?_⟩
  have z2:=sm1 sq0 b6 i2
  refine ⟨v2,_,_,rfl,d2,z2.1,z2.2,?_⟩
  have f2:=low_in sq0 i2
  unfold St4.at at f2
  rw [f2]
  exact k H2 (s1.trans s2)
theorem sm_pow {x:Int} {n:Nat} (hn:n≤100) (h:x.natAbs < 2 ^ n):Sm x:=Nat.lt_of_lt_of_le h (Nat.pow_le_pow_right (by decide) (by omega))
theorem okb_sm {n:Nat} {s:St4} (hn:n≤100) (h:Ln.OkB n s):Sm s.p∧Sm s.q∧Sm s.m∧Sm s.h∧0 < s.q:=by
  obtain ⟨h1,h2,_,h4,h5,h6⟩:=h
  exact ⟨sm_pow hn (Nat.lt_of_le_of_lt (show s.p.natAbs≤s.q.natAbs by omega) h4),sm_pow hn h4,sm_pow hn h5,sm_pow hn h6,by omega⟩
theorem beg_sm {n:Nat} {L:List St4} (hn:n≤100) (l:Ln.LineB n L) (k:Nat):Sm (beg L k).1∧Sm (beg L k).2:=by
  have c0:Sm 0:=sm_of (by decide)
  have c1:Sm 1:=sm_of (by decide)
  cases k with
  | zero=>exact ⟨c0,c1⟩
  | succ k =>
    cases e:L[k]? with
    | none=>rw [beg_none e];exact ⟨c0,c1⟩
    | some s=>rw [beg_succ e];have:=okb_sm hn (l.ok s (List.mem_of_getElem? e));exact ⟨this.1,this.2.1⟩
theorem ok_stay32 (T:TopDef K mg "must_stay" s_must_stay) (Z_enumerate:mg "enumerate"=none) (TN:TopTup K mg "NOUGHT" [0,1]) (D_is_out:Def P w K mg base 4 "is_out" ["stretch","start"] (spIsOut32 K)):Def P w K mg base 5 "must_stay" ["line"] (spStay32 K):=by
  refine def_of T sc_must_stay (fun _ _ _ _ _ _ us hl=>match us,hl with | [_],_=>rfl) (fun vs H Q E h=>?_) (fun f cdv A outer s H vs Q E hr h=>?_)
  · obtain ⟨x,n,L,rfl,_⟩:=h
    rfl
  obtain ⟨x,n,L,rfl,hn,dx,bk,k⟩:=h
  have nd:=sc_must_stay.nd
  obtain ⟨aN,M_NOUGHT,qN⟩:=TN.ex
  obtain ⟨a,xs,rfl,sa,da⟩:=ln_el dx
  refine ⟨_,(pss_cons (ps_set (i:=1) nd rfl (Or.inl rfl) (pe_glob (v:=V.ref aN) rfl M_NOUGHT rfl))
    (pss_one (ps_for PassesOwn.never rfl (pi_enumT rfl Z_enumerate (pv 0)) (pg_tup rfl (pgs_cons (pg_name (i:=2) nd rfl (Or.inl rfl)) (pgs_cons (pg_name (i:=3) nd rfl (Or.inl rfl)) pgs_nil))) (pss_cons (ps_if (pt_val (pe_def D_is_out (hr.mono (by decide)) rfl (pa_cons (pv 3) (pa_cons (pv 1) pa_nil)))) (pss_one ps_dead) pss_nil)
    (pss_one (ps_set (i:=1) nd rfl (Or.inl rfl) (pe_ix ix_tup (pv 3) pe_int (fun _ _=>rfl)))))))),?_⟩
  refine ⟨_,rfl,a,rfl,⟨xs,sa⟩,?_⟩
  refine for_enumT (xs:=xs) (fun i σ H'=>Same H H'∧∃ t o2 o3,σ=[some (.ref a),some t,o2,o3]∧Dat K H' (frD (beg L i).1 (beg L i).2) t) ⟨Same.refl _,_,_,_,rfl,fr_mk (qN H)⟩ (fun i σ H' _ h=>sa.ts h.1.ts) (fun i x T' σ H' hx h hT=>?_) (fun σ H' h=>?_)
  · obtain ⟨sm',t,o2,o3,rfl,dt⟩:=h
    obtain ⟨st,hst,dst⟩:=ln_at' (da.ts sm'.ts) hx
    have u1:=same_new hT (.tup [.int i,x])
    have ds:=dst.ts u1.ts
    obtain ⟨c,e,rfl,q1,d1⟩:=st_el ds
    obtain ⟨m1,m2,m3,m4,m5⟩:=okb_sm hn (bk.b.ok st (List.mem_of_getElem? hst))
    obtain ⟨b1,b2⟩:=beg_sm hn bk.b i
    refine ⟨T',_,rfl,SqT.of upd_same,rfl,_,_,rfl,_,_,rfl,rfl,?_⟩
    refine ⟨_,rfl,_,rfl,_,t,st,(beg L i).1,(beg L i).2,rfl,ds,dt.ts u1.ts,beg_pos bk.b i,m5,b1,b2,m3,m4,m1,m2,beg_in bk.b bk.i hst,end_in bk.b bk.i hst,fun H2 s2=>⟨_,rfl,iteF ?_⟩⟩
    refine ⟨_,rfl,_,_,_,_,rfl,rfl,q1.ts s2.ts,rfl,(sm'.trans u1).trans s2,e,_,_,rfl,?_⟩
    rw [beg_succ hst]
    exact d1.ts s2.ts
  · exact k _ h.1
theorem ok_back32 {tm ts:Tok} (T:TopDef K mg "must_lead_back" s_must_lead_back) (Z_enumerate:mg "enumerate"=none) (Z_len:mg "len"=none) (Z_abs:mg "abs"=none) (M_MOST_STRETCHES:mg "MOST_STRETCHES"=some (.int 6 tm)) (M_STEEPEST_backs:mg "STEEPEST_backs"=some (.int 4 ts)) (D_must_stay:Def P w K mg base 5 "must_stay" ["line"] (spStay32 K)):Def P w K mg base 6 "must_lead_back" ["line"] (spStay32 K):=by
  refine def_of T sc_must_lead_back (fun _ _ _ _ _ _ us hl=>match us,hl with | [_],_=>rfl) (fun vs H Q E h=>?_) (fun f cdv A outer s H vs Q E hr h=>?_)
  · obtain ⟨x,n,L,rfl,_⟩:=h
    rfl
  obtain ⟨x,n,L,rfl,hn,dx,bk,k⟩:=h
  have nd:=sc_must_lead_back.nd
  obtain ⟨a,xs,rfl,sa,da⟩:=ln_el dx
  have lx:=ln_len da
  have few:=bk.few
  refine ⟨_,(pss_cons (ps_expr (pe_def D_must_stay (hr.mono (by decide)) rfl (pa_cons (pv 0) pa_nil)))
    (pss_cons (ps_if (pt_cmpR op_gt (pe_callB call_len rfl Z_len (by decide +kernel) (pa_cons (pv 0) pa_nil)) (pe_glob (v:=V.int 6) rfl M_MOST_STRETCHES ⟨_,rfl⟩) (nomark _)) (pss_one ps_dead) pss_nil)
    (pss_one (ps_for PassesOwn.never rfl (pi_enumT rfl Z_enumerate (pv 0)) (pg_tup rfl (pgs_cons (pg_name (i:=1) nd rfl (Or.inl rfl)) (pgs_cons (pg_name (i:=2) nd rfl (Or.inl rfl)) pgs_nil))) (pss_one (ps_if (pt_cmpR op_gt (pe_callB call_abs rfl Z_abs (by decide +kernel) (pa_cons (pe_ix ix_tup (pv 2) pe_int (fun _ _=>rfl)) pa_nil)) (pe_glob (v:=V.int 4) rfl M_STEEPEST_backs ⟨_,rfl⟩) (nomark _)) (pss_one ps_dead) pss_nil)))))),?_⟩
  refine ⟨_,rfl,_,n,L,rfl,hn,dx,bk,fun H1 s1=>?_⟩
  refine ⟨_,rfl,_,_,rfl,.inr ⟨_,sa.ts s1.ts,rfl⟩,_,_,rfl,rfl,_,rfl,ite2 (fun c=>?_) (fun _=>?_)⟩
  · have c:=of_decide_eq_true c
    exfalso
    omega
  refine ⟨_,rfl,a,rfl,⟨xs,sa.ts s1.ts⟩,?_⟩
  refine for_enumT (xs:=xs) (fun i σ H'=>Same H H'∧∃ o1 o2,σ=[some (.ref a),o1,o2]) ⟨s1,_,_,rfl⟩ (fun i σ H' _ h=>sa.ts h.1.ts) (fun i x T' σ H' hx h hT=>?_) (fun σ H' h=>?_)
  · obtain ⟨sm',o1,o2,rfl⟩:=h
    obtain ⟨st,hst,dst⟩:=ln_at' (da.ts sm'.ts) hx
    have u1:=same_new hT (.tup [.int i,x])
    obtain ⟨c,e,rfl,q1,d1⟩:=st_el (dst.ts u1.ts)
    have mi:=bk.mild st (List.mem_of_getElem? hst)
    refine ⟨T',_,rfl,SqT.of upd_same,rfl,_,_,rfl,_,_,rfl,rfl,?_⟩
    refine ⟨_,rfl,_,_,_,_,rfl,rfl,q1,rfl,_,rfl,_,_,rfl,rfl,_,rfl,ite2 (fun c=>?_) (fun _=>?_)⟩
    · have c:=of_decide_eq_true c
      rw [abs_is] at c
      exfalso
      omega
    · exact ⟨sm'.trans u1,_,_,rfl⟩
  · exact k _ h.1
end
end Mine
namespace Mine
open PySem L2
noncomputable def blwV (m h:Int) (s:St4) (p q:Int):Bool:=decide ((m - s.m)*p+(h - s.h)*q < 0)
noncomputable def Sm32 (m h:Int) (s:St4):Prop:=m.natAbs≤2000∧h.natAbs≤2000∧s.m.natAbs≤2000∧s.h.natAbs≤2000∧s.p.natAbs≤2000∧s.q.natAbs≤2000
noncomputable def spBelowAt32 (K:PySem.W.Frag):Sp:=fun vs H Q _=>∃(b:Addr) (v x:V) (m h:Int) (s:St4) (p q:Int),vs=[.ref b,v,x]∧H b=some (.tup [.int m,.int h])∧Dat K H (stD s) v∧Dat K H (frD p q) x∧Sm32 m h s∧p.natAbs≤2000∧q.natAbs≤2000∧Q (.bl (blwV m h s p q)) H
noncomputable def spBelow32 (K:PySem.W.Frag):Sp:=fun vs H Q _=>∃(b:Addr) (v x:V) (m h:Int) (s:St4) (p q:Int),vs=[.ref b,v,x]∧H b=some (.tup [.int m,.int h])∧Dat K H (stD s) v∧Dat K H (frD p q) x∧Sm32 m h s∧p.natAbs≤2000∧q.natAbs≤2000∧Q (.bl (blwV m h s p q || blwV m h s s.p s.q)) H
section
variable {P:Program} {w:World} {K:PySem.W.Frag} {mg:Str→Option Value} {base:Heap}
theorem ok_belowAt32 (T:TopDef K mg "is_below_at" s_is_below_at):Def P w K mg base 1 "is_below_at" ["rule","stretch","x"] (spBelowAt32 K):=by
  refine def_of T sc_is_below_at (fun _ _ _ _ _ _ us hl=>match us,hl with | [_,_,_],_=>rfl) (fun vs H Q E h=>?_) (fun f cdv A outer s H vs Q E hr h=>?_)
  · obtain ⟨b,v,x,m,h,s,p,q,rfl,_⟩:=h
    rfl
  obtain ⟨b,v,x,m,h,st,p,q,rfl,eb,dv,dx,⟨s1,s2,s3,s4,s5,s6⟩,s7,s8,k⟩:=h
  have nd:=sc_is_below_at.nd
  have sb:SqT K H b [.int m,.int h]:=SqT.of eb
  obtain ⟨c,e,rfl,sc,_⟩:=st_el dv
  obtain ⟨a,rfl,sa⟩:=fr_el dx
  have m1:Sm (m - st.m):=sm_of (by omega)
  have m2:Sm (h - st.h):=sm_of (by omega)
  have m3:Sm p:=sm_of (by omega)
  have m4:Sm q:=sm_of (by omega)
  refine ⟨_,(pss_one (ps_ret (pe_cmpR op_lt (pe_op op_add (pe_op op_mulK (pe_op op_sub (pe_ix ix_tup (pv 0) pe_int (fun _ _=>rfl)) (pe_ix ix_tup (pv 1) pe_int (fun _ _=>rfl))) (pe_ix ix_tup (pv 2) pe_int (fun _ _=>rfl))) (pe_op op_mulK (pe_op op_sub (pe_ix ix_tup (pv 0) pe_int (fun _ _=>rfl)) (pe_ix ix_tup (pv 1) pe_int (fun _ _=>rfl))) (pe_ix ix_tup (pv 2) pe_int (fun _ _=>rfl)))) pe_int (nomark _)))),?_⟩
  refine ⟨_,rfl,_,_,_,_,rfl,rfl,sb,rfl,_,rfl,_,_,_,_,rfl,rfl,sc,rfl,_,_,rfl,rfl,_,rfl,_,_,_,_,rfl,rfl,sa,rfl,_,_,rfl,rfl,mulS m1 m3,_,rfl,_,_,_,_,rfl,rfl,sb,rfl,_,rfl,_,_,_,_,rfl,rfl,sc,rfl,_,_,rfl,rfl,_,rfl,_,_,_,_,rfl,rfl,sa,rfl,_,_,rfl,rfl,mulS m2 m4,_,_,rfl,rfl,_,_,rfl,rfl,k⟩
theorem ok_below32 (T:TopDef K mg "is_below" s_is_below) (D_is_below_at:Def P w K mg base 1 "is_below_at" ["rule","stretch","x"] (spBelowAt32 K)):Def P w K mg base 2 "is_below" ["rule","stretch","start"] (spBelow32 K):=by
  refine def_of T sc_is_below (fun _ _ _ _ _ _ us hl=>match us,hl with | [_,_,_],_=>rfl) (fun vs H Q E h=>?_) (fun f cdv A outer s H vs Q E hr h=>?_)
  · obtain ⟨b,v,x,m,h,s,p,q,rfl,_⟩:=h
    rfl
  obtain ⟨b,v,x,m,h,st,p,q,rfl,eb,dv,dx,S,s7,s8,k⟩:=h
  have nd:=sc_is_below.nd
  obtain ⟨c,e,rfl,sc,de⟩:=st_el dv
  refine ⟨_,(pss_one (ps_ret (pe_or (pe_def D_is_below_at (hr.mono (by decide)) rfl (pa_cons (pv 0) (pa_cons (pv 1) (pa_cons (pv 2) pa_nil)))) (pe_one (pe_def D_is_below_at (hr.mono (by decide)) rfl (pa_cons (pv 0) (pa_cons (pv 1) (pa_cons (pe_ix ix_tup (pv 1) pe_int (fun _ _=>rfl)) pa_nil)))))))),?_⟩
  refine ⟨_,rfl,_,rfl,_,rfl,b,_,x,m,h,st,p,q,rfl,eb,dv,dx,S,s7,s8,_,rfl,?_⟩
  refine ite2 (fun z=>?_) (fun z=>?_)
  · rw [z,Bool.true_or] at k
    exact k
  · rw [Bool.not_eq_true] at z
    rw [z,Bool.false_or] at k
    exact ⟨_,rfl,_,rfl,_,rfl,_,_,_,_,rfl,rfl,sc,rfl,b,_,e,m,h,st,st.p,st.q,rfl,eb,dv,de,S,S.2.2.2.2.1,S.2.2.2.2.2,k⟩
end
end Mine
namespace L2
open PySem PySem.Spec PyProof.Rows
section
variable {prog:Program} {w:World} {A:Around} {E:Value→Shared→Prop} {s:Shared}
structure EsAt (h:Heap) (d:Addr) (es:Array DictEntry) (ep:Nat):Prop where
  ex:∃ o,h.get? d=some o∧o.ExactDict∧o.data=.dict es ep
theorem EsAt.ty {d:Addr} {es:Array DictEntry} {ep:Nat} (x:EsAt s.heap d es ep):s.TypeIs (.ref d) "dict":=by
  obtain ⟨o,ho,hc,_⟩:=x.ex
  exact ⟨o,ho,hc.1⟩
theorem es_iter {d:Addr} {es:Array DictEntry} {ep:Nat} {Q:Value→Shared→Prop} (hd:(d == sysModules)=false) (x:EsAt s.heap d es ep)
    (q:Q (.ref s.heap.objs.size) {s with heap:=s.heap.push {cls:=.type "dict_keyiterator",data:=.fields #[.ref d,.int 0 0,.int es.size 0,.int ep 0] } }):wpAny (model prog w) A (pyIter (.ref d)) Q E s:=by
  have ty:=x.ty
  obtain ⟨o,ho,hc,dat⟩:=x.ex
  refine wpAny_pyIter_slot ty F.slot_dict_iter (wpAny_call_entry F.slot_dict_iter ty F.entry_dict_iter ?_ (F.args_dict_iter_1 _))
  show wpAny _ _ (Builtin.Dict.dictSlotNone _ _ >>= _) _ _ s
  unfold Builtin.Dict.dictSlotNone
  refine wpAny_bind (wpAny_bind (wpAny_notOrdered_dict ty (wpAny_pure ?_)))
  have no:¬ ((d == sysModules)=true):=by rw [hd];exact Bool.false_ne_true
  show wpAny _ _ (Builtin.Dict.showsAll d >>= _) _ _ s
  unfold Builtin.Dict.showsAll
  rw [if_neg no]
  refine wpAny_bind (wpAny_pure (wpAny_bind (wpAny_dictEntries ho dat (wpAny_bind (wpAny_dictEpoch ho dat (wpAny_bind (wpAny_newObj_type (wpAny_pure ⟨_,rfl,"dict_keyiterator",_,⟨_,Heap.get?_push_size _ rfl,rfl⟩,F.slot_dict_keyiterator_next.lookup,?_⟩))))))))
  simpa [rawInt] using q
theorem es_next {it d:Addr} {i ep:Nat} {es:Array DictEntry} {Q:Option Value→Shared→Prop} (hh:A.handled=none) (k:s.heap.IsKeyIter it d i es.size ep) (x:EsAt s.heap d es ep)
    (q1:∀ e h',es[i]?=some e→h'.IsKeyIter it d (i+1) es.size ep→Heap.SameBut it s.heap h'→Q (some e.key) {s with heap:=h' })
    (q2:∀ h',es[i]?=none→Heap.ExtBut it s.heap h'→Q none {s with heap:=h' }):wpAny (model prog w) A (pyNext (.ref it)) Q E s:=by
  have ty:=k.typeIs
  obtain ⟨io,hio,ic,idt⟩:=id k
  obtain ⟨o,ho,hc,dat⟩:=x.ex
  unfold pyNext
  refine wpAny_bind (wpAny_attempt (wpAny_callSpecial?_slot (name:=Str.ofString "__next__") ty F.slot_dict_keyiterator_next (wpAny_call_entry F.slot_dict_keyiterator_next ty F.entry_dict_keyiterator_next ?_ (F.args_dict_keyiterator_next_1 _))))
  have own:Builtin.Dict_items.ownsTuple "dict_keyiterator"=false:=by decide
  have nn:¬ ((Value.ref d == Value.none)=true):=Bool.false_ne_true
  have i0:¬ ((i:Int) < 0):=by omega
  refine wpAny_bind (wpAny_pure (wpAny_bind (wpAny_bind ?_)))
  refine wpAny_bind (wpAny_typeNameOfWhole_keyiter ty (wpAny_pure (wpAny_bind (wpAny_fieldsOf hio idt ?_))))
  simp only [own,Bool.false_eq_true,if_false]
  show wpAny _ _ (if (Value.ref d == Value.none)=true then _ else _) _ _ s
  rw [if_neg nn]
  refine wpAny_bind (wpAny_pure (wpAny_bind (wpAny_dictEntries ho dat ?_)))
  rw [if_neg (by simp)]
  refine wpAny_bind (wpAny_pure (wpAny_bind (wpAny_dictEpoch ho dat ?_)))
  rw [if_neg (by simp)]
  refine wpAny_pure ?_
  cases e:es[i]? with
  | some en =>
    simp only [i0,if_false,Int.toNat_natCast,e]
    refine wpAny_bind (wpAny_bind (wpAny_typeNameOfWhole_keyiter ty (wpAny_pure (wpAny_bind (wpAny_isOneOf_keyiter ty ?_)))))
    show wpAny _ _ (setField (.ref it) 1 (rawInt ((i:Int)+1)) >>= _) _ _ s
    refine wpAny_bind (wpAny_setField hio idt (by simp) ?_)
    have k':(s.heap.update it (Obj.mapFields (·.setIfInBounds 1 (rawInt ((i:Int)+1))))).IsKeyIter it d (i+1) es.size ep :=
      ⟨_,Heap.get?_update_self _ hio (Obj.isFreed_of_fields (Obj.data_mapFields idt _)),(Obj.cls_mapFields ..).trans ic,by rw [Obj.data_mapFields idt];simp [rawInt]⟩
    refine wpAny_bind (wpAny_holding (wpAny_bind (wpAny_isOneOf_keyiter (s:={s with heap:=s.heap.update it (Obj.mapFields (·.setIfInBounds 1 (rawInt ((i:Int)+1)))) }) k'.typeIs ?_)))
    show wpAny _ _ (pure en.key) _ _ _
    exact wpAny_pure (wpAny_pure ⟨_,rfl,wpAny_pure (q1 en _ e k' (Heap.SameBut.update ..))⟩)
  | none =>
    simp only [i0,if_false,Int.toNat_natCast,e]
    refine wpAny_bind (wpAny_bind (wpAny_typeNameOfWhole_keyiter ty (wpAny_pure ?_)))
    show wpAny _ _ (setField (.ref it) 0 .none >>= _) _ _ s
    refine wpAny_bind (wpAny_setField hio idt (by simp) ?_)
    show wpAny _ _ (newExc (.type "StopIteration") [] >>= _) _ _ _
    refine wpAny_bind ?_
    simp only [newExc,newTuple]
    refine wpAny_bind (wpAny_newObj_type ?_ (by size_fits))
    refine wpAny_bind (m:=firstArgMember _ _) (wpAny_of_eq (a:=Value.none) (by rfl) ?_)
    refine wpAny_newObj_type ?_ (by size_fits)
    simp only [raiseNew]
    refine wpAny_bind (wpAny_handled ?_)
    rw [show A.in1.handled=none from hh]
    refine wpAny_bind (wpAny_pure (wpAny_throw ?_))
    refine wpAny_bind (wpAny_isInstance (T:="StopIteration") (b:=true) ⟨_,Heap.get?_push_size _ rfl,rfl⟩ isSubtype_stop ?_)
    exact wpAny_pure (q2 _ e (((Heap.SameBut.update ..).extBut.push _).push _))
end
theorem paired_at {α β:Type} {R:α→β→Prop}:∀{as:List α} {bs:List β},Paired R as bs→as.length=bs.length∧∀(i:Nat) (b:β),bs[i]?=some b→∃ a,as[i]?=some a∧R a b
  | _,_,.nil=>⟨rfl,fun i b h=>by simp at h⟩
  | _,_,.cons r t=>by
    obtain ⟨l,k⟩:=paired_at t
    refine ⟨by simp [l],fun i b h=>?_⟩
    cases i with
    | zero=>cases h;exact ⟨_,rfl,r⟩
    | succ i=>simpa using k i b (by simpa using h)
noncomputable def Itd (d:Addr) (o:Obj) (kvs:List (List Key×V)):It :=
  ⟨fun i H=>H d=some (.frz o (.dT kvs))∧i < kvs.length,fun i H x H'=>H'=H∧∃ b k v,kvs[i]?=some (k,v)∧x=.ref b∧H b=some (.tup (k.map kV)),fun i H=>H d=some (.frz o (.dT kvs))∧kvs.length≤i⟩
theorem es_of {P:Program} {w:World} {H:Hp} {h:Heap} {d:Addr} {o:Obj} {kvs:List (List Key×V)} {es:Array DictEntry} {ep:Nat} (dat:o.data=.dict es ep) (ok:HOk P w H h) (e:H d=some (.frz o (.dT kvs))) :
    EsAt h d es ep∧es.size=kvs.length∧∀(i:Nat) (en:DictEntry),es[i]?=some en→∃(b:Addr) (k:List Key) (v:V),kvs[i]?=some (k,v)∧en.key=Value.ref b∧H b=some (.tup (k.map kV)):=by
  obtain ⟨e1,_,_,xs,pr,o',es',ep',e2,exd,dat',el,_⟩:=(show ObjOk P w H h d (.frz o (.dT kvs)) from ok d _ e)
  rw [e1] at e2
  cases e2
  rw [dat] at dat'
  cases dat'
  obtain ⟨l,at_⟩:=paired_at pr
  refine ⟨⟨o,e1,exd,dat⟩,?_,fun i en he=>?_⟩
  · rw [← Array.length_toList,el,List.length_map,l]
  · have he':es.toList[i]?=some en:=by rw [Array.getElem?_toList];exact he
    rw [el,List.getElem?_map] at he'
    cases ex:xs[i]? with
    | none=>rw [ex] at he';cases he'
    | some x =>
      rw [ex] at he'
      cases he'
      obtain ⟨⟨k,v⟩,ea,r1,r2,_⟩:=at_ i x ex
      exact ⟨x.2.1,k,v,ea,rfl,r2⟩
theorem turn_dict {P:Program} {w:World} {K:PySem.W.Frag} {tg:Expr} (d it:Addr) (o:Obj) (kvs:List (List Key×V)) {es:Array DictEntry} {ep:Nat} (dat:o.data=.dict es ep):Turn P w K tg (Itd d o kvs) [it] it (fun i h=>h.IsKeyIter it d i es.size ep) where
  mem:=by simp
  obj:=fun i h st b hb=>by
    have e:b=it:=by simpa using hb
    subst e
    obtain ⟨o,e,c,d⟩:=st
    exact ⟨o,e,fun v z=>by rw [d] at z;cases z⟩
  keep:=fun i h h' st k=>st.at fun o e=>k it (by simp) o e
  item:=by
    intro X hP hw hK hc i pins s σ H E I hf st hg
    subst hP hw hK
    obtain ⟨hd,hi⟩:=hg
    obtain ⟨x,hs,kk⟩:=es_of dat I.hok hd
    obtain ⟨f0,f1,f2,f3,f4,f5⟩:=hf it (by simp)
    refine es_next (I.ok.hd hc) st x (fun en h' he k' sb=>?_) (fun h' hn _=>?_)
    · obtain ⟨b,k,v,e1,e2,e3⟩:=kk i en he
      rw [e2]
      have I1:Inv X pins σ H {s with heap:=h' }:=I.turned (t':=s.toks) (fun b o hb e=>(sb.2 b hb).trans e) f0 f1 f3 f4 f5
      obtain ⟨io,e,c,dd⟩:=id k'
      exact ⟨_,rfl,go_of (s:={s with heap:=h' }) e c dd (by decide) ⟨.ref b,H,I1,rfl,⟨rfl,b,k,v,e1,rfl,e3⟩,k',fun b hb=>(hf b hb).1⟩⟩
    · have:es.size≤i:=by simpa using hn
      omega
  done:=by
    intro X hP hw hK hc i pins s σ H E I hf st hg
    subst hP hw hK
    obtain ⟨hd,hi⟩:=hg
    obtain ⟨x,hs,kk⟩:=es_of dat I.hok hd
    obtain ⟨f0,f1,f2,f3,f4,f5⟩:=hf it (by simp)
    refine es_next (I.ok.hd hc) st x (fun en h' he _ _=>?_) (fun h' hn eb=>⟨rfl,I.turned (t':=s.toks) (fun b o hb e=>eb b o hb e) f0 f1 f3 f4 f5⟩)
    have:i < es.size:=(Array.getElem?_eq_some_iff.mp he).1
    omega
  self:=fun _ _ _ _ _ st h=>wpAny_pyIter_keyiter st h
section
variable {X:Cx} {tg:Expr}
noncomputable def iDict (tl:TE):TI:=fun σ H R=>tl σ H fun x H1=>∃ d kvs,x=.ref d∧Rd H1 d (.dT kvs)∧∀ o,(∀ o',H1 d=some (.frz o' (.dT kvs))→o'=o)→R (Itd d o kvs) (upd H1 d (.frz o (.dT kvs)))
theorem pi_dict {l:Expr} {tl:TE} (hl:PE X l tl):PI X tg l (iDict tl):=by
  intro pins s σ H R I h
  refine thn (hl pins s σ H _ I h) fun v s1 zz=>?_
  obtain ⟨x,H1,I1,rx,d,kvs,ex,rd,q⟩:=zz
  subst ex
  have ev:v=Value.ref d:=rx
  subst ev
  obtain ⟨sz,nd,xs,pr,o,es,ep,ho,exd,dat,el,nod⟩:=(show ObjOk X.prog X.w H1 s1.heap d (.dT kvs) from rd.ok I1.hok)
  have same:∀ o',H1 d=some (.frz o' (.dT kvs))→o'=o:=fun o' z=>by
    obtain ⟨e1,_⟩:=(show ObjOk X.prog X.w H1 s1.heap d (.frz o' (.dT kvs)) from I1.hok d _ z)
    rw [e1] at ho
    exact Option.some.inj ho
  have I2:Inv X pins σ (upd H1 d (.frz o (.dT kvs))) s1:=by
    rcases rd with rd | ⟨o',rd⟩
    · have nt:∀ b ys,H1 b=some (.tup ys)→upd H1 d (.frz o (.dT kvs)) b=some (.tup ys):=fun b ys hb=>by
        rw [upd_ne (fun z=>by rw [z,rd] at hb;cases hb)];exact hb
      exact I1.write (h':=s1.heap) (t':=s1.toks) (e:=d) (by rw [rd];trivial) (.inl rfl) (fun b u _ z=>z) ⟨o,ho⟩ ⟨ho,sz,nd,xs,Paired.mapP pr fun _ _ z=>⟨z.1,nt _ _ z.2.1,z.2.2⟩,o,es,ep,ho,exd,dat,el,nod⟩
    · obtain ⟨e1,_⟩:=(show ObjOk X.prog X.w H1 s1.heap d (.frz o' (.dT kvs)) from I1.hok d _ rd)
      rw [e1] at ho
      cases ho
      have:upd H1 d (.frz o (.dT kvs))=H1:=by
        funext b
        unfold upd
        by_cases z:b=d
        · rw [if_pos z,z,rd]
        · rw [if_neg z]
      rw [this]
      exact I1
  refine es_iter nd ⟨o,ho,exd,dat⟩ ?_
  have I3:=I2.kept (t':=s1.toks) (h':=s1.heap.push {cls:=.type "dict_keyiterator",data:=.fields #[.ref d,.int 0 0,.int es.size 0,.int ep 0] }) fun b o e=>Heap.get?_push_of_some _ e
  refine ⟨_,[s1.heap.objs.size],_,Itd d o kvs,_,rfl,I3,turn_dict d _ o kvs dat,⟨_,Heap.get?_push_size _ rfl,rfl,rfl⟩,fun b hb=>?_,q o same⟩
  have e:b=s1.heap.objs.size:=by simpa using hb
  subst e
  exact I2.fpOk (Nat.le_refl _) (I2.hok.fresh (Nat.le_refl _))
end
end L2
namespace Mine
open PySem L2
theorem comp_dict {tc:TT} {te:TE} {js:List Nat} {σ:St} {H:Hp} {Q:VK} {d:Addr} {o:Obj} {kvs:List (List Key×V)} (p:List Key×V→Bool) (g:List Key×V→V) (e:H d=some (.frz o (.dT kvs))) (hx:kvs.length≤1000)
    (ht:∀(i:Nat) (kv:List Key×V) (b:Addr) H' (N:Bool→Hp→Prop),kvs[i]?=some kv→Same H H'→H' b=some (.tup (kv.1.map kV))→(∀ H'',Same H' H''→N (p kv) H'')→tc (some (.ref b)::cVals js σ) H' N)
    (hs:∀(i:Nat) (kv:List Key×V) (b:Addr) H' (N:VK),kvs[i]?=some kv→p kv=true→Same H H'→H' b=some (.tup (kv.1.map kV))→(∀ H'',Same H' H''→N (g kv) H'')→te (some (.ref b)::cVals js σ) H' N)
    (hd:∀ D H',Same H H'→H D=none→H' D=some (.lst ((kvs.filter p).map g))→Q (.ref D) H'):tComp (fun _ H R=>R (Itd d o kvs) H) tc te js σ H Q:=by
  intro D hD
  have s0:=same_new hD (.lst [])
  refine ⟨fun i m H'=>m=kvs.length - i∧i≤kvs.length∧Same H H'∧H' D=some (.lst (((kvs.take i).filter p).map g)),⟨kvs.length,rfl,Nat.zero_le _,s0,upd_same⟩,?_⟩
  rintro i m H2 ⟨rfl,hi,s2,eD⟩
  have e2:=s2 _ _ e
  by_cases hlt:i < kvs.length
  · refine .inr ⟨⟨e2,hlt⟩,fun x H3 y=>?_⟩
    obtain ⟨eh,b,k,v,hv,rfl,eb⟩:=y
    subst eh
    have tk:kvs.take (i+1)=kvs.take i++[(k,v)]:=by rw [List.take_add_one,hv];rfl
    have hln:((kvs.take i).filter p).length≤i:=Nat.le_trans (List.length_filter_le _ _) (by rw [List.length_take];omega)
    refine ht i (k,v) b _ _ hv s2 eb fun H4 s4=>?_
    by_cases hp:p (k,v)=true
    · rw [if_pos hp]
      refine hs i (k,v) b H4 _ hv hp (s2.trans s4) (s4 _ _ eb) fun H5 s5=>?_
      have e5:=s5 _ _ (s4 _ _ eD)
      refine ⟨_,e5,by rw [List.length_map];exact Nat.lt_of_le_of_lt (show _≤1000 by omega) (by decide),kvs.length - (i+1),by omega,rfl,hlt,same_mut ((s2.trans s4).trans s5) hD _,?_⟩
      rw [upd_same,tk,List.filter_append,List.filter_cons_of_pos hp,List.map_append]
      rfl
    · rw [if_neg hp]
      refine ⟨kvs.length - (i+1),by omega,rfl,hlt,s2.trans s4,?_⟩
      rw [tk,List.filter_append,List.filter_cons_of_neg hp,List.map_append]
      have z:=s4 _ _ eD
      simpa using z
  · have ei:i=kvs.length:=by omega
    subst ei
    rw [List.take_length] at eD
    exact .inl ⟨⟨e2,Nat.le_refl _⟩,hd D H2 s2 hD eD⟩
end Mine
namespace Mine
open PySem L2
theorem fold_least {q:Int}:∀(r:List Int) (a:Int),r.foldl (W5.worth .lesser q) a≤a∧(∀ b∈r,r.foldl (W5.worth .lesser q) a≤b)∧(r.foldl (W5.worth .lesser q) a=a∨r.foldl (W5.worth .lesser q) a∈r)
  | [],a=>⟨Int.le_refl _,(fun _ h=>nomatch h),.inl rfl⟩
  | b::r,a=>by
    obtain ⟨h1,h2,h3⟩:=fold_least (q:=q) r (W5.worth .lesser q a b)
    have e:(b::r).foldl (W5.worth .lesser q) a=r.foldl (W5.worth .lesser q) (W5.worth .lesser q a b):=rfl
    rw [e]
    have m:W5.worth .lesser q a b=min a b:=rfl
    rw [m] at h1 h2 h3 ⊢
    refine ⟨by omega,fun c hc=>?_,?_⟩
    · rcases List.mem_cons.mp hc with rfl | hc
      · omega
      · exact h2 c hc
    · rcases h3 with z | z
      · by_cases c:a≤b
        · exact .inl (by rw [z];omega)
        · exact .inr (by rw [z,show min a b=b by omega];exact List.mem_cons_self)
      · exact .inr (List.mem_cons_of_mem _ z)
theorem fold_great {q:Int}:∀(r:List Int) (a:Int),a≤r.foldl (W5.worth .greater q) a∧(∀ b∈r,b≤r.foldl (W5.worth .greater q) a)∧(r.foldl (W5.worth .greater q) a=a∨r.foldl (W5.worth .greater q) a∈r)
  | [],a=>⟨Int.le_refl _,(fun _ h=>nomatch h),.inl rfl⟩
  | b::r,a=>by
    obtain ⟨h1,h2,h3⟩:=fold_great (q:=q) r (W5.worth .greater q a b)
    have e:(b::r).foldl (W5.worth .greater q) a=r.foldl (W5.worth .greater q) (W5.worth .greater q a b):=rfl
    rw [e]
    have m:W5.worth .greater q a b=max a b:=rfl
    rw [m] at h1 h2 h3 ⊢
    refine ⟨by omega,fun c hc=>?_,?_⟩
    · rcases List.mem_cons.mp hc with rfl | hc
      · omega
      · exact h2 c hc
    · rcases h3 with z | z
      · by_cases c:b≤a
        · exact .inl (by rw [z];omega)
        · exact .inr (by rw [z,show max a b=b by omega];exact List.mem_cons_self)
      · exact .inr (List.mem_cons_of_mem _ z)
theorem fw_least {q:Int} {l:List Int} (h:l≠[]):(∀ a∈l,fw .lesser q l≤a)∧fw .lesser q l∈l:=by
  cases l with
  | nil=>exact absurd rfl h
  | cons a r =>
    obtain ⟨h1,h2,h3⟩:=fold_least (q:=q) r a
    refine ⟨fun b hb=>?_,?_⟩
    · rcases List.mem_cons.mp hb with rfl | hb
      · exact h1
      · exact h2 b hb
    · rcases h3 with z | z
      · show r.foldl (W5.worth .lesser q) a∈_
        rw [z];exact List.mem_cons_self
      · exact List.mem_cons_of_mem _ z
theorem fw_great {q:Int} {l:List Int} (h:l≠[]):(∀ a∈l,a≤fw .greater q l)∧fw .greater q l∈l:=by
  cases l with
  | nil=>exact absurd rfl h
  | cons a r =>
    obtain ⟨h1,h2,h3⟩:=fold_great (q:=q) r a
    refine ⟨fun b hb=>?_,?_⟩
    · rcases List.mem_cons.mp hb with rfl | hb
      · exact h1
      · exact h2 b hb
    · rcases h3 with z | z
      · show r.foldl (W5.worth .greater q) a∈_
        rw [z];exact List.mem_cons_self
      · exact List.mem_cons_of_mem _ z
noncomputable def Lsr (L:List St4) (k:Nat) (s:St4) (G:List St4):Prop:=∀ p q,0 < q→0≤p→p≤q→(∀ r∈L,Abv L k s r→hAt G p q≤hS r.m r.h p q)∧∃ r∈L,Abv L k s r∧hAt G p q=hS r.m r.h p q
theorem back_line {L G:List St4} {Gs:List (List St4)} (l:Ln.LineB 10 L) (inn:Inn L) (g:Gd 4 G) (hl:Gs.length=L.length) (hk:∀(k:Nat) (s:St4),L[k]?=some s→∃ F,Gs[k]?=some F∧Lsr L k s F)
    (hG:∀ p q,0 < q→0≤p→p≤q→hAt G p q=fw .greater q (Gs.map fun F=>hAt F p q)):G=L:=by
  refine line_one g.b l fun p q hq h0 hpq=>?_
  obtain ⟨⟨j,s,hj,up⟩,dn⟩:=backs l inn hq h0 hpq
  obtain ⟨F,hF,lsr⟩:=hk j s hj
  have mem:hAt F p q∈Gs.map fun F=>hAt F p q:=List.mem_map.mpr ⟨F,List.mem_of_getElem? hF,rfl⟩
  have ne:(Gs.map fun F=>hAt F p q)≠[]:=fun z=>by rw [z] at mem;cases mem
  obtain ⟨w1,w2⟩:=fw_great (q:=q) ne
  rw [hG p q hq h0 hpq]
  have a1:hAt L p q≤fw .greater q (Gs.map fun F=>hAt F p q):=by
    obtain ⟨r,hr,ab,e⟩:=(lsr p q hq h0 hpq).2
    have:=up r ab
    have:=w1 _ mem
    omega
  have a2:fw .greater q (Gs.map fun F=>hAt F p q)≤hAt L p q:=by
    obtain ⟨F',hF',e'⟩:=List.mem_map.mp w2
    obtain ⟨k,hkl,ek⟩:=List.getElem_of_mem hF'
    have hs:L[k]?=some (L[k]'(by omega)):=List.getElem?_eq_getElem (by omega)
    obtain ⟨F2,h2,ls2⟩:=hk k _ hs
    have:F2=F':=by
      rw [List.getElem?_eq_getElem hkl,ek] at h2
      exact (Option.some.inj h2).symm
    subst this
    obtain ⟨i,r,hi,ab,le⟩:=dn k _ hs
    have:=(ls2 p q hq h0 hpq).1 r (List.mem_of_getElem? hi) ab
    rw [← e']
    omega
  omega
end Mine
namespace Mine
open PySem L2
structure Rb32 (H H':Hp) (l:Addr) (L:List St4) (us:List V) (gs:List Gr) (Ls:List (List St4)):Prop where
  sm:Same H H'
  fr:H l=none
  el:H' l=some (.lst us)
  al:All2 (GrV H') us gs
  sr:SR gs (Ls++[L])
  few:us.length≤300
noncomputable def spBack32 (K:PySem.W.Frag):Sp:=fun vs H Q _=>∃(x:V) (L:List St4),vs=[x]∧Dat K H (lnD L) x∧Bk 10 L∧∀(l:Addr) (us:List V) (gs:List Gr) (Ls:List (List St4)) (H':Hp),Rb32 H H' l L us gs Ls→Q (.ref l) H'
noncomputable def pK (L:List St4) (i:Nat) (st:St4) (kv:List Key×V):Bool:=match kv.1 with
  | [.inl m,.inl h]=>!(blwV m h st (beg L i).1 (beg L i).2 || blwV m h st st.p st.q)
  | _=>false
theorem pK_abv {L:List St4} {i:Nat} {st s:St4} {v:V}:pK L i st (kRule s,v)=true↔Abv L i st s:=by
  show (!(blwV s.m s.h st (beg L i).1 (beg L i).2 || blwV s.m s.h st st.p st.q))=true↔_
  unfold Abv blwV St4.at
  have e:∀ p q:Int,(s.m - st.m)*p+(s.h - st.h)*q=(s.m*p+s.h*q) - (st.m*p+st.h*q):=fun p q=>by grind
  rw [e,e,Bool.not_eq_true',Bool.or_eq_false_iff,decide_eq_false_iff_not,decide_eq_false_iff_not]
  omega
theorem places_of {L:List St4} {Ls:List (List St4)}:∀(l:List (List Key×V)),(∀ kv∈l,∃(s:St4) (pl:Nat),s∈L∧kv.1=kRule s∧kv.2=.int (pl:Int)∧Ls[pl]?=some (lineS s.m s.h))→
    ∃(ns:List Nat) (Ss:List St4),(l.map fun kv=>kv.2)=natsV ns∧(l.map fun kv=>kv.1)=Ss.map kRule∧ns.length=l.length∧Ss.length=l.length∧∀(k j:Nat),ns[k]?=some j→∃ s,Ss[k]?=some s∧s∈L∧Ls[j]?=some (lineS s.m s.h)
  | [],_=>⟨[],[],rfl,rfl,rfl,rfl,fun _ _ h=>by simp at h⟩
  | kv::l,h=>by
    obtain ⟨s,pl,h1,h2,h3,h4⟩:=h kv List.mem_cons_self
    obtain ⟨ns,Ss,e1,e2,e3,e4,e5⟩:=places_of l fun y hy=>h y (List.mem_cons_of_mem _ hy)
    refine ⟨pl::ns,s::Ss,by rw [List.map_cons,e1,h3];rfl,by rw [List.map_cons,e2,h2];rfl,by simp [e3],by simp [e4],fun k j hk=>?_⟩
    cases k with
    | zero=>cases hk;exact ⟨s,rfl,h1,h4⟩
    | succ k=>simpa using e5 k j (by simpa using hk)
theorem len_one {α:Type} {l:List α} (h:l≠[]) (h1:l.length≤1):∃ x,l=[x]:=by
  match l,h,h1 with
  | [x],_,_=>exact ⟨x,rfl⟩
set_option maxHeartbeats 20000000
structure Lp32 (H H':Hp) (r d ll:Addr) (L:List St4) (i:Nat) (kvs:List (List Key×V)) (us:List V) (gs:List Gr) (Ls:List (List St4)) (ms:List Nat) (Gs:List (List St4)):Prop where
  sm:Same H H'
  er:H' r=some (.lst us)
  rd:Rd H' d (.dT kvs)
  own:∀(j:Nat) (k:List Key) (v:V),kvs[j]?=some (k,v)→valV kvs k=some v
  el:H' ll=some (.lst (natsV ms))
  al:All2 (GrV H') us gs
  sr:SR gs Ls
  lu:us.length≤24*6+5*i
  ks:∀(j:Nat) (k:List Key) (v:V),kvs[j]?=some (k,v)→∃(s:St4) (pl:Nat),s∈L∧k=kRule s∧v=.int (pl:Int)∧Ls[pl]?=some (lineS s.m s.h)
  lm:ms.length=i
  lG:Gs.length=i
  mg:∀(k j:Nat),ms[k]?=some j→∃ F,Gs[k]?=some F∧Ls[j]?=some F∧Gd 4 F
  ls:∀(k:Nat) (s:St4),k < i→L[k]?=some s→∃ F,Gs[k]?=some F∧Lsr L k s F
  one:L.length=1→(i=0→kvs≠[]∧∃ k,kvs.getLast?=some (k,.int (((us.length - 1:Nat)):Int)))∧(i=1→ms[0]?=some (us.length - 1))∧1≤us.length
section
variable {P:Program} {w:World} {K:PySem.W.Frag} {mg:Str→Option Value} {base:Heap}
theorem ok_back (T:TopDef K mg "rows_of_line" s_rows_of_line) (TN:TopTup K mg "NOUGHT" [0,1]) (D_must_lead_back:Def P w K mg base 6 "must_lead_back" ["line"] (spStay32 K)) (D_put_straights:Def P w K mg base 3 "put_straights" ["rows","line"] (spPut32 K)) (D_put_folded:Def P w K mg base 1 "put_folded" ["rows","word","places"] spFolded32) (D_is_below:Def P w K mg base 2 "is_below" ["rule","stretch","start"] (spBelow32 K)):Def P w K mg base 7 "rows_of_line" ["line"] (spBack32 K):=by
  refine def_of T sc_rows_of_line (fun _ _ _ _ _ _ us hl=>match us,hl with | [_],_=>rfl) (fun vs H Q E h=>?_) (fun f cdv A outer s H vs Q E hr h=>?_)
  · obtain ⟨x,L,rfl,_⟩:=h
    rfl
  obtain ⟨x,L,rfl,dx,bk,q⟩:=h
  have nd:=sc_rows_of_line.nd
  have hu:=hu_of hr
  obtain ⟨aN,M_NOUGHT,qN⟩:=TN.ex
  obtain ⟨la,xs,rfl,sa,da⟩:=ln_el dx
  have lx:=ln_len da
  have few:=bk.few
  refine ⟨_,(pss_cons (ps_expr (pe_def D_must_lead_back (hr.mono (by decide)) rfl (pa_cons (pv 0) pa_nil)))
    (pss_cons (ps_set (i:=1) nd rfl (Or.inl rfl) (pe_lst pa_nil))
    (pss_cons (ps_set (i:=2) nd rfl (Or.inr rfl) (pe_def D_put_straights (hr.mono (by decide)) rfl (pa_cons (pv 1) (pa_cons (pv 0) pa_nil))))
    (pss_cons (ps_set (i:=3) nd rfl (Or.inl rfl) (pe_lst pa_nil))
    (pss_cons (ps_set (i:=4) nd rfl (Or.inr rfl) (pe_glob (v:=V.ref aN) rfl M_NOUGHT rfl))
    (pss_cons (ps_for PassesOwn.never rfl (pi_tup (pv 0)) (pg_name (i:=5) nd rfl (Or.inr rfl)) (pss_cons (ps_setF (i:=6) nd rfl (Or.inl rfl) (Or.inl rfl) rfl rfl (pi_dict (pv 2)) rfl (by decide +kernel) (by decide +kernel) rfl (show ∀ p∈Scope.names _,p.2=NameKind.free→List.lookup p.1 (defScope s_rows_of_line).names=some .cell∨List.lookup p.1 (defScope s_rows_of_line).names=some .free by decide +kernel) (fa_cons (j:=2) rfl (Or.inl rfl) (by decide +kernel) (Or.inl rfl) (fa_cons (j:=5) rfl (Or.inl rfl) (by decide +kernel) (Or.inl rfl) (fa_cons (j:=4) rfl (Or.inl rfl) (by decide +kernel) (Or.inl rfl) fa_nil))) (show (["rule","place_of","stretch","start"]:List Str).Nodup by decide +kernel) (fun _ _ _ _=>(pif_one (pt_not (pt_val (pe_def D_is_below (hr.mono (by decide)) rfl (pa_cons (pv 0) (pa_cons (pv 2) (pa_cons (pv 3) pa_nil)))))))) (fun _ _ _ _=>(pe_dget hu (pv 1) (pv 0) (fun _ _=>rfl))))
    (pss_cons (ps_expr (pe_bm PySem.F.plainAttrs_list PySem.F.slot_list_append PySem.F.type_list_append mt_append (pv 3) (pa_cons (pe_def D_put_folded (hr.mono (by decide)) rfl (pa_cons (pv 1) (pa_cons pe_str (pa_cons (pv 6) pa_nil)))) pa_nil)))
    (pss_one (ps_set (i:=4) nd rfl (Or.inr rfl) (pe_ix ix_tup (pv 5) pe_int (fun _ _=>rfl)))))))
    (pss_cons (ps_expr (pe_def D_put_folded (hr.mono (by decide)) rfl (pa_cons (pv 1) (pa_cons pe_str (pa_cons (pv 3) pa_nil)))))
    (pss_one (ps_ret (pv 1)))))))))),?_⟩
  refine ⟨_,rfl,_,10,L,rfl,by decide,dx,bk,fun H1 s1=>?_⟩
  refine ⟨(by show 0≤sizeLine;decide),fun r hr1=>?_⟩
  have u2:=same_new hr1 (.lst [])
  have s2:=s1.trans u2
  refine ⟨_,rfl,_,rfl,r,_,L,rfl,upd_same,dx.ts s2.ts,few,bk.mild,fun d kvs us gs Ls H3 S=>?_⟩
  have hr0:H r=none:=s1.free hr1
  have ndr:d≠r:=fun z=>by rw [z] at S;have:=S.fd;rw [upd_same] at this;cases this
  have hd0:H d=none:=s2.free S.fd
  have s3:Same H H3:=fun c o h=>S.sb c o (s2 _ _ h) (fun z=>by rw [z,hr0] at h;cases h)
  refine ⟨(by show 0≤sizeLine;decide),fun ll hll=>?_⟩
  have u4:=same_new hll (.lst [])
  have s4:=s3.trans u4
  have hll0:H ll=none:=s3.free hll
  have nlr:ll≠r:=fun z=>by rw [z,S.er] at hll;cases hll
  have nld:ll≠d:=fun z=>by rw [z,S.ed] at hll;cases hll
  have lk:=S.lk
  refine ⟨_,rfl,la,rfl,⟨xs,sa.ts s4.ts⟩,?_⟩
  refine for_tup (xs:=xs) (fun i σ H'=>∃(o5 o6:Option V) (t:V) (us:List V) (gs:List Gr) (Ls:List (List St4)) (ms:List Nat) (Gs:List (List St4)),σ=[some (.ref la),some (.ref r),some (.ref d),some (.ref ll),some t,o5,o6]∧Dat K H' (frD (beg L i).1 (beg L i).2) t∧Lp32 H H' r d ll L i kvs us gs Ls ms Gs)
    ⟨_,_,_,us,gs,Ls,[],[],rfl,fr_mk (qN _),⟨s4,u4 _ _ S.er,.inl (u4 _ _ S.ed),S.own,upd_same,S.al.imp (GrV.to (Kp.of u4)),S.sr,by have:=S.lu;omega,S.ks,rfl,rfl,(fun _ _ h=>by simp at h),(fun _ _ h=>by omega),fun z=>?_⟩⟩ (fun i σ H' _ z=>?_) (fun i x σ H' hx z=>?_) (fun σ H' z=>?_)
  · have h0:L[0]?=some (L[0]'(by omega)):=List.getElem?_eq_getElem (by omega)
    have ne:kvs≠[]:=fun y=>by
      obtain ⟨v,hv⟩:=S.has 0 _ (by omega) h0
      rw [y] at hv
      cases hv
    obtain ⟨k,hk,h1⟩:=S.la ne
    exact ⟨fun _=>⟨ne,k,hk⟩,(fun y=>by omega),h1⟩
  · obtain ⟨_,_,_,_,_,_,_,_,_,_,S'⟩:=z
    exact sa.ts S'.sm.ts
  · obtain ⟨o5,o6,t,us',gs',Ls',ms,Gs,rfl,dt,S'⟩:=z
    obtain ⟨st,hst,dst⟩:=ln_at' (da.ts S'.sm.ts) hx
    have hi:i < L.length:=(List.getElem?_eq_some_iff.mp hst).1
    obtain ⟨c,e,rfl,q1,d1⟩:=st_el dst
    dsimp only [gName,tSeq,tAsgC,List.set]
    refine comp_from ?_
    refine ⟨_,rfl,d,kvs,rfl,S'.rd,fun ob hob=>?_⟩
    have ts1:Tst H' (upd H' d (.frz ob (.dT kvs))):=⟨fun c ys e=>by rw [upd_ne (fun z=>by rcases S'.rd with y | ⟨_,y⟩ <;> rw [z,y] at e <;> cases e)];exact e,fun c o u e=>by
      by_cases z:c=d
      · subst z
        rcases S'.rd with y | ⟨o',y⟩
        · rw [y] at e;cases e
        · rw [y] at e
          cases e
          rw [upd_same,hob _ y]
      · rw [upd_ne z];exact e⟩
    have kp1:Kp H' (upd H' d (.frz ob (.dT kvs))):=fun c o e fx=>by
      by_cases z:c=d
      · subst z
        rcases S'.rd with y | ⟨o',y⟩
        · rw [y] at e;cases e;cases fx
        · rw [y] at e
          cases e
          rw [upd_same,hob o' y]
      · rw [upd_ne z];exact e
    have ne1:∀ c o,H' c=some o→c≠d→upd H' d (.frz ob (.dT kvs)) c=some o:=fun c o e z=>by rw [upd_ne z];exact e
    have ed1:upd H' d (.frz ob (.dT kvs)) d=some (.frz ob (.dT kvs)):=upd_same
    generalize upd H' d (.frz ob (.dT kvs))=F at ts1 kp1 ne1 ed1 ⊢
    have bnd:∀ z∈L,z.m.natAbs≤2000∧z.h.natAbs≤2000∧z.p.natAbs≤2000∧z.q.natAbs≤2000:=fun z hz=>by
      obtain ⟨h1,h2,_,h4,h5,h6⟩:=bk.b.ok z hz
      have:(2:Nat) ^ 10=1024:=rfl
      rw [this] at h4 h5 h6
      omega
    refine comp_dict (pK L i st) (fun kv=>kv.2) ed1 (by omega) (fun j kv b H5 N hj s5 eb hN=>?_) (fun j kv b H5 N hj hp s5 eb hN=>?_) (fun D H5 s5 hD eD=>?_)
    · obtain ⟨z,pl,hz,hk,hv,_⟩:=S'.ks j kv.1 kv.2 hj
      obtain ⟨k,v⟩:=kv
      dsimp only at hk hv eb
      subst hk hv
      have bz:=bnd z hz
      have bs:=bnd st (List.mem_of_getElem? hst)
      have bb:(beg L i).1.natAbs≤2000∧(beg L i).2.natAbs≤2000:=by
        cases i with
        | zero=>exact ⟨(show (0:Int).natAbs≤2000 by decide),(show (1:Int).natAbs≤2000 by decide)⟩
        | succ i =>
          have e':L[i]?=some (L[i]'(by omega)):=List.getElem?_eq_getElem (by omega)
          rw [beg_succ e']
          have:=bnd _ (List.mem_of_getElem? e')
          exact ⟨this.2.2.1,this.2.2.2⟩
      exact ⟨_,rfl,_,rfl,_,rfl,b,_,t,z.m,z.h,st,(beg L i).1,(beg L i).2,rfl,eb,(dst.ts ts1).ts s5.ts,(dt.ts ts1).ts s5.ts,⟨bz.1,bz.2.1,bs.1,bs.2.1,bs.2.2.1,bs.2.2.2⟩,bb.1,bb.2,_,rfl,hN _ (Same.refl _)⟩
    · obtain ⟨z,pl,hz,hk,hv,_⟩:=S'.ks j kv.1 kv.2 hj
      obtain ⟨k,v⟩:=kv
      have ow:=S'.own j k v hj
      exact ⟨_,rfl,_,rfl,d,v,rfl,.inr ⟨kvs,k,b,.inr ⟨ob,s5 _ _ ed1⟩,rfl,eb,ow.symm⟩,hN _ (Same.refl _)⟩
    · obtain ⟨ns,Ss,n1,n2,n3,n4,n5⟩:=places_of (L:=L) (Ls:=Ls') (kvs.filter (pK L i st)) fun kv hkv=>by
        obtain ⟨j,hj,ej⟩:=List.getElem_of_mem (List.mem_filter.mp hkv).1
        exact S'.ks j kv.1 kv.2 (by rw [List.getElem?_eq_getElem hj,ej])
      have fl:(kvs.filter (pK L i st)).length≤6:=Nat.le_trans (List.length_filter_le _ _) (by omega)
      have inS:∀ z,z∈L→Abv L i st z→∃ y∈Ss,kRule y=kRule z:=fun z hz ab=>by
        obtain ⟨j,hj,ej⟩:=List.getElem_of_mem hz
        obtain ⟨v,hv⟩:=S.has j z hj (by rw [List.getElem?_eq_getElem hj,ej])
        have mem:(kRule z,v)∈kvs:=by
          unfold valV at hv
          cases e:kvs.find? (fun kv=>decide (kv.1=kRule z)) with
          | none=>rw [e] at hv;cases hv
          | some y =>
            rw [e] at hv
            have h1:=List.find?_some e
            have h2:=List.mem_of_find?_eq_some e
            obtain ⟨y1,y2⟩:=y
            have h3:y1=kRule z:=of_decide_eq_true h1
            cases hv
            rw [← h3]
            exact h2
        have mf:kRule z∈(kvs.filter (pK L i st)).map fun kv=>kv.1:=List.mem_map.mpr ⟨(kRule z,v),List.mem_filter.mpr ⟨mem,pK_abv.mpr ab⟩,rfl⟩
        rw [n2] at mf
        obtain ⟨y,hy,e⟩:=List.mem_map.mp mf
        exact ⟨y,hy,e⟩
      have Sab:∀ y∈Ss,Abv L i st y:=fun y hy=>by
        have:kRule y∈Ss.map kRule:=List.mem_map.mpr ⟨y,hy,rfl⟩
        rw [← n2] at this
        obtain ⟨⟨k,v⟩,hkv,e⟩:=List.mem_map.mp this
        have e':k=kRule y:=e
        subst e'
        exact pK_abv.mp (List.mem_filter.mp hkv).2
      have lu:=S'.lu
      have lmi:=S'.lm
      have lGi:=S'.lG
      have mst:=List.mem_of_getElem? hst
      obtain ⟨y0,hy0,_⟩:=inS st mst (Abv.self L i st)
      have Sne:1≤Ss.length:=by cases Ss with | nil=>cases hy0 | cons a b=>simp
      have eD':H5 D=some (.lst (natsV ns)):=by rw [eD,← n1]
      have dne:∀ c xs,H' c=some (.lst xs)→c≠d:=fun c xs e z=>by rcases S'.rd with y | ⟨_,y⟩ <;> rw [z,y] at e <;> cases e
      have er5:=s5 _ _ (ne1 _ _ S'.er (dne _ _ S'.er))
      have el5:=s5 _ _ (ne1 _ _ S'.el (dne _ _ S'.el))
      have al5:=(S'.al.imp (GrV.to kp1)).imp (GrV.to (Kp.of s5))
      have nrD:r≠D:=fun z=>by have:=ne1 _ _ S'.er (dne _ _ S'.er);rw [z,hD] at this;cases this
      refine ⟨_,rfl,.inl ⟨rfl,_,SqL.of el5⟩,_,rfl,_,rfl,r,D,.lesser,us',gs',Ls',ns,Ss.map (fun s=>lineS s.m s.h),rfl,.inl rfl,nrD,er5,al5,S'.sr,eD',by omega,by omega,by omega,by rw [List.length_map];omega,fun k j hk=>?_,fun fo us2 gs2 Ls2 G H6 Dd=>?_⟩
      · obtain ⟨y,h1,h2,h3⟩:=n5 k j hk
        have my:=bk.mild y h2
        have g0:=lineS_gd (a:=y.m) (b:=y.h) (by omega)
        exact ⟨lineS y.m y.h,by rw [List.getElem?_map,h1];rfl,h3,⟨g0.b,g0.s.mono my,g0.i⟩⟩
      · have el6:=Dd.sb ll _ el5 (fun z=>nlr (by cases z;rfl))
        have lu2:=Dd.lu
        rw [List.length_map] at lu2
        refine ⟨ll,natsV ms,_,rfl,rfl,el6,small1000 (by simp;omega),?_⟩
        have ts6:Tst H' H6:=(ts1.trans s5.ts).trans ⟨fun c ys e=>Dd.sb c _ e (fun z=>by cases z;rw [er5] at e;cases e),fun c o u e=>Dd.sb c _ e (fun z=>by cases z;rw [er5] at e;cases e)⟩
        have ts7:Tst H6 (upd H6 ll (.lst (natsV ms++[.int (fo:Int)]))):=ts_mut el6
        have tsA:=ts6.trans ts7
        have k7:Kp H6 (upd H6 ll (.lst (natsV ms++[.int (fo:Int)]))):=kp_mut el6 rfl
        have ed6:H6 d=some (.frz ob (.dT kvs)):=Dd.sb d _ (s5 _ _ ed1) (fun z=>ndr (by cases z;rfl))
        refine ⟨_,rfl,_,_,_,_,rfl,rfl,q1.ts tsA,rfl,?_⟩
        refine ⟨_,_,e,us2,gs2,Ls2,ms++[fo],Gs++[G],rfl,by rw [beg_succ hst];exact d1.ts tsA,⟨fun c o h=>?_,?_,.inr ⟨ob,?_⟩,S'.own,?_,Dd.al.imp (GrV.to k7),Dd.sr,by omega,fun j k v hj=>?_,by simp;omega,by simp;omega,fun k j hk=>?_,fun k z hk hz=>?_,fun hL=>?_⟩⟩
        · rw [upd_ne (fun z=>by rw [z,hll0] at h;cases h)]
          exact Dd.sb c o (s5 _ _ (ne1 _ _ (S'.sm _ _ h) (fun z=>by rw [z,hd0] at h;cases h))) (fun z=>by cases z;rw [hr0] at h;cases h)
        · rw [upd_ne (Ne.symm nlr)];exact Dd.er
        · rw [upd_ne (Ne.symm nld)];exact ed6
        · rw [upd_same];simp [natsV]
        · obtain ⟨z,pl,h1,h2,h3,h4⟩:=S'.ks j k v hj
          exact ⟨z,pl,h1,h2,h3,Dd.kp _ _ h4⟩
        · rcases Nat.lt_or_ge k ms.length with z | z
          · rw [List.getElem?_append_left z] at hk
            obtain ⟨F',h1,h2,h3⟩:=S'.mg k j hk
            exact ⟨F',by rw [List.getElem?_append_left (by omega)];exact h1,Dd.kp _ _ h2,h3⟩
          · rw [List.getElem?_append_right z] at hk
            have ek:k - ms.length=0:=by have:=(List.getElem?_eq_some_iff.mp hk).1;simp at this;omega
            rw [ek] at hk
            cases hk
            exact ⟨G,by rw [show k=Gs.length by omega,List.getElem?_concat_length],Dd.gi,Dd.gd⟩
        · rcases Nat.lt_or_ge k i with y | y
          · obtain ⟨F',h1,h2⟩:=S'.ls k z y hz
            exact ⟨F',by rw [List.getElem?_append_left (by omega)];exact h1,h2⟩
          · have ek:k=i:=by omega
            subst ek
            rw [hst] at hz
            cases hz
            refine ⟨G,by rw [show k=Gs.length by omega,List.getElem?_concat_length],fun p q' z1 z2 z3=>?_⟩
            have ne0:((Ss.map fun s=>lineS s.m s.h).map fun F=>hAt F p q')≠[]:=fun y=>by
              have:=congrArg List.length y
              simp at this
              rw [this] at Sne
              simp at Sne
            obtain ⟨w1,w2⟩:=fw_least (q:=q') ne0
            rw [Dd.ht p q' z1 z2 z3]
            refine ⟨fun x hx' ab=>?_,?_⟩
            · obtain ⟨y,hy,ey⟩:=inS x hx' ab
              have:=w1 (hAt (lineS y.m y.h) p q') (List.mem_map.mpr ⟨_,List.mem_map.mpr ⟨y,hy,rfl⟩,rfl⟩)
              rw [lineS_at z1 z2 z3] at this
              have e1:y.m=x.m∧y.h=x.h:=by
                have:([.inl y.m,.inl y.h]:List Key)=[.inl x.m,.inl x.h]:=ey
                simpa using this
              rw [e1.1,e1.2] at this
              exact this
            · obtain ⟨F',hF',eF⟩:=List.mem_map.mp w2
              obtain ⟨y,hy,rfl⟩:=List.mem_map.mp hF'
              obtain ⟨kk,hkk,ekk⟩:=List.getElem_of_mem hy
              obtain ⟨j',hj'⟩:∃ j',ns[kk]?=some j':=⟨ns[kk]'(by omega),List.getElem?_eq_getElem (by omega)⟩
              obtain ⟨y',h1,h2,_⟩:=n5 kk j' hj'
              rw [List.getElem?_eq_getElem hkk,ekk] at h1
              cases h1
              exact ⟨y,h2,Sab y hy,by rw [← eF,lineS_at z1 z2 z3]⟩
        · obtain ⟨o1,_,o3⟩:=S'.one hL
          have i0:i=0:=by omega
          obtain ⟨kn,k',hk'⟩:=o1 i0
          have lk1:kvs.length≤1:=by omega
          obtain ⟨kv,ekv⟩:=len_one kn lk1
          have f1:(kvs.filter (pK L i st)).length≤1:=Nat.le_trans (List.length_filter_le _ _) lk1
          have on:=Dd.one (by rw [List.length_map];omega)
          have m0:ms=[]:=List.eq_nil_of_length_eq_zero (by omega)
          refine ⟨(fun y=>by omega),fun _=>?_,by omega⟩
          rw [m0]
          have fk:kvs.filter (pK L i st)=[kv]:=by
            rw [ekv] at n4 ⊢
            by_cases c:pK L i st kv=true
            · rw [List.filter_cons_of_pos c];rfl
            · rw [List.filter_cons_of_neg c] at n4;simp at n4;rw [n4] at Sne;simp at Sne
          rw [fk] at n1
          rw [ekv] at hk'
          have ek2:kv.2=.int (((us'.length - 1:Nat)):Int):=by
            have:kv=(k',.int (((us'.length - 1:Nat)):Int)):=by simpa using hk'
            rw [this]
          have n1':[kv.2]=natsV ns:=n1
          rw [ek2] at n1'
          obtain ⟨y,rfl⟩:∃ y,ns=[y]:=by
            match ns,n3 with
            | [y],_=>exact ⟨y,rfl⟩
            | [],h=>rw [fk] at h;simp at h
            | _::_::_,h=>rw [fk] at h;simp at h
          have:fo=y:=by simpa using on.symm
          subst this
          have:((us'.length - 1:Nat):Int)=(fo:Int):=by simpa [natsV] using n1'
          show some fo=_
          congr 1
          omega
  · obtain ⟨o5,o6,t,us',gs',Ls',ms,Gs,rfl,dt,S'⟩:=z
    rw [lx] at S'
    have lm:=S'.lm
    have lG:=S'.lG
    have lu:=S'.lu
    have l1:1≤L.length:=by
      obtain ⟨y,hy,_⟩:=bk.b.last
      cases L with
      | nil=>cases hy
      | cons a b=>simp
    refine ⟨_,rfl,_,rfl,r,ll,.greater,us',gs',Ls',ms,Gs,rfl,.inr rfl,(fun z=>nlr z.symm),S'.er,S'.al,S'.sr,S'.el,by omega,by omega,by omega,by omega,S'.mg,fun fo us2 gs2 Ls2 G H2 D=>?_⟩
    have key:G=L:=back_line bk.b bk.i D.gd (by omega) (fun k s hs=>S'.ls k s (List.getElem?_eq_some_iff.mp hs).1 hs) D.ht
    subst key
    have lu2:=D.lu
    have lg2:=D.al.len
    have lr2:=D.sr.rl.1
    have last:fo+1=us2.length:=by
      by_cases c:2≤Gs.length
      · exact D.la c
      · have o1:=D.one (by omega)
        obtain ⟨_,o2,o3⟩:=S'.one (by omega)
        rw [o2 (by omega)] at o1
        have:=Option.some.inj o1
        omega
    refine ⟨_,rfl,q r us2 gs2 (Ls2.take fo) H2 ⟨fun c o h=>D.sb c o (S'.sm _ _ h) (fun z=>by cases z;rw [hr0] at h;cases h),hr0,D.er,D.al,?_,by omega⟩⟩
    rw [← last_is D.gi (by omega)]
    exact D.sr
end
end Mine
set_option maxHeartbeats 4000000
open PySem L2 Mine
local macro_rules | `(tactic| walk_at "mul") => `(tactic| first | exact mulS (by assumption) (by assumption) | exact mulS (by first | assumption | exact sm_of (by omega) | exact sm_of (by decide) | exact sm_mod (by decide) (by decide)) (by first | assumption | exact sm_of (by omega) | exact sm_of (by decide) | exact sm_mod (by decide) (by decide)))
local macro_rules | `(tactic| walk_at "rd1") => `(tactic| first
  | refine ⟨_,rfl,?_⟩
  | refine ⟨_,_,rfl,rfl,?_⟩
  | (refine' ⟨_,_,_,_,rfl,rfl,?sq,?ia,?k⟩;(case' sq=>first | assumption | exact Scr.l (by assumption));(case' ia=>first | rfl | assumption))
  | refine ⟨rfl,?_⟩
  | (refine ⟨?m,?_⟩;(case' m=>walk_at "mul"))
  | (refine ⟨?m,?_⟩;(case' m=>exact div_ok (by first | assumption | omega) (by assumption)))
  | (refine ⟨?m,?_⟩;(case' m=>show (0:Int) < _;decide))
  | (refine ⟨?m,?_⟩;(case' m=>exact ⟨by decide,by decide⟩))
  | (refine ⟨?m,?_⟩;(case' m=>exact ⟨by decide,by decide,by decide⟩)))
local macro_rules | `(tactic| walk_at "rd") => `(tactic| repeat walk_at "rd1")
namespace Mine
open PySem L2
noncomputable def spCell (K:PySem.W.Frag):Sp:=fun vs H Q _=>∃(a:Addr) (ns:List Int) (k:Int),vs=[.ref a,.int k]∧Scr K H a ns∧0≤k∧k≤100∧∀ v:Int,bits v≤1048577→Q (.int v) H
theorem bits_half {u:Int} (h:bits u≤1048576):bits (u / 2)≤1048577:=by
  refine Nat.le_trans ?_ (show 1048576≤1048577 by decide)
  rw [bits,intBits_le_iff] at h ⊢
  have:=Int.mul_ediv_add_emod u 2
  have:=Int.emod_nonneg u (show (2:Int)≠0 by decide)
  have:=Int.emod_lt_of_pos u (show (0:Int) < 2 by decide)
  omega
theorem bits_small {u:Int} (h0:0≤u) (h:u < 2147483629):bits u≤1048577:=Nat.le_trans (intBits_le_64 (by omega) (by omega)) (by decide)
noncomputable abbrev n_cell:List Str:=["_law_script","_law_k","_law_cell_here","_law_first","_law_second"]
section
variable {P:Program} {w:World} {K:PySem.W.Frag} {mg:Str→Option Value} {base:Heap}
theorem sc_cell:FnScope n_cell ["_law_script","_law_k"] (defScope s_l_cell):=⟨rfl,rfl,rfl,by decide +kernel,rfl,by decide +kernel,by decide +kernel⟩
theorem ok_cell (T:TopDef K mg "_law_cell" s_l_cell) (Z_len:mg "len"=none):Def P w K mg base 1 "_law_cell" ["_law_script","_law_k"] (spCell K):=by
  refine def_of T sc_cell (fun _ _ _ _ _ _ us hl=>match us,hl with | [_,_],_=>rfl) (fun vs H Q E h=>?_) (fun f cdv A outer s H vs Q E hr h=>?_)
  · obtain ⟨a,ns,k,rfl,_⟩:=h
    rfl
  obtain ⟨a,ns,k,rfl,S,h0,h1,q⟩:=h
  have nd:=sc_cell.nd
  have hl:(ns.map V.int).length=ns.length:=List.length_map _
  have sk:Sm k:=sm_of (by omega)
  have t3:∃ t,PSs (cxOf CX0 P w K mg base n_cell "_law_cell" (defScope s_l_cell) f cdv A outer s H E).nox ((defBody s_l_cell).drop 3) t∧
      ∀ v:Int,0≤v→v < 10 ^ 18→t {nx:=fun _ H'=>Q .non H',rt:=Q} [some (.ref a),some (.int k),some (.int v),none,none] H:=by
    refine ⟨_,(pss_cons (ps_set (i:=3) nd rfl (Or.inl rfl) (pe_op op_mod (pe_op op_mulK (pe_op op_add (pe_op op_add (pe_op op_add (pv 2) (pe_op op_mulK (pe_op op_mulK pe_int (pv 1)) (pv 1))) (pe_op op_mulK pe_int (pv 1))) pe_int) pe_int) pe_int))
    (pss_cons (ps_set (i:=4) nd rfl (Or.inl rfl) (pe_op op_mod (pe_op op_add (pe_op op_mulK (pv 3) (pv 3)) (pv 1)) pe_int))
    (pss_one (ps_ret (pe_op op_mod (pe_op op_add (pe_op op_mulK (pv 4) pe_int) (pv 3)) pe_int))))),fun v v0 v1=>?_⟩
    have sv:Sm v:=sm_of (by omega)
    have kk:0≤7*k*k∧7*k*k≤700*100:=⟨Int.mul_nonneg (by omega) h0,Int.mul_le_mul (by omega) h1 h0 (by omega)⟩
    have s7:Sm (7*k):=sm_of (by omega)
    have s1:Sm (v+7*k*k+13*k+5):=sm_of (by omega)
    walk_at "rd"
    exact q _ (bits_small (Int.emod_nonneg _ (by decide)) (Int.emod_lt_of_pos _ (by decide)))
  obtain ⟨t3,ht3,hq3⟩:=t3
  refine ⟨_,pss_cons (ps_if (PW.pt (pw_and (pt_cmpR op_gt (pe_callB call_len rfl Z_len (by decide +kernel) (pa_cons (pv 0) pa_nil)) pe_int (nomark _)) (pw_and1 (pt_cmpR op_eq (pe_op op_mod (pe_ix ix_list (pv 0) pe_int (fun _ _=>rfl)) pe_int) pe_int (nomark _))))) (pss_cons (ps_if (pt_cmpR op_eq (pv 1) pe_int (nomark _)) (pss_one (ps_ret (pe_op op_fdiv (pe_ix ix_list (pv 0) pe_int (fun _ _=>rfl)) pe_int))) pss_nil)
    (pss_cons (ps_if (pt_cmpR op_lt (pv 1) (pe_callB call_len rfl Z_len (by decide +kernel) (pa_cons (pv 0) pa_nil)) (nomark _)) (pss_one (ps_ret (pe_ix ix_list (pv 0) (pv 1) (fun _ _=>rfl)))) pss_nil)
    (pss_one (ps_ret pe_int)))) pss_nil) (pss_cons (ps_set (i:=2) nd rfl (Or.inl rfl) pe_int) (pss_cons (ps_if (pt_cmpR op_gt (pe_callB call_len rfl Z_len (by decide +kernel) (pa_cons (pv 0) pa_nil)) pe_int (nomark _)) (pss_one (ps_set (i:=2) nd rfl (Or.inl rfl) (pe_op op_mod (pe_ix ix_list (pv 0) (pe_op op_modN (pv 1) (pe_callB call_len rfl Z_len (by decide +kernel) (pa_cons (pv 0) pa_nil))) (fun _ _=>rfl)) (pe_op op_pow pe_int pe_int)))) pss_nil) ht3)),?_⟩
  refine ⟨_,rfl,_,_,rfl,.inl ⟨_,S.l,rfl⟩,_,_,rfl,rfl,_,rfl,?_⟩
  refine ite2 (fun c=>?_) (fun c=>iteF ?_)
  · have c':(0:Int) < ((ns.map V.int).length:Nat):=of_decide_eq_true c
    rw [hl] at c'
    obtain ⟨u,hu,mu⟩:=at_script (ns:=ns) (Int.le_refl 0) c'
    refine ⟨_,rfl,_,_,_,_,rfl,rfl,S.l,hu,_,_,rfl,rfl,(show (0:Int) < _ by decide),rfl,_,rfl,?_⟩
    refine ite2 (fun c2=>?_) (fun c2=>?_)
    · refine ⟨_,rfl,rfl,_,rfl,?_⟩
      refine ite2 (fun c3=>?_) (fun c3=>?_)
      · exact ⟨_,rfl,_,_,_,_,rfl,rfl,S.l,hu,_,_,rfl,rfl,⟨by decide,by decide⟩,q _ (bits_half (S.bit _ mu))⟩
      · refine ⟨_,rfl,_,rfl,_,_,rfl,.inl ⟨_,S.l,rfl⟩,_,_,rfl,rfl,_,rfl,?_⟩
        refine ite2 (fun c4=>?_) (fun c4=>?_)
        · have c5:k < (((ns.map V.int).length:Nat):Int):=of_decide_eq_true c4
          rw [hl] at c5
          obtain ⟨u2,hu2,m2⟩:=at_script (ns:=ns) h0 c5
          exact ⟨_,rfl,_,rfl,_,_,_,_,rfl,rfl,S.l,hu2,q _ (Nat.le_trans (S.bit _ m2) (by decide))⟩
        · exact q _ (by decide)
    · refine ⟨_,rfl,_,_,rfl,.inl ⟨_,S.l,rfl⟩,_,_,rfl,rfl,_,rfl,?_⟩
      refine ite2 (fun _=>?_) (fun z=>absurd c z)
      have z0:(0:Int) < ((ns.map V.int).length:Nat):=of_decide_eq_true c
      have e0:=Int.fmod_nonneg_of_pos k z0
      have e1:=Int.fmod_lt_of_pos k z0
      obtain ⟨u2,hu2,_⟩:=at_script (ns:=ns) e0 (by rw [← hl];exact e1)
      refine ⟨_,rfl,_,rfl,_,rfl,_,_,rfl,.inl ⟨_,S.l,rfl⟩,_,_,rfl,rfl,(by omega),_,_,_,_,rfl,rfl,S.l,hu2,_,_,rfl,rfl,⟨by decide,by decide,by decide⟩,_,_,rfl,rfl,(show (0:Int) < _ by decide),?_⟩
      exact hq3 _ (Int.emod_nonneg _ (by decide)) (Int.emod_lt_of_pos _ (by decide))
  · refine ⟨_,rfl,_,_,rfl,.inl ⟨_,S.l,rfl⟩,_,_,rfl,rfl,_,rfl,?_⟩
    refine ite2 (fun z=>absurd z c) (fun _=>?_)
    exact hq3 0 (by decide) (by decide)
end
end Mine
namespace Mine
open PySem L2
noncomputable def spBuilt32 (K:PySem.W.Frag):Sp:=fun vs H Q _=>∃(a:Addr) (ns:List Int) (t:Int),vs=[.ref a,.int 1,.int t,.int 4]∧Scr K H a ns∧0≤t∧t≤5∧∀(v:V) (L:List St4) (H':Hp),Same H H'→Dat K H' (lnD L) v→Bk 10 L→Q v H'
noncomputable def stAt32 (s:Stmt) (i:Nat):Stmt:=(defBody s).getD i (.Pass ⟨0,0,0,0⟩)
noncomputable def forBody32 (s:Stmt):List Stmt:=match s with
  | .For _ _ b _ _=>b
  | _=>[]
noncomputable def fitB (H:Hp) (v:V):Bool:=match v with
  | .ref a=>match H a with
    | some (.tup [_,.ref c])=>match H c with
      | some (.tup [.int x,.int y])=>decide (0≤x+y) && decide (x+y≤1)
      | _=>false
    | _=>false
  | _=>false
theorem fit_of {m h p q:Int} {H:Hp} {v:V} {e f m' h':Int} (y:WyAt m h p q H v e f m' h'):fitB H v=(decide (0≤m'+h') && decide (m'+h'≤1)):=by
  obtain ⟨a,b,c,rfl,h1,h2,h3,_⟩:=y
  unfold fitB
  simp only [h1,h3]
structure Bi32 (K:PySem.W.Frag) (H H':Hp) (b r bt:Addr) (us:List V) (S:List St4) (p q m h:Int) (i:Nat):Prop where
  sm:Same H H'
  el:H' b=some (.lst us)
  da:DatAll K H' (S.map stD) us
  er:H' r=some (.tup [.int m,.int h])
  et:H' bt=some (.tup [.int p,.int q])
  q8:q≤8
  bw:Bw S p q m h
  lS:S.length≤i
  few:i≤4∨S.length≤4∨Sty m h
theorem Bi32.to {K:PySem.W.Frag} {H H' H2:Hp} {b r bt:Addr} {us:List V} {S:List St4} {p q m h:Int} {i:Nat} (B:Bi32 K H H' b r bt us S p q m h i) (s:Same H' H2):Bi32 K H H2 b r bt us S p q m h i :=
  ⟨B.sm.trans s,s _ _ B.el,B.da.ts s.ts,s _ _ B.er,s _ _ B.et,B.q8,B.bw,B.lS,B.few⟩
theorem Bi32.push {K:PySem.W.Frag} {H H' H2:Hp} {b r bt:Addr} {us:List V} {S:List St4} {p q m h:Int} {i:Nat} {e f m' h':Int} {b' c' t:Addr} (B:Bi32 K H H' b r bt us S p q m h i) (hb:H b=none) (s:Same H' H2)
    (h1:H2 b'=some (.tup [.int e,.int f])) (h2:H2 c'=some (.tup [.int m',.int h'])) (W:Wy m h p q e f m' h') (et:H2 t=some (.tup [.ref b',.int m,.int h])) (c:i≤3∨Sty m' h') :
    Bi32 K H (upd H2 b (.lst (us++[.ref t]))) b c' b' (us++[.ref t]) (S++[⟨e,f,m,h⟩]) e f m' h' (i+1):=by
  have el2:=s _ _ B.el
  have t3:Tst H2 (upd H2 b (.lst (us++[.ref t]))):=ts_mut el2
  refine ⟨same_mut (B.sm.trans s) hb _,upd_same,?_,t3.t _ _ h2,t3.t _ _ h1,W.f9,B.bw.step W,by have:=B.lS;simp;omega,by rcases c with c | c;exact .inl (by omega);exact .inr (.inr c)⟩
  rw [List.map_append]
  exact ((B.da.ts s.ts).ts t3).snoc ((st_mk (s:=⟨e,f,m,h⟩) (SqT.of et) (fr_mk (SqT.of h1))).ts t3)
section
variable {P:Program} {w:World} {K:PySem.W.Frag} {mg:Str→Option Value} {base:Heap}
theorem ok_built32 (T:TopDef K mg "_law_built" s_l_built) (Z_len:mg "len"=none) (Z_sum:mg "sum"=none) (Z_range:mg "range"=none) (Z_tuple:mg "tuple"=none) (D_law_cell:Def P w K mg base 1 "_law_cell" ["_law_script","_law_k"] (spCell K))
    (D__law_ways:Def P w K mg base 3 "_law_ways" ["_law_rule","_law_begin","_law_steep"] spWays32) (D__law_way_out:Def P w K mg base 2 "_law_way_out" ["_law_rule"] spWayOut32):Def P w K mg base 4 "_law_built" ["_law_script","_law_at","_law_turns","_law_steep"] (spBuilt32 K):=by
  refine def_of T sc_l_built (fun _ _ _ _ _ _ us hl=>match us,hl with | [_,_,_,_],_=>rfl) (fun vs H Q E h=>?_) (fun f cdv A outer s H vs Q E hr h=>?_)
  · obtain ⟨a,ns,t,rfl,_⟩:=h
    rfl
  obtain ⟨a,ns,tt,rfl,S0,t0,t5,qq⟩:=h
  have nd:=sc_l_built.nd
  have hu:=hr.units
  have sz:∀ n:Nat,n≤100→n≤sizeLine:=fun n h=>Nat.le_trans h (by decide)
  have t7:∃ t,Hold (cxOf CX0 P w K mg base n_l_built "_law_built" (defScope s_l_built) f cdv A outer s H E).nox ((defBody s_l_built).drop 7) t∧∀(σ4 o7 o8 o9 o10 o11:Option V) (b r bt:Addr) (H':Hp) (us:List V) (S:List St4) (p q m h:Int) (i:Nat),H b=none→Bi32 K H H' b r bt us S p q m h i→Sty m h→S.length≤5→
      t {nx:=fun _ H'=>Q .non H',rt:=Q} [some (.ref a),some (.int 1),some (.int tt),some (.int 4),σ4,some (.ref r),some (.ref b),o7,o8,o9,o10,o11] H':=by
    refine ⟨_,⟨(pss_cons (ps_expr (pe_bm PySem.F.plainAttrs_list PySem.F.slot_list_append PySem.F.type_list_append mt_append (pv 6) (pa_cons (pe_tup (pa_cons (pe_tup (pa_cons pe_int (pa_cons pe_int pa_nil))) (pa_cons (pe_ix ix_tup (pv 5) pe_int (fun _ _=>rfl)) (pa_cons (pe_ix ix_tup (pv 5) pe_int (fun _ _=>rfl)) pa_nil)))) pa_nil)))
    (pss_one (ps_ret (pe_callTy call_tuple_of rfl Z_tuple (by decide +kernel) (pa_cons (pv 6) pa_nil)))))⟩,?_⟩
    intro σ4 o7 o8 o9 o10 o11 b r bt H' us S p q m h i hb B st l5
    have lu:=ln_len B.da
    have sr:SqT K H' r [.int m,.int h]:=SqT.of B.er
    refine ⟨_,rfl,.inl ⟨rfl,_,SqL.of B.el⟩,sz 2 (by decide),fun t1 h1=>?_⟩
    have u1:=same_new h1 (.tup [.int 1,.int 1])
    have e1:upd H' t1 (.tup [.int 1,.int 1]) t1=some (.tup [.int 1,.int 1]):=upd_same
    generalize upd H' t1 (.tup [.int 1,.int 1])=H1 at u1 e1 ⊢
    refine ⟨_,rfl,_,_,_,_,rfl,rfl,sr.ts u1.ts,rfl,_,rfl,_,_,_,_,rfl,rfl,sr.ts u1.ts,rfl,sz 3 (by decide),fun t2 h2=>?_⟩
    have u2:=same_new h2 (.tup [.ref t1,.int m,.int h])
    have e2:upd H1 t2 (.tup [.ref t1,.int m,.int h]) t2=some (.tup [.ref t1,.int m,.int h]):=upd_same
    generalize upd H1 t2 (.tup [.ref t1,.int m,.int h])=H2 at u2 e2 ⊢
    have u12:=u1.trans u2
    have el2:=u12 _ _ B.el
    refine ⟨b,us,_,rfl,rfl,el2,small1000 (by omega),?_⟩
    have t3:Tst H2 (upd H2 b (.lst (us++[.ref t2]))):=ts_mut el2
    refine ⟨_,rfl,b,us++[.ref t2],rfl,.inl ⟨SqL.of upd_same,fun z hz=>?_⟩⟩
    have u4:=same_new hz (.tup (us++[.ref t2]))
    obtain ⟨L1,L2,L3⟩:=B.bw.line st
    refine qq (.ref z) (S++[⟨1,1,m,h⟩]) _ ((same_mut (B.sm.trans u12) hb _).trans u4) ?_ ⟨L1,L2,by simp;omega,L3⟩
    refine ⟨z,_,rfl,SqT.of upd_same,?_⟩
    rw [List.map_append]
    exact ((((B.da.ts u12.ts).ts t3).snoc ((st_mk (s:=⟨1,1,m,h⟩) (SqT.of e2) (fr_mk (SqT.of (u2 _ _ e1)))).ts t3))).ts u4.ts
  obtain ⟨t7,ht7,k7⟩:=t7
  have t5':∃ t,Hold (cxOf CX0 P w K mg base n_l_built "_law_built" (defScope s_l_built) f cdv A outer s H E).nox ((defBody s_l_built).drop 5) t∧∀(σ4 o8 o9 o10 o11:Option V) (b r bt:Addr) (H':Hp) (us:List V) (S:List St4) (p q m h:Int) (i:Nat),H b=none→Bi32 K H H' b r bt us S p q m h i→i≤5→
      t {nx:=fun _ H'=>Q .non H',rt:=Q} [some (.ref a),some (.int 1),some (.int tt),some (.int 4),σ4,some (.ref r),some (.ref b),some (.ref bt),o8,o9,o10,o11] H':=by
    refine ⟨_,⟨pss_cons (ps_set (i:=11) nd rfl (Or.inl rfl) (pe_def D__law_way_out (hr.mono (by decide)) rfl (pa_cons (pv 5) pa_nil))) (pss_consH (ps_if (pt_cmpR op_notN (pv 11) pe_non (nomark _)) (pss_cons (ps_expr (pe_bm PySem.F.plainAttrs_list PySem.F.slot_list_append PySem.F.type_list_append mt_append (pv 6) (pa_cons (pe_tup (pa_cons (pe_ix ix_tup (pv 11) pe_int (fun _ _=>rfl)) (pa_cons (pe_ix ix_tup (pv 5) pe_int (fun _ _=>rfl)) (pa_cons (pe_ix ix_tup (pv 5) pe_int (fun _ _=>rfl)) pa_nil)))) pa_nil)))
    (pss_one (ps_set (i:=5) nd rfl (Or.inl rfl) (pe_ix ix_tup (pv 11) pe_int (fun _ _=>rfl))))) pss_nil) ht7)⟩,?_⟩
    intro σ4 o8 o9 o10 o11 b r bt H' us S p q m h i hb B hi
    have lS:=B.lS
    have lu:=ln_len B.da
    refine ⟨_,rfl,r,m,h,p,q,rfl,B.er,B.bw.mm,B.bw.p0,B.bw.pq,B.bw.iw,fun st=>?_,fun v H1 s1 nst W=>?_⟩
    · exact ⟨_,rfl,rfl,_,rfl,iteF (k7 _ _ _ _ _ _ b r bt H' us S p q m h i hb B st (by omega))⟩
    · obtain ⟨e,f',m',h',⟨a',b',c',rfl,w1,w2,w3,W⟩,st⟩:=W
      have sr:SqT K H1 r [.int m,.int h]:=SqT.of (s1 _ _ B.er)
      have sw:SqT K H1 a' [.ref b',.ref c']:=SqT.of w1
      refine ⟨_,rfl,rfl,_,rfl,iteT ?_⟩
      refine ⟨_,rfl,.inl ⟨rfl,_,SqL.of (s1 _ _ B.el)⟩,_,rfl,_,_,_,_,rfl,rfl,sw,rfl,_,rfl,_,_,_,_,rfl,rfl,sr,rfl,_,rfl,_,_,_,_,rfl,rfl,sr,rfl,sz 3 (by decide),fun t2 h2=>?_⟩
      have u2:=same_new h2 (.tup [.ref b',.int m,.int h])
      have e2:upd H1 t2 (.tup [.ref b',.int m,.int h]) t2=some (.tup [.ref b',.int m,.int h]):=upd_same
      generalize upd H1 t2 (.tup [.ref b',.int m,.int h])=H2 at u2 e2 ⊢
      have s12:=s1.trans u2
      have l4:S.length≤4:=by
        rcases B.few with z | z | z
        · omega
        · exact z
        · exact absurd z nst
      refine ⟨b,us,_,rfl,rfl,s12 _ _ B.el,small1000 (by omega),?_⟩
      have B2:=B.push (t:=t2) hb s12 (u2 _ _ w2) (u2 _ _ w3) W e2 (.inr st)
      have t3:Tst H2 (upd H2 b (.lst (us++[.ref t2]))):=ts_mut (s12 _ _ B.el)
      refine ⟨_,rfl,_,_,_,_,rfl,rfl,SqT.of (t3.t _ _ (u2 _ _ w1)),rfl,?_⟩
      exact k7 _ _ _ _ _ _ b c' b' _ _ _ _ _ m' h' (i+1) hb B2 st (by simp;omega)
  obtain ⟨t5',ht5,k5⟩:=t5'
  have b2:∃ t,Hold (cxOf CX0 P w K mg base n_l_built "_law_built" (defScope s_l_built) f cdv A outer s H E).nox ((forBody32 (stAt32 s_l_built 4)).drop 2) t∧∀(N B':St→Hp→Prop) (σ4 o10 o11:Option V) (b r bt l:Addr) (H':Hp) (us vs:List V) (S:List St4) (p q m h:Int) (i:Nat),H b=none→Bi32 K H H' b r bt us S p q m h i→i≤4→
      H' l=some (.lst vs)→Wys m h p q H' vs→vs.length≤90→(∀ v∈vs,∀ e f m' h',WyAt m h p q H' v e f m' h'→i≤3∨Sty m' h')→
      (∀(o8 o9 o10 o11:Option V) (r bt:Addr) (H':Hp) (us:List V) (S:List St4) (p q m h:Int),Bi32 K H H' b r bt us S p q m h (i+1)→N [some (.ref a),some (.int 1),some (.int tt),some (.int 4),σ4,some (.ref r),some (.ref b),some (.ref bt),o8,o9,o10,o11] H')→
      t {nx:=N,ct:=N,bk:=B',rt:=Q} [some (.ref a),some (.int 1),some (.int tt),some (.int 4),σ4,some (.ref r),some (.ref b),some (.ref bt),some (.int (i:Int)),some (.ref l),o10,o11] H':=by
    refine ⟨_,⟨(pss_one (ps_if (pt_cmpR (op_samNe hu) (pv 9) (pe_lst pa_nil) (nomark _)) (pss_cons (ps_asg (pe_ix ix_list (pv 9) (pe_op op_modN (pe_def D_law_cell (hr.mono (by omega)) rfl (pa_cons (pv 0) (pa_cons (pe_op op_add (pe_op op_add (pv 1) pe_int) (pv 8)) pa_nil))) (pe_callB call_len rfl Z_len (by decide +kernel) (pa_cons (pv 9) pa_nil))) (fun _ _=>rfl)) (pg_tup rfl (pgs_cons (pg_name (i:=7) nd rfl (Or.inl rfl)) (pgs_cons (pg_name (i:=10) nd rfl (Or.inl rfl)) pgs_nil))))
    (pss_cons (ps_expr (pe_bm PySem.F.plainAttrs_list PySem.F.slot_list_append PySem.F.type_list_append mt_append (pv 6) (pa_cons (pe_tup (pa_cons (pv 7) (pa_cons (pe_ix ix_tup (pv 5) pe_int (fun _ _=>rfl)) (pa_cons (pe_ix ix_tup (pv 5) pe_int (fun _ _=>rfl)) pa_nil)))) pa_nil)))
    (pss_one (ps_set (i:=5) nd rfl (Or.inl rfl) (pv 10))))) pss_nil))⟩,?_⟩
    intro N B' σ4 o10 o11 b r bt l H' us vs S p q m h i hb B i4 el wy lv fit n
    have lS:=B.lS
    have lu:=ln_len B.da
    refine ⟨_,rfl,sz 0 (by decide),fun z hz=>?_⟩
    have u1:=same_new hz (.lst [])
    have e1:upd H' z (.lst []) z=some (.lst []):=upd_same
    generalize upd H' z (.lst [])=H1 at u1 e1 ⊢
    refine ⟨l,z,vs,[],rfl,rfl,SqL.of (u1 _ _ el),SqL.of e1,?_⟩
    by_cases ev:vs=[]
    · subst ev
      refine .inl ⟨rfl,(fun _ h=>nomatch h),_,rfl,iteF ?_⟩
      have B1:=B.to u1
      exact n _ _ _ _ r bt H1 us S p q m h ⟨B1.sm,B1.el,B1.da,B1.er,B1.et,B1.q8,B1.bw,by omega,by have:=B1.lS;omega⟩
    · have l0:=List.length_pos_iff.mpr ev
      refine .inr ⟨by simp;omega,_,rfl,iteT ?_⟩
      have l0':(0:Int) < (vs.length:Int):=by omega
      refine ⟨_,rfl,_,rfl,_,rfl,_,_,rfl,rfl,_,rfl,_,_,rfl,rfl,a,ns,1+1+(i:Int),rfl,S0.ts (B.sm.trans u1).ts,by omega,by omega,fun c _=>?_⟩
      have f0:=Int.fmod_nonneg_of_pos c l0'
      have f1:=Int.fmod_lt_of_pos c l0'
      refine ⟨_,rfl,_,_,rfl,.inl ⟨_,SqL.of (u1 _ _ el),rfl⟩,_,_,rfl,rfl,by omega,?_⟩
      have hj:vs[(c.fmod (vs.length:Int)).toNat]?=some (vs[(c.fmod (vs.length:Int)).toNat]'(by omega)):=List.getElem?_eq_getElem (by omega)
      have mj:vs[(c.fmod (vs.length:Int)).toNat]'(by omega)∈vs:=List.getElem_mem _
      obtain ⟨e,f',m',h',W0⟩:=wy _ mj
      have cc:=fit _ mj e f' m' h' W0
      obtain ⟨a',b',c',ew,w1,w2,w3,W⟩:=W0
      rw [ew] at hj
      refine ⟨_,_,_,_,rfl,rfl,SqL.of (u1 _ _ el),at_of f0 hj,a',_,rfl,SqT.of (u1 _ _ w1),rfl,_,_,rfl,_,_,rfl,rfl,?_⟩
      have sr:SqT K H1 r [.int m,.int h]:=SqT.of (u1 _ _ B.er)
      refine ⟨_,rfl,.inl ⟨rfl,_,SqL.of (u1 _ _ B.el)⟩,_,rfl,_,rfl,_,_,_,_,rfl,rfl,sr,rfl,_,rfl,_,_,_,_,rfl,rfl,sr,rfl,sz 3 (by decide),fun t2 h2=>?_⟩
      have u2:=same_new h2 (.tup [.ref b',.int m,.int h])
      have e2:upd H1 t2 (.tup [.ref b',.int m,.int h]) t2=some (.tup [.ref b',.int m,.int h]):=upd_same
      generalize upd H1 t2 (.tup [.ref b',.int m,.int h])=H2 at u2 e2 ⊢
      have s12:=u1.trans u2
      refine ⟨b,us,_,rfl,rfl,s12 _ _ B.el,small1000 (by omega),?_⟩
      have B2:=B.push (t:=t2) hb s12 (s12 _ _ w2) (s12 _ _ w3) W e2 cc
      exact ⟨_,rfl,n _ _ _ _ c' b' _ _ _ _ _ m' h' B2⟩
  obtain ⟨tb2,hb2,kb2⟩:=b2
  have r4:∃ t,Hold (cxOf CX0 P w K mg base n_l_built "_law_built" (defScope s_l_built) f cdv A outer s H E).nox ((defBody s_l_built).drop 2) t∧∀(σ4:Option V) (r:Addr) (H':Hp) (m h:Int),Same H H'→H' r=some (.tup [.int m,.int h])→((0≤m∧m≤4∧h=0)∨(m≤0∧-4≤m∧h=1))→
      t {nx:=fun _ H'=>Q .non H',rt:=Q} [some (.ref a),some (.int 1),some (.int tt),some (.int 4),σ4,some (.ref r),none,none,none,none,none,none] H':=by
    refine ⟨_,⟨pss_cons (ps_set (i:=6) nd rfl (Or.inl rfl) (pe_lst pa_nil)) (pss_cons (ps_set (i:=7) nd rfl (Or.inl rfl) (pe_tup (pa_cons pe_int (pa_cons pe_int pa_nil)))) (pss_consH (ps_for PassesOwn.never rfl (pi_range1 rfl Z_range (pa_cons (pv 2) pa_nil)) (pg_name (i:=8) nd rfl (Or.inl rfl)) (pss_cons (ps_set (i:=9) nd rfl (Or.inl rfl) (pe_def D__law_ways (hr.mono (by decide)) rfl (pa_cons (pv 5) (pa_cons (pv 7) (pa_cons (pv 3) pa_nil))))) (pss_consH (ps_if (pt_cmpR op_eq (pv 8) pe_int (nomark _)) (pss_one (ps_setF (i:=9) nd rfl (Or.inl rfl) (Or.inl rfl) rfl rfl (pi_list (pv 9)) rfl (by decide +kernel) (by decide +kernel) rfl (show ∀ p∈Scope.names _,p.2=NameKind.free→List.lookup p.1 (defScope s_l_built).names=some .cell∨List.lookup p.1 (defScope s_l_built).names=some .free by decide +kernel) fa_nil (show (["_law_one"]:List Str).Nodup by decide +kernel) (fun _ _ _ _=>(pif_one (pt_chain op_le op_le pe_int (pe_callB (call_sumT (K:=K) rfl rfl) rfl Z_sum (by decide +kernel) (pa_cons (pe_ix (ix_tupK (K:=K) rfl) (pv 0) pe_int (fun _ _=>rfl)) pa_nil)) pe_int))) (fun _ _ _ _=>(pv 0)))) pss_nil) hb2))) ht5))⟩,?_⟩
    intro σ4 r H' m h s0 er c
    refine ⟨sz 0 (by decide),fun b hb'=>?_⟩
    have hb:=s0.free hb'
    have u1:=same_new hb' (.lst [])
    have e1:upd H' b (.lst []) b=some (.lst []):=upd_same
    generalize upd H' b (.lst [])=H1 at u1 e1 ⊢
    refine ⟨sz 2 (by decide),fun bt ht=>?_⟩
    have u2:=same_new ht (.tup [V.int 0,.int 1])
    have e2:upd H1 bt (.tup [V.int 0,.int 1]) bt=some (.tup [V.int 0,.int 1]):=upd_same
    generalize upd H1 bt (.tup [V.int 0,.int 1])=H2 at u2 e2 ⊢
    refine ⟨_,rfl,_,rfl,by omega,by omega,?_⟩
    refine for_range (fun i σ H'=>∃(o8 o9 o10 o11:Option V) (r bt:Addr) (us:List V) (S:List St4) (p q m h:Int),σ=[some (.ref a),some (.int 1),some (.int tt),some (.int 4),σ4,some (.ref r),some (.ref b),some (.ref bt),o8,o9,o10,o11]∧Bi32 K H H' b r bt us S p q m h i)
      ⟨_,_,_,_,r,bt,[],[],0,1,m,h,rfl,(s0.trans u1).trans u2,u2 _ _ e1,rfl,(u1.trans u2) _ _ er,e2,by decide,Bw.start c,Nat.zero_le _,.inl (Nat.zero_le _)⟩ (fun i σ H3 hi z=>?_) (fun σ H3 z=>?_)
    · obtain ⟨o8,o9,o10,o11,r,bt,us,S,p,q,m,h,rfl,B⟩:=z
      have i4:i≤4:=by omega
      have e0:(0:Int)+(i:Int)=(i:Int):=by omega
      rw [e0]
      refine ⟨_,rfl,_,rfl,_,rfl,r,bt,m,h,p,q,rfl,B.er,B.et,B.bw.mm,B.bw.hh,B.bw.p0,B.bw.pq,B.q8,fun l vs H4 s4 hl el wy lv=>?_⟩
      refine ⟨_,rfl,rfl,_,rfl,ite2 (fun c=>?_) (fun c=>?_)⟩
      · have i4':i=4:=by have:=of_decide_eq_true c;injection this;omega
        dsimp only [gName,tSeq,tAsgC,List.set]
        refine comp_filt (fitB H4) (fun v=>v) (fun l' H'=>l'=l∧H'=H4) (fun R k=>⟨_,rfl,l,rfl,⟨_,SqL.of el⟩,k l H4 ⟨rfl,rfl⟩⟩) (fun l' H' z=>by obtain ⟨rfl,rfl⟩:=z;exact ⟨el,Same.refl _⟩) (by omega) (fun k v H5 N hk s5 hN=>?_) (fun k v H5 N hk hp s5 hN=>⟨_,rfl,hN _ (Same.refl _)⟩) (fun D H5 s5 hD eD=>?_)
        · obtain ⟨e,f',m',h',W0⟩:=wy v (List.mem_of_getElem? hk)
          have ef:=fit_of W0
          obtain ⟨a',b',c',rfl,w1,w2,w3,W⟩:=W0
          have es:[m',h'].sum=m'+h':=by simp
          refine ⟨_,rfl,_,_,_,_,rfl,rfl,SqT.of (s5 _ _ w1),rfl,c',[m',h'],rfl,SqT.of (s5 _ _ w3),?_⟩
          rw [es]
          have hN':=hN
          rw [ef] at hN'
          refine ⟨_,_,rfl,rfl,_,rfl,ite2 (fun c1=>?_) (fun c1=>?_)⟩
          · refine ⟨_,_,rfl,rfl,_,rfl,?_⟩
            have:(decide (0≤m'+h') && decide (m'+h'≤1))=decide (m'+h'≤1):=by rw [show decide (0≤m'+h')=true from c1,Bool.true_and]
            rw [this] at hN'
            exact hN' _ (Same.refl _)
          · refine ⟨_,rfl,?_⟩
            have:(decide (0≤m'+h') && decide (m'+h'≤1))=false:=by rw [show decide (0≤m'+h')=false from Bool.eq_false_iff.mpr c1,Bool.false_and]
            rw [this] at hN'
            exact hN' _ (Same.refl _)
        · rw [List.map_id'] at eD
          refine kb2 _ _ _ _ _ b r bt D H5 us (vs.filter (fitB H4)) S p q m h i hb ((B.to s4).to s5) i4 eD (fun v hv=>?_) (Nat.le_trans (List.length_filter_le _ _) lv) (fun v hv e f' m' h' W=>?_) fun o8 o9 o10 o11 r bt H' us S p q m h B=>⟨_,_,_,_,r,bt,us,S,p,q,m,h,rfl,B⟩
          · obtain ⟨e,f',m',h',y⟩:=wy v (List.mem_filter.mp hv).1
            exact ⟨e,f',m',h',y.to (Kp.of s5)⟩
          · obtain ⟨h1,h2⟩:=List.mem_filter.mp hv
            obtain ⟨e2,f2,m2,h2',y⟩:=wy v h1
            rw [fit_of y,Bool.and_eq_true] at h2
            have em:m'=m2∧h'=h2':=by
              obtain ⟨a',b',c',rfl,w1,w2,w3,_⟩:=y.to (Kp.of s5)
              obtain ⟨a2,b2,c2,e2,v1,v2,v3,_⟩:=W
              cases e2
              rw [w1] at v1
              cases v1
              rw [w3] at v3
              cases v3
              exact ⟨rfl,rfl⟩
            have z1:=of_decide_eq_true h2.1
            have z2:=of_decide_eq_true h2.2
            exact .inr ⟨by omega,by omega⟩
      · have ni:¬ (i:Int)=4:=fun z=>c (decide_eq_true (congrArg V.int z))
        exact kb2 _ _ _ _ _ b r bt l H4 us vs S p q m h i hb (B.to s4) i4 el wy lv (fun _ _ _ _ _ _ _=>.inl (by omega)) fun o8 o9 o10 o11 r bt H' us S p q m h B=>⟨_,_,_,_,r,bt,us,S,p,q,m,h,rfl,B⟩
    · obtain ⟨o8,o9,o10,o11,r,bt,us,S,p,q,m,h,rfl,B⟩:=z
      exact k5 _ _ _ _ _ b r bt H3 us S p q m h _ hb B (by omega)
  obtain ⟨t2,ht2,k2⟩:=r4
  refine ⟨_,pss_cons (ps_set (i:=4) nd rfl (Or.inl rfl) (pe_def D_law_cell (hr.mono (by omega)) rfl (pa_cons (pv 0) (pa_cons (pv 1) pa_nil)))) (pss_consH (ps_set (i:=5) nd rfl (Or.inl rfl) (pe_ix ix_list (pe_lst (pa_cons (pe_tup (pa_cons (pe_op op_modN (pe_op op_fdiv (pv 4) pe_int) (pe_op op_add (pv 3) pe_int)) (pa_cons pe_int pa_nil))) (pa_cons (pe_tup (pa_cons (pe_un un_neg (pe_op op_modN (pe_op op_fdiv (pv 4) pe_int) (pe_op op_add (pv 3) pe_int))) (pa_cons pe_int pa_nil))) pa_nil))) (pe_op op_mod (pv 4) pe_int) (fun _ _=>rfl))) ht2),?_⟩
  refine ⟨_,rfl,_,rfl,a,ns,1,rfl,S0,by decide,by decide,fun v _=>?_⟩
  have e1:=Int.emod_nonneg v (show (2:Int)≠0 by decide)
  have e2:=Int.emod_lt_of_pos v (show (0:Int) < 2 by decide)
  have f0:=Int.fmod_nonneg_of_pos (v / 2) (show (0:Int) < 4+1 by decide)
  have f1:=Int.fmod_lt_of_pos (v / 2) (show (0:Int) < 4+1 by decide)
  refine ⟨_,rfl,_,_,rfl,rfl,⟨by decide,by decide⟩,_,rfl,_,_,rfl,rfl,_,_,rfl,rfl,(by show (4+1:Int)≠0;decide),sz 2 (by decide),fun p1 hp1=>?_⟩
  have u1:=same_new hp1 (.tup [V.int ((v / 2).fmod (4+1)),.int 0])
  refine ⟨_,rfl,_,_,rfl,rfl,⟨by decide,by decide⟩,_,rfl,_,_,rfl,rfl,_,_,rfl,rfl,(by show (4+1:Int)≠0;decide),_,rfl,sz 2 (by decide),fun p2 hp2=>?_⟩
  have u2:=same_new hp2 (.tup [V.int (-(v / 2).fmod (4+1)),.int 1])
  refine ⟨sz 2 (by decide),fun p3 hp3=>?_⟩
  have u3:=same_new hp3 (.lst [V.ref p1,.ref p2])
  refine ⟨_,rfl,_,_,rfl,rfl,(by show (0:Int) < 2;decide),?_⟩
  have cs:v % 2=0∨v % 2=1:=by omega
  rcases cs with z | z
  · refine ⟨_,_,_,_,rfl,rfl,SqL.of upd_same,(by show atI _ (v % 2)=_;rw [z];rfl),?_⟩
    exact k2 _ p1 _ _ _ ((u1.trans u2).trans u3) ((u2.trans u3) _ _ upd_same) (.inl ⟨f0,by omega,rfl⟩)
  · refine ⟨_,_,_,_,rfl,rfl,SqL.of upd_same,(by show atI _ (v % 2)=_;rw [z];rfl),?_⟩
    exact k2 _ p2 _ _ _ ((u1.trans u2).trans u3) (u3 _ _ upd_same) (.inr ⟨by omega,by omega,rfl⟩)
end
end Mine
namespace Mine
open PySem L2
theorem TyOf.same {K:PySem.W.Frag} {H H':Hp} {v:V} {T:Value} (h:TyOf K H v T) (s:Same H H'):TyOf K H' v T:=by
  cases h with
  | non=>exact .non
  | bl x=>exact .bl x
  | int i=>exact .int i
  | str x=>exact .str x
  | flt x=>exact .flt x
  | lst e=>exact .lst (s _ _ e)
  | frz e=>exact .frz (s _ _ e)
  | tup e=>exact .tup (s _ _ e)
  | dK e=>exact .dK (s _ _ e)
  | dT e=>exact .dT (s _ _ e)
  | ins e a b c d f=>exact .ins (s _ _ e) a b c d f
inductive E13 where
  | int (i:Int) | str (x:Str) | bl (b:Bool) | non | tup
noncomputable def EV (H:Hp) (v:V):E13→Prop
  | .int i=>v=.int i
  | .str x=>v=.str x
  | .bl b=>v=.bl b
  | .non=>v=.non
  | .tup=>∃ a xs,v=.ref a∧H a=some (.tup xs)
theorem EV.same {H H':Hp} (s:Same H H') (v:V) (e:E13) (h:EV H v e):EV H' v e:=by
  cases e with
  | tup=>obtain ⟨a,xs,h1,h2⟩:=h;exact ⟨a,xs,h1,s _ _ h2⟩
  | _=>exact h
noncomputable def E13.ahead (k:Nat):E13→Bool
  | .int i=>decide (0≤i) && decide (i < (k:Int))
  | _=>false
noncomputable def howV (w:Str):V:=match PyProof.Rows.KTD.datumAt w TK with | some n=>.int n | none=>.non
noncomputable abbrev Tg:=Option (List E13)
noncomputable def TgV (K:PySem.W.Frag) (H:Hp) (v:V) (o:Tg):Prop:=noFlt v=true∧match o with
  | none=>∃ T,TyOf K H v T∧PySem.W.kitOne K T (.type "tuple")=some false
  | some es=>es.length≤20∧∃ a xs,v=.ref a∧H a=some (.tup xs)∧All2 (EV H) xs es
theorem TgV.same {K:PySem.W.Frag} {H H':Hp} (s:Same H H') (v:V) (o:Tg) (h:TgV K H v o):TgV K H' v o:=by
  cases o with
  | none=>obtain ⟨n,T,h1,h2⟩:=h;exact ⟨n,T,TyOf.same h1 s,h2⟩
  | some es=>obtain ⟨n,l,a,xs,h1,h2,h3⟩:=h;exact ⟨n,l,a,xs,h1,s _ _ h2,h3.imp (EV.same s)⟩
noncomputable def rowOk (k:Nat):Tg→Bool
  | some (.str w::es)=>decide (howV w=.int (es.length:Int)) && es.all (E13.ahead k)
  | _=>false
noncomputable def tgOk (k:Nat) (o:Tg):Bool:=decide (k < 400) && rowOk k o
noncomputable def fltFrom:Nat→List Tg→Option Nat
  | _,[]=>none
  | k,o::r=>if tgOk k o then fltFrom (k+1) r else some k
noncomputable def flt13 (os:List Tg):Option Nat:=match os with | []=>some 0 | _=>fltFrom 0 os
noncomputable def optV:Option Nat→V
  | none=>.non
  | some k=>.int (k:Int)
structure Kit13 (K:PySem.W.Frag):Prop where
  ni:PySem.W.kitOne K (.type "NoneType") (.type "int")=some false
  si:PySem.W.kitOne K (.type "str") (.type "int")=some false
  ti:PySem.W.kitOne K (.type "tuple") (.type "int")=some false
  bi:PySem.W.kitOne K (.type "bool") (.type "int")=some true
  ib:PySem.W.kitOne K (.type "int") (.type "bool")=some false
  ns:PySem.W.kitOne K (.type "NoneType") (.type "str")=some false
  is:PySem.W.kitOne K (.type "int") (.type "str")=some false
  bs:PySem.W.kitOne K (.type "bool") (.type "str")=some false
  ts:PySem.W.kitOne K (.type "tuple") (.type "str")=some false
  nt:PySem.W.kitOne K (.type "NoneType") (.type "tuple")=some false
  it:PySem.W.kitOne K (.type "int") (.type "tuple")=some false
  st:PySem.W.kitOne K (.type "str") (.type "tuple")=some false
  bt:PySem.W.kitOne K (.type "bool") (.type "tuple")=some false
  lt:PySem.W.kitOne K (.type "list") (.type "tuple")=some false
  dt:PySem.W.kitOne K (.type "dict") (.type "tuple")=some false
theorem EV.ty {K:PySem.W.Frag} {H:Hp} {v:V} {e:E13} (h:EV H v e):∃ T,TyOf K H v T∧T=(match e with | .int _=>.type "int" | .str _=>.type "str" | .bl _=>.type "bool" | .non=>.type "NoneType" | .tup=>.type "tuple"):=by
  cases e with
  | int i=>cases (show v=_ from h);exact ⟨_,.int i,rfl⟩
  | str x=>cases (show v=_ from h);exact ⟨_,.str x,rfl⟩
  | bl b=>cases (show v=_ from h);exact ⟨_,.bl b,rfl⟩
  | non=>cases (show v=_ from h);exact ⟨_,.non,rfl⟩
  | tup=>obtain ⟨a,xs,rfl,h2⟩:=h;exact ⟨_,.tup h2,rfl⟩
noncomputable def E13.isInt:E13→Bool
  | .int _=>true
  | _=>false
noncomputable def E13.isStr:E13→Bool
  | .str _=>true
  | _=>false
theorem EV.str {K:PySem.W.Frag} {H:Hp} {v:V} {e:E13} (kk:Kit13 K) (h:EV H v e):∃ T,TyOf K H v T∧PySem.W.kitOne K T (.type "str")=some e.isStr:=by
  obtain ⟨T,t,rfl⟩:=EV.ty (K:=K) h
  refine ⟨_,t,?_⟩
  cases e with
  | int i=>exact kk.is
  | str x=>exact kit_same
  | bl b=>exact kk.bs
  | non=>exact kk.ns
  | tup=>exact kk.ts
theorem all_ahead (es:List E13) (k:Nat):(es.map (E13.ahead k)).all id=es.all (E13.ahead k):=by rw [List.all_map];rfl
theorem drop_at13 {α:Type} {xs:List α} {i:Nat} {x:α} (h:xs[i]?=some x):xs.drop i=x::xs.drop (i+1):=by
  obtain ⟨hi,e⟩:=List.getElem?_eq_some_iff.mp h
  rw [List.drop_eq_getElem_cons hi,e]
end Mine
namespace Mine
open PySem L2
theorem datum_none {w:Str}:∀{D:List (Str×Int)},w ∉ D.map Prod.fst→PyProof.Rows.KTD.datumAt w D=none
  | [],_=>rfl
  | (x,d)::D,h=>by
    unfold PyProof.Rows.KTD.datumAt
    rw [if_neg (fun z=>h (by rw [of_decide_eq_true z];exact List.mem_cons_self))]
    exact datum_none fun z=>h (List.mem_cons_of_mem _ z)
theorem how_none {w:Str} (h:w ∉ TK.map Prod.fst):howV w=.non:=by unfold howV;rw [datum_none h]
theorem inV_strs {w:Str}:∀{L:List Str},inV (.str w) (L.map V.str)=true→w∈L
  | [],h=>by cases h
  | x::r,h=>by
    have h':((x == w) || inV (.str w) (r.map V.str))=true:=h
    rw [Bool.or_eq_true] at h'
    rcases h' with z | z
    · rw [beq_iff_eq] at z;rw [z];exact List.mem_cons_self
    · exact List.mem_cons_of_mem _ (inV_strs z)
theorem words_ok {n:Nat} {L:List Str} (h1:∀ x∈TK.map Prod.fst,decide (howV x=.int (n:Int))=inV (.str x) (L.map V.str)) (h2:∀ x∈L,x∈TK.map Prod.fst) (w:Str):inV (.str w) (L.map V.str)=decide (howV w=.int (n:Int)):=by
  by_cases hm:w∈TK.map Prod.fst
  · exact (h1 w hm).symm
  · rw [how_none hm,decide_eq_false (fun z=>nomatch z)]
    cases e:inV (.str w) (L.map V.str) with
    | false=>rfl
    | true=>exact absurd (h2 w (inV_strs e)) hm
noncomputable abbrev W0:List Str:=["never","always","p","q"]
noncomputable abbrev W1:List Str:=["not"]
noncomputable abbrev W2:List Str:=["more","less","greater","lesser","leads"]
theorem in_W0 (w:Str):inV (.str w) (W0.map V.str)=decide (howV w=.int ((0:Nat):Int)):=words_ok (by decide +kernel) (by decide +kernel) w
theorem in_W1 (w:Str):inV (.str w) (W1.map V.str)=decide (howV w=.int ((1:Nat):Int)):=words_ok (by decide +kernel) (by decide +kernel) w
theorem in_W2 (w:Str):inV (.str w) (W2.map V.str)=decide (howV w=.int ((2:Nat):Int)):=words_ok (by decide +kernel) (by decide +kernel) w
noncomputable def smallV:V→Bool
  | .int i=>decide (i≤2)
  | _=>true
theorem how_small (w:Str):smallV (howV w)=true:=by
  by_cases hm:w∈TK.map Prod.fst
  · exact (show ∀ x∈TK.map Prod.fst,smallV (howV x)=true by decide +kernel) w hm
  · rw [how_none hm];rfl
theorem how_big {w:Str} {n:Nat} (h:3≤n):decide (howV w=.int (n:Int))=false:=decide_eq_false fun z=>by
  have:=how_small w
  rw [z] at this
  have:=of_decide_eq_true this
  omega
theorem strs_of {σ:St} {H:Hp}:∀{L:List Str} {us:List V},LtVs σ H (L.map Lt.str) us→us=L.map V.str
  | [],_,h=>h
  | x::r,_,⟨u,t,h1,h2,h3⟩=>by
    subst h1
    cases (show u=V.str x from h2)
    rw [strs_of h3]
    rfl
theorem flat_strs (L:List Str):(L.map V.str).all flatV=true:=by
  rw [List.all_eq_true]
  intro v hv
  obtain ⟨x,_,rfl⟩:=List.mem_map.mp hv
  rfl
noncomputable def tup13 (s:Stmt):Expr:=match s with
  | .If (.BoolOp _ [_,.Compare _ _ [e] _,_] _) _ _ _=>e
  | _=>.Constant .none 0 ⟨0,0,0,0⟩
noncomputable def spLWhole:Sp:=fun vs H Q _=>∃(x:V) (e:E13),vs=[x]∧EV H x e∧Q (.bl e.isInt) H
noncomputable def spLRow (K:PySem.W.Frag):Sp:=fun vs H Q _=>∃(x:V) (k:Nat) (o:Tg),vs=[x,.int (k:Int)]∧TgV K H x o∧∀ H',Same H H'→Q (.bl (rowOk k o)) H'
noncomputable def spLFault (K:PySem.W.Frag):Sp:=fun vs H Q _=>∃(l:Addr) (us:List V) (os:List Tg),vs=[.ref l]∧H l=some (.lst us)∧All2 (TgV K H) us os∧os.length≤1000∧∀ H',Same H H'→Q (optV (flt13 os)) H'
theorem len_in {n:Nat} (h:1≤n) (h':n≤3):inV (.int (n:Int)) [V.int 1,V.int 2,V.int 3]=true:=by
  have:n=1∨n=2∨n=3:=by omega
  rcases this with rfl | rfl | rfl <;> rfl
theorem len_out {n:Nat} (h:3 < n):inV (.int (n:Int)) [V.int 1,V.int 2,V.int 3]=false:=by
  unfold inV
  simp only [List.any_cons,List.any_nil,eqV,Bool.or_false]
  rw [Bool.or_eq_false_iff,Bool.or_eq_false_iff]
  refine ⟨beq_eq_false_iff_ne.mpr ?_,beq_eq_false_iff_ne.mpr ?_,beq_eq_false_iff_ne.mpr ?_⟩ <;> omega
section
variable {P:Program} {w:World} {K:PySem.W.Frag} {mg:Str→Option Value} {base:Heap}
theorem ok_lwhole (T:TopDef K mg "_law_whole" s_l_whole) (Z_isinstance:mg "isinstance"=none) (Z_int:mg "int"=none) (Z_bool:mg "bool"=none) (kk:Kit13 K):Def P w K mg base 1 "_law_whole" ["_law_found"] spLWhole:=by
  refine def_of T sc_l_whole (fun _ _ _ _ _ _ us hl=>match us,hl with | [_],_=>rfl) (fun vs H Q E h=>?_) (fun f cdv A outer s H vs Q E hr h=>?_)
  · obtain ⟨x,e,rfl,_⟩:=h
    rfl
  obtain ⟨x,e,rfl,ev,q⟩:=h
  have nd:=sc_l_whole.nd
  obtain ⟨T,t,rfl⟩:=EV.ty (K:=K) ev
  refine ⟨_,(pss_one (ps_ret (pe_and (pe_callB call_isi rfl Z_isinstance (by decide +kernel) (pa_cons (pv 0) (pa_cons (pe_bltn (v:=V.ty "int") rfl Z_int (by decide +kernel) rfl) pa_nil))) (pe_one (pe_not (pe_callB call_isi rfl Z_isinstance (by decide +kernel) (pa_cons (pv 0) (pa_cons (pe_bltn (v:=V.ty "bool") rfl Z_bool (by decide +kernel) rfl) pa_nil)))))))),?_⟩
  cases e with
  | int i=>exact ⟨_,rfl,_,_,_,_,true,rfl,(fun _ h=>h),t,kit_same,_,rfl,iteT ⟨_,rfl,_,_,_,_,false,rfl,(fun _ h=>h),t,kk.ib,_,rfl,q⟩⟩
  | bl b=>exact ⟨_,rfl,_,_,_,_,true,rfl,(fun _ h=>h),t,kk.bi,_,rfl,iteT ⟨_,rfl,_,_,_,_,true,rfl,(fun _ h=>h),t,kit_same,_,rfl,q⟩⟩
  | str x=>exact ⟨_,rfl,_,_,_,_,false,rfl,(fun _ h=>h),t,kk.si,_,rfl,iteF q⟩
  | non=>exact ⟨_,rfl,_,_,_,_,false,rfl,(fun _ h=>h),t,kk.ni,_,rfl,iteF q⟩
  | tup=>exact ⟨_,rfl,_,_,_,_,false,rfl,(fun _ h=>h),t,kk.ti,_,rfl,iteF q⟩
theorem ok_lrow (T:TopDef K mg "_law_row" s_l_row) (Z_isinstance:mg "isinstance"=none) (Z_tuple:mg "tuple"=none) (Z_len:mg "len"=none) (Z_str:mg "str"=none) (Z_all:mg "all"=none) (kk:Kit13 K)
    (D_law_whole:Def P w K mg base 1 "_law_whole" ["_law_found"] spLWhole):Def P w K mg base 2 "_law_row" ["_law_thing","_law_at"] (spLRow K):=by
  refine def_of T sc_l_row (fun _ _ _ _ _ _ us hl=>match us,hl with | [_,_],_=>rfl) (fun vs H Q E h=>?_) (fun f cdv A outer s H vs Q E hr h=>?_)
  · obtain ⟨x,k,g,rfl,_⟩:=h
    rfl
  obtain ⟨x,k,o,rfl,⟨_,gv⟩,q⟩:=h
  have nd:=sc_l_row.nd
  have cm:∃ te,PE (cxOf CX0 P w K mg base n_l_row "_law_row" (defScope s_l_row) f cdv A outer s H E).nox (irArg ((defBody s_l_row).getD 3 (.Pass ⟨0,0,0,0⟩))) te∧∀(a:Addr) (y:V) (ys:List V) (es:List E13) (o2:Option V) (H0:Hp) (Q':VK),H0 a=some (.tup (y::ys))→All2 (EV H0) ys es→es.length≤20→(∀ D H4,Same H0 H4→H4 D=some (.lst (es.map fun e=>.bl (e.ahead k)))→Q' (.ref D) H4)→te [some (.ref a),some (.int (k:Int)),o2] H0 Q':=by
    refine ⟨_,(pe_compF rfl (pi_tup (pe_slice sl_tupA (pv 0) (po_some pe_int) po_none)) rfl (by decide +kernel) (by decide +kernel) rfl (show ∀ p∈Scope.names _,p.2=NameKind.free→List.lookup p.1 (defScope s_l_row).names=some .cell∨List.lookup p.1 (defScope s_l_row).names=some .free by decide +kernel) (fa_cons (j:=1) rfl (Or.inl rfl) (by decide +kernel) (Or.inl rfl) fa_nil) (show (["_law_number","_law_at"]:List Str).Nodup by decide +kernel) (fun _ _ _ _=>pif_nil) (fun _ _ _ _=>(pe_and (pe_def D_law_whole (hr.mono (by omega)) rfl (pa_cons (pv 0) pa_nil)) (pe_one (pe_chain op_le op_lt pe_int (pv 0) (pv 1)))))),?_⟩
    intro a y ys es o2 H0 Q' e al le fin
    have gl:=al.len
    refine comp_from ?_
    refine ⟨_,rfl,_,rfl,?_⟩
    dsimp only [tNoPart]
    refine sl1 (K:=K) e fun p1 hp1=>?_
    refine ⟨p1,rfl,⟨_,SqT.of upd_same⟩,?_⟩
    have sp:=same_new hp1 (.tup ys)
    refine comp_mapT (K:=K) (ts:=es) (R:=fun H' v e=>EV H' v e) (xs:=ys) (fun e:E13=>.bl (e.ahead k)) (fun _ _ v t s h=>EV.same s v t h) (fun l H'=>l=p1∧H'=upd H0 p1 (.tup ys)) (fun R h=>h p1 _ ⟨rfl,rfl⟩) (fun l H' h=>by obtain ⟨rfl,rfl⟩:=h;exact ⟨upd_same,Same.refl _⟩) (by omega)
      (al.imp (EV.same sp)) (fun v e H' N hi hv hN=>?_) (fun D H4 s4 hD eD=>fin D H4 (sp.trans s4) eD)
    refine ⟨_,rfl,v,e,rfl,hv,_,rfl,?_⟩
    cases e with
    | int i =>
      cases (show v=_ from hv)
      refine iteT ⟨_,rfl,_,_,rfl,rfl,_,rfl,?_⟩
      have q':N (.bl (decide (0≤i) && decide (i < (k:Int)))) H':=hN _ (Same.refl _)
      refine ite2 (fun c=>?_) (fun c=>?_)
      · rw [c,Bool.true_and] at q'
        exact ⟨_,rfl,_,_,rfl,rfl,q'⟩
      · rw [Bool.not_eq_true] at c
        rw [c,Bool.false_and] at q'
        exact q'
    | _=>exact iteF (hN _ (Same.refl _))
  obtain ⟨tC,htC,hqC⟩:=cm
  have tl:∃ t,Hold (cxOf CX0 P w K mg base n_l_row "_law_row" (defScope s_l_row) f cdv A outer s H E).nox ((defBody s_l_row).drop 2) t∧∀(a b b0 b1 b2:Addr) (u:Str) (ys:List V) (es:List E13) (H4:Hp),Same H H4→H4 a=some (.tup (V.str u::ys))→All2 (EV H4) ys es→es.length≤2→H4 b=some (.lst [V.ref b0,V.ref b1,V.ref b2])→H4 b0=some (.lst (W0.map V.str))→H4 b1=some (.lst (W1.map V.str))→H4 b2=some (.lst (W2.map V.str))→
      (∀ H',Same H H'→Q (.bl (rowOk k (some (.str u::es)))) H')→t {nx:=fun _ H'=>Q .non H',rt:=Q} [some (.ref a),some (.int (k:Int)),some (.ref b)] H4:=by
    refine ⟨_,⟨(pss_cons (ps_if (pt_cmpR op_notIn_seq (pe_ix ix_tup (pv 0) pe_int (fun _ _=>rfl)) (pe_ix ix_list (pv 2) (pe_op op_sub (pe_callB call_len rfl Z_len (by decide +kernel) (pa_cons (pv 0) pa_nil)) pe_int) (fun _ _=>rfl)) rfl) (pss_one (ps_ret pe_bl)) pss_nil)
    (pss_one (ps_ret (pe_callB (call_all rfl) rfl Z_all (by decide +kernel) (pa_cons htC pa_nil)))))⟩,?_⟩
    intro a b b0 b1 b2 u ys es H4 sH e4 al4 le' eb eb0 eb1 eb2 q
    obtain ⟨b',L,hat,eb',hin⟩:∃(b':Addr) (L:List Str),atI [V.ref b0,V.ref b1,V.ref b2] ((((V.str u::ys).length:Nat):Int) - 1)=some (.ref b')∧H4 b'=some (.lst (L.map V.str))∧inV (.str u) (L.map V.str)=decide (howV u=.int (es.length:Int)):=by
      have hl:(((V.str u::ys).length:Nat):Int) - 1=(es.length:Int):=by rw [List.length_cons,al4.len];omega
      rw [hl]
      have:es.length=0∨es.length=1∨es.length=2:=by omega
      rcases this with z | z | z <;> rw [z]
      · exact ⟨b0,W0,rfl,eb0,in_W0 u⟩
      · exact ⟨b1,W1,rfl,eb1,in_W1 u⟩
      · exact ⟨b2,W2,rfl,eb2,in_W2 u⟩
    refine ⟨_,rfl,_,_,_,_,rfl,rfl,SqT.of e4,at0,_,rfl,_,rfl,_,_,rfl,.inr ⟨_,SqT.of e4,rfl⟩,_,_,rfl,rfl,_,_,_,_,rfl,rfl,SqL.of eb,hat,b',_,rfl,.inl (SqL.of eb'),rfl,flat_strs _,_,rfl,?_⟩
    show if (!inV (.str u) (L.map V.str))=true then _ else _
    rw [hin]
    by_cases hw:howV u=.int (es.length:Int)
    · rw [decide_eq_true hw]
      refine iteF ?_
      refine hqC a _ ys es _ _ _ e4 al4 (by omega) fun D H5 s5 eD=>?_
      refine ⟨D,es.map (E13.ahead k),rfl,SqL.of (by rw [List.map_map];exact eD),?_⟩
      rw [all_ahead]
      have:=q _ (sH.trans s5)
      rwa [rowOk,decide_eq_true hw,Bool.true_and] at this
    · rw [decide_eq_false hw]
      have:=q _ sH
      rw [rowOk,decide_eq_false hw,Bool.false_and] at this
      exact iteT this
  obtain ⟨tT,htT,hqT⟩:=tl
  have xW:∃ t,Hold (cxOf CX0 P w K mg base n_l_row "_law_row" (defScope s_l_row) f cdv A outer s H E).nox ((defBody s_l_row).drop 1) t∧∀ D σ H,ltVar σ (.lst [(.lst [(.str "never"),(.str "always"),(.str "p"),(.str "q")]),(.lst [(.str "not")]),(.lst [(.str "more"),(.str "less"),(.str "greater"),(.str "lesser"),(.str "leads")])])=true→(∀ v H',Same H H'→LtV σ H' (.lst [(.lst [(.str "never"),(.str "always"),(.str "p"),(.str "q")]),(.lst [(.str "not")]),(.lst [(.str "more"),(.str "less"),(.str "greater"),(.str "lesser"),(.str "leads")])]) v→tT D (σ.set 2 (some v)) H')→t D σ H:=by
    refine set_lit (N:=n_l_row) (sc:=defScope s_l_row) ?_ htT ?_ ?_ nd ?_ ?_ ?_ ?_
    · kernel_rfl
    · rfl
    · rfl
    · rfl
    · exact Or.inl rfl
    · rfl
    · exact Or.inr rfl
  obtain ⟨tW,htW,hqW⟩:=xW
  have x3:∃ te,PE (cxOf CX0 P w K mg base n_l_row "_law_row" (defScope s_l_row) f cdv A outer s H E).nox (tup13 ((defBody s_l_row).getD 0 (.Pass ⟨0,0,0,0⟩))) te∧∀ σ H Q,ltVar σ (.tup [.int 1,.int 2,.int 3])=true→(∀ v H',Same H H'→LtV σ H' (.tup [.int 1,.int 2,.int 3]) v→Q v H')→te σ H Q:=by
    refine lit_ex (N:=n_l_row) (sc:=defScope s_l_row) ?_ ?_ ?_
    · kernel_rfl
    · rfl
    · rfl
  obtain ⟨t3,ht3,hq3⟩:=x3
  refine ⟨_,pss_consH (ps_if (PW.pt (pw_or (pt_not (pt_val (pe_callB call_isi rfl Z_isinstance (by decide +kernel) (pa_cons (pv 0) (pa_cons (pe_bltn (v:=V.ty "tuple") rfl Z_tuple (by decide +kernel) rfl) pa_nil))))) (pw_or (pt_cmpR op_notIn_seq (pe_callB call_len rfl Z_len (by decide +kernel) (pa_cons (pv 0) pa_nil)) (by assumption) rfl) (pw_or1 (pt_not (pt_val (pe_callB call_isi rfl Z_isinstance (by decide +kernel) (pa_cons (pe_ix ix_tup (pv 0) pe_int (fun _ _=>rfl)) (pa_cons (pe_bltn (v:=V.ty "str") rfl Z_str (by decide +kernel) rfl) pa_nil))))))))) (pss_one (ps_ret pe_bl)) pss_nil) htW,?_⟩
  cases o with
  | none =>
    obtain ⟨T,ty,k1⟩:=gv
    exact ⟨_,rfl,_,_,_,_,false,rfl,(fun _ h=>h),ty,k1,_,rfl,iteT (q _ (Same.refl _))⟩
  | some es =>
    obtain ⟨le,a,xs,rfl,e,al⟩:=gv
    refine ⟨_,rfl,_,_,_,_,true,rfl,(fun _ h=>h),TyOf.tup e,kit_same,_,rfl,iteF ?_⟩
    refine ⟨_,rfl,_,_,rfl,.inr ⟨_,SqT.of e,rfl⟩,?_⟩
    refine hq3 _ _ _ rfl fun v3 H3 s3 l3=>?_
    obtain ⟨p3,_,rfl,ep3,_,_,rfl,rfl,_,_,rfl,rfl,_,_,rfl,rfl,rfl⟩:=l3
    refine ⟨p3,_,rfl,.inr (SqT.of ep3),rfl,rfl,_,rfl,?_⟩
    have el:=al.len
    show if (!inV (V.int ((xs.length:Nat):Int)) [V.int 1,V.int 2,V.int 3])=true then _ else _
    rw [el]
    by_cases h3:3 < es.length
    · rw [len_out h3]
      have:=q _ s3
      have er:rowOk k (some es)=false:=by
        cases es with
        | nil=>rfl
        | cons e0 r =>
          cases e0 with
          | str u =>
            show (decide (howV u=.int (r.length:Int)) && _)=false
            rw [how_big (by simp at h3;omega),Bool.false_and]
          | _=>rfl
      rw [er] at this
      exact iteT this
    cases al with
    | nil=>exact iteT (q _ s3)
    | @cons y e0 ys es ev al =>
      rw [len_in (by rw [List.length_cons];omega) (by omega)]
      refine iteF ?_
      have e':=s3 _ _ e
      have al':=al.imp (EV.same s3)
      have ev':=EV.same s3 _ _ ev
      obtain ⟨T,t,kt⟩:=EV.str kk ev'
      refine ⟨_,rfl,_,_,_,_,rfl,rfl,SqT.of e',at0,_,_,_,_,_,rfl,(fun _ h=>h),t,kt,_,rfl,?_⟩
      cases e0 with
      | str u =>
        cases (show y=_ from ev)
        refine iteF ?_
        refine hqW _ _ _ rfl fun v4 H4 s4 l4=>?_
        obtain ⟨b,us,rfl,eb,u0,_,rfl,⟨b0,w0,rfl,eb0,l0⟩,u1,_,rfl,⟨b1,w1,rfl,eb1,l1⟩,u2,_,rfl,⟨b2,w2,rfl,eb2,l2⟩,rfl⟩:=l4
        have z0:=strs_of (L:=W0) l0
        have z1:=strs_of (L:=W1) l1
        have z2:=strs_of (L:=W2) l2
        subst z0 z1 z2
        exact hqT a b b0 b1 b2 u ys es H4 (s3.trans s4) (s4 _ _ e') (al'.imp (EV.same s4)) (by rw [List.length_cons] at h3;omega) eb eb0 eb1 eb2 q
      | int i=>exact iteT (q _ s3)
      | bl b=>exact iteT (q _ s3)
      | non=>exact iteT (q _ s3)
      | tup=>exact iteT (q _ s3)
theorem ok_lfault (T:TopDef K mg "_law_fault" s_l_fault) (Z_range:mg "range"=none) (Z_len:mg "len"=none) (D_law_row:Def P w K mg base 2 "_law_row" ["_law_thing","_law_at"] (spLRow K)):Def P w K mg base 3 "_law_fault" ["_law_things"] (spLFault K):=by
  refine def_of T sc_l_fault (fun _ _ _ _ _ _ us hl=>match us,hl with | [_],_=>rfl) (fun vs H Q E h=>?_) (fun f cdv A outer s H vs Q E hr h=>?_)
  · obtain ⟨l,us,os,rfl,_⟩:=h
    rfl
  obtain ⟨l,us,os,rfl,el,al,few,q⟩:=h
  have nd:=sc_l_fault.nd
  have hu:=hr.units
  have lu:=al.len
  refine ⟨_,(pss_cons (ps_if (pt_cmpR (op_samEq hu) (pv 0) (pe_lst pa_nil) (nomark _)) (pss_one (ps_ret pe_int)) pss_nil)
    (pss_cons (ps_for PassesOwn.never rfl (pi_range1 rfl Z_range (pa_cons (pe_callB call_len rfl Z_len (by decide +kernel) (pa_cons (pv 0) pa_nil)) pa_nil)) (pg_name (i:=1) nd rfl (Or.inl rfl)) (pss_one (ps_if (PW.pt (pw_or (pt_cmpR op_gt (pv 1) pe_int (nomark _)) (pw_or1 (pt_not (pt_val (pe_def D_law_row (hr.mono (by omega)) rfl (pa_cons (pe_ix ix_list (pv 0) (pv 1) (fun _ _=>rfl)) (pa_cons (pv 1) pa_nil)))))))) (pss_one (ps_ret (pv 1))) pss_nil)))
    (pss_one (ps_ret pe_non)))),?_⟩
  refine ⟨_,rfl,(by show 0≤sizeLine;decide),fun p0 hp0=>?_⟩
  have s0:=same_new hp0 (.lst [])
  refine ⟨l,p0,us,[],rfl,rfl,SqL.of (s0 _ _ el),SqL.of upd_same,?_⟩
  cases al with
  | nil=>exact .inl ⟨rfl,(fun v hv=>nomatch hv),_,rfl,iteT (q _ s0)⟩
  | @cons y o ys os tv al =>
  refine .inr ⟨by simp,_,rfl,iteF ?_⟩
  have al:=All2.cons tv al
  refine ⟨_,rfl,_,_,rfl,.inl ⟨_,SqL.of (s0 _ _ el),rfl⟩,_,rfl,by omega,by rw [lu];have:(o::os).length≤1000:=few;omega,?_⟩
  refine for_range (fun i σ H'=>Same H H'∧fltFrom 0 (o::os)=fltFrom i ((o::os).drop i)∧∃ o1,σ=[some (.ref l),o1]) ⟨s0,rfl,_,rfl⟩ (fun i σ H' hi z=>?_) (fun σ H' z=>?_)
  · obtain ⟨sm,ho,o1,rfl⟩:=z
    have hi':i < (y::ys).length:=by omega
    obtain ⟨g,hg,gv⟩:=al.get i _ (List.getElem?_eq_getElem hi')
    have e1:=sm _ _ el
    have ho:fltFrom 0 (o::os)=if tgOk i g then fltFrom (i+1) ((o::os).drop (i+1)) else some i:=by rw [ho,drop_at13 hg];rfl
    refine ⟨_,rfl,_,_,rfl,rfl,_,rfl,?_⟩
    have hz:(0+(i:Int))=(i:Int):=by omega
    refine ite2 (fun c=>iteT ?_) (fun c=>?_)
    · have c':(399:Int) < 0+(i:Int):=of_decide_eq_true c
      have ef:tgOk i g=false:=by unfold tgOk;rw [decide_eq_false (by omega),Bool.false_and]
      rw [ef,if_neg Bool.false_ne_true] at ho
      refine ⟨_,rfl,?_⟩
      have:=q _ sm
      rw [show flt13 (o::os)=some i from ho] at this
      rw [hz]
      exact this
    · have c':¬ (399:Int) < 0+(i:Int):=fun z=>c (decide_eq_true z)
      rw [hz]
      refine ⟨_,rfl,_,rfl,_,_,_,_,rfl,rfl,SqL.of e1,atI_nat (List.getElem?_eq_getElem hi'),_,rfl,_,i,g,rfl,TgV.same sm _ _ gv,fun H3 s3=>?_⟩
      have ef:tgOk i g=rowOk i g:=by unfold tgOk;rw [decide_eq_true (by omega),Bool.true_and]
      rw [ef] at ho
      refine ⟨_,rfl,?_⟩
      cases hb:rowOk i g with
      | true =>
        rw [hb,if_pos rfl] at ho
        exact iteF ⟨sm.trans s3,ho,_,rfl⟩
      | false =>
        rw [hb,if_neg Bool.false_ne_true] at ho
        refine iteT ⟨_,rfl,?_⟩
        have:=q _ (sm.trans s3)
        rwa [show flt13 (o::os)=some i from ho] at this
  · obtain ⟨sm,ho,o1,rfl⟩:=z
    have:=q _ sm
    have e0:((y::ys).length:Int).toNat=(o::os).length:=by omega
    rw [e0,List.drop_length] at ho
    rwa [show flt13 (o::os)=none from ho] at this
end
end Mine
namespace L2
open PySem
theorem for_lit {X:Cx} {N:List Str} {sc:Scope} {xs:List Lt} {e tg:Expr} {body rest:List Stmt} {g:TG} {tb tr:TS} {pos:Pos} (h:litE N sc e=some (.lst xs)) (hr:Hold X rest tr) (hb:Hold X body tb) (eN:X.N=N) (es:X.env.scope=sc) (hp:PassesOwn (model X.prog X.w) X.A X.env X.xe) (hc:X.calm=true) (hg:PG X tg g) (hs:∀ x,foldedSetIterable e X.env x=pure x) :
    ∃ t,Hold X (.For tg e body [] pos::rest) t∧∀ D σ H,ltVar σ (.lst xs)=true→(∀ a us H1,Same H H1→H1 a=some (.lst us)→LtVs σ H1 xs us→tFor (fun _ H R=>R (Itl X.K a) H) g tb {D with nx:=tr D} σ H1)→t D σ H :=
  ⟨_,⟨pss_cons (ps_for hp hc (pi_list (pe_litN eN es e h)) hg hb.h hs) hr.h⟩,fun D σ H hv q=>lit_ok _ hv fun v H' s' lv=>by
    obtain ⟨a,us,rfl,ea,lu⟩:=lv
    exact ⟨a,rfl,⟨us,SqL.of ea⟩,q a us H' s' ea lu⟩⟩
theorem ints_of {σ:St} {H:Hp}:∀{L:List Int} {us:List V},LtVs σ H (L.map Lt.int) us→us=L.map V.int
  | [],_,h=>h
  | x::L,us,⟨u,r,h1,h2,h3⟩=>by
    cases (show u=_ from h2)
    rw [h1,ints_of h3]
    rfl
end L2
namespace Mine
open PySem L2
noncomputable def tgG (g:Gr):Tg:=some (.str g.word::g.nums.map fun i:Nat=>E13.int (i:Int))
theorem GrV.tg {K:PySem.W.Frag} {H:Hp} (v:V) (g:Gr) (h:GrV H v g):TgV K H v (tgG g):=by
  obtain ⟨a,rfl,e⟩:=h
  unfold Gr.rw at e
  rw [rowK_kV] at e
  refine ⟨rfl,?_,a,_,rfl,e,.cons rfl ?_⟩
  · cases g <;> simp [Gr.nums]
  · generalize g.nums=ns
    induction ns with
    | nil=>exact .nil
    | cons i r ih=>exact .cons rfl ih
theorem howG (g:Gr):howV g.word=.int ((g.nums.length:Nat):Int):=by
  cases g with
  | ne=>decide +kernel
  | al=>decide +kernel
  | p=>decide +kernel
  | q=>decide +kernel
  | no i=>show howV "not"=.int ((1:Nat):Int);decide +kernel
  | fold u i j =>
    cases u with
    | more=>show howV "more"=.int ((2:Nat):Int);decide +kernel
    | less=>show howV "less"=.int ((2:Nat):Int);decide +kernel
    | greater=>show howV "greater"=.int ((2:Nat):Int);decide +kernel
    | lesser=>show howV "lesser"=.int ((2:Nat):Int);decide +kernel
    | leads=>show howV "leads"=.int ((2:Nat):Int);decide +kernel
theorem rowOk_gr {k:Nat} {g:Gr} (h:GrOk k g):rowOk k (tgG g)=true:=by
  show (decide (howV g.word=.int (((g.nums.map fun i:Nat=>E13.int (i:Int)).length:Nat):Int)) && (g.nums.map fun i:Nat=>E13.int (i:Int)).all (E13.ahead k))=true
  rw [List.length_map,decide_eq_true (howG g),Bool.true_and,List.all_eq_true]
  intro e he
  obtain ⟨i,hi,rfl⟩:=List.mem_map.mp he
  have:=h i hi
  show (decide (0≤(i:Int)) && decide ((i:Int) < (k:Int)))=true
  rw [decide_eq_true (by omega),decide_eq_true (by omega)]
  rfl
theorem flt_none:∀{gs:List Gr} {k:Nat},(∀ i g,gs[i]?=some g→GrOk (k+i) g)→k+gs.length≤400→fltFrom k (gs.map tgG)=none
  | [],_,_,_=>rfl
  | g::r,k,h,l=>by
    have l':k+(r.length+1)≤400:=l
    have o:tgOk k (tgG g)=true:=by unfold tgOk;rw [decide_eq_true (by omega),rowOk_gr (k:=k) (h 0 g rfl)];rfl
    show (if tgOk k (tgG g) then fltFrom (k+1) (r.map tgG) else some k)=none
    rw [if_pos o]
    exact flt_none (fun i g' hg=>by have:=h (i+1) g' (by simpa using hg);rwa [show k+1+i=k+(i+1) by omega]) (by omega)
theorem flt13_none {gs:List Gr} (h:GrsOk gs) (n:gs≠[]) (l:gs.length≤400):flt13 (gs.map tgG)=none:=by
  cases gs with
  | nil=>exact absurd rfl n
  | cons g r=>exact flt_none (k:=0) (fun i g' hg=>by rw [Nat.zero_add];exact h i g' hg) (by omega)
theorem all2_map {α β γ:Type} {R:α→β→Prop} {R':α→γ→Prop} {f:β→γ} (k:∀ a b,R a b→R' a (f b)) {as:List α} {bs:List β} (h:All2 R as bs):All2 R' as (bs.map f):=by
  induction h with
  | nil=>exact .nil
  | cons r _ ih=>exact .cons (k _ _ r) ih
end Mine
namespace Mine
open PySem L2
noncomputable abbrev nums32:List Int:=[5,7,8,12]
theorem num_at32 {i:Nat} {x:V} (h:(nums32.map V.int)[i]?=some x):∃ n:Int,x=.int n∧1≤n∧n≤12:=by
  rw [List.getElem?_map] at h
  cases e:nums32[i]? with
  | none=>rw [e] at h;cases h
  | some n =>
    rw [e] at h
    cases h
    have m:=List.mem_of_getElem? e
    have:∀ n∈nums32,1≤n∧n≤12:=by decide
    exact ⟨n,rfl,this n m⟩
noncomputable def spHt32 (K:PySem.W.Frag):Sp:=fun vs H Q _=>∃(v:V) (L:List St4) (n x:Int),vs=[v,.int n,.int x]∧Dat K H (lnD L) v∧Ln.LineB 10 L∧0 < n∧n≤100∧0≤x∧x≤n∧Q (.int (hAt L x n)) H
noncomputable def spRight32 (K:PySem.W.Frag):Sp:=fun vs H Q _=>∃(l:Addr) (x:V) (L:List St4) (us:List V) (gs:List Gr) (Ls:List (List St4)),vs=[.ref l,x]∧H l=some (.lst us)∧All2 (GrV H) us gs∧SR gs (Ls++[L])∧us.length≤300∧Dat K H (lnD L) x∧Bk 10 L∧∀ H',Same H H'→Q (.bl true) H'
section
variable {P:Program} {w:World} {K:PySem.W.Frag} {mg:Str→Option Value} {base:Heap}
theorem ok_height32 (T:TopDef K mg "_law_height" s_l_height):Def P w K mg base 1 "_law_height" ["_law_line","_law_n","_law_x"] (spHt32 K):=by
  refine def_of T sc_l_height (fun _ _ _ _ _ _ us hl=>match us,hl with | [_,_,_],_=>rfl) (fun vs H Q E h=>?_) (fun f cdv A outer s H vs Q E hr h=>?_)
  · obtain ⟨v,L,n,x,rfl,_⟩:=h
    rfl
  obtain ⟨v,L,n,x,rfl,dx,LB,n0,n100,x0,xn,q⟩:=h
  have nd:=sc_l_height.nd
  obtain ⟨la,xs,rfl,sa,da⟩:=ln_el dx
  have lx:=ln_len da
  refine ⟨_,(pss_cons (ps_for PassesOwn.never rfl (pi_tup (pv 0)) (pg_tup rfl (pgs_cons (pg_name (i:=3) nd rfl (Or.inl rfl)) (pgs_cons (pg_name (i:=4) nd rfl (Or.inl rfl)) (pgs_cons (pg_name (i:=5) nd rfl (Or.inl rfl)) pgs_nil)))) (pss_one (ps_if (pt_cmpR op_le (pe_op op_mulK (pv 2) (pe_ix ix_tup (pv 3) pe_int (fun _ _=>rfl))) (pe_op op_mulK (pe_ix ix_tup (pv 3) pe_int (fun _ _=>rfl)) (pv 1)) (nomark _)) (pss_one (ps_ret (pe_op op_add (pe_op op_mulK (pv 4) (pv 2)) (pe_op op_mulK (pv 5) (pv 1))))) pss_nil)))
    (pss_one (ps_ret pe_int))),?_⟩
  refine ⟨_,rfl,la,rfl,⟨xs,sa⟩,?_⟩
  refine for_tup (xs:=xs) (fun i σ H'=>H'=H∧∃(o3 o4 o5:Option V),σ=[some (.ref la),some (.int n),some (.int x),o3,o4,o5]∧∀ j,j < i→∀ t,L[j]?=some t→t.p*n < x*t.q)
    ⟨rfl,_,_,_,rfl,fun _ h=>absurd h (Nat.not_lt_zero _)⟩ (fun i σ H' _ z=>by obtain ⟨rfl,_⟩:=z;exact sa) (fun i v σ H' hv z=>?_) (fun σ H' z=>?_)
  · obtain ⟨rfl,o3,o4,o5,rfl,past⟩:=z
    obtain ⟨st,hst,dst⟩:=ln_at' da hv
    obtain ⟨c,e,rfl,q1,d1⟩:=st_el dst
    obtain ⟨ea,rfl,qe⟩:=fr_el d1
    obtain ⟨k1,k2,k3,k4,k5,k6⟩:=LB.ok st (List.mem_of_getElem? hst)
    have k10:(2:Nat) ^ 10=1024:=rfl
    rw [k10] at k4 k5 k6
    refine ⟨c,_,rfl,q1,rfl,_,_,rfl,_,_,rfl,_,_,rfl,rfl,?_⟩
    refine ⟨_,rfl,_,rfl,_,_,_,_,rfl,rfl,qe,rfl,_,_,rfl,rfl,mulS (sm_of (by omega)) (sm_of (by omega)),_,rfl,_,_,_,_,rfl,rfl,qe,rfl,_,rfl,_,_,rfl,rfl,mulS (sm_of (by omega)) (sm_of (by omega)),_,_,rfl,rfl,_,rfl,ite2 (fun c=>?_) (fun c=>?_)⟩
    · have c:=of_decide_eq_true c
      have e:hAt L x n=st.m*x+st.h*n:=hAt_of (Ln.pk_at (k:=i) past hst (by omega))
      rw [e] at q
      exact ⟨_,rfl,_,rfl,_,_,rfl,rfl,mulS (sm_of (by omega)) (sm_of (by omega)),_,rfl,_,rfl,_,_,rfl,rfl,mulS (sm_of (by omega)) (sm_of (by omega)),_,_,rfl,rfl,q⟩
    · have c:¬x*st.q≤st.p*n:=fun z=>c (decide_eq_true z)
      refine ⟨rfl,_,_,_,rfl,fun j hj t ht=>?_⟩
      by_cases hji:j=i
      · subst hji
        rw [hst] at ht
        cases ht
        omega
      · exact past j (by omega) t ht
  · obtain ⟨rfl,o3,o4,o5,rfl,past⟩:=z
    obtain ⟨st,hs,p1,q1⟩:=LB.last
    obtain ⟨l0,hl⟩:=Ln.last_at hs
    have:=past _ (by omega) st hl
    rw [p1,q1] at this
    omega
theorem ok_right32 (T:TopDef K mg "_law_rows_right" s_l_rows_right) (Z_isinstance:mg "isinstance"=none) (Z_list:mg "list"=none) (Z_range:mg "range"=none) (Z_min:mg "min"=none) (Z_max:mg "max"=none) (D_law_fault:Def P w K mg base 3 "_law_fault" ["_law_things"] (spLFault K)) (D_law_worth:Def P w K mg base 2 "_law_worth" ["_law_rows","_law_n","_law_x","_law_y"] spWorth14) (D_law_height:Def P w K mg base 1 "_law_height" ["_law_line","_law_n","_law_x"] (spHt32 K)):Def P w K mg base 4 "_law_rows_right" ["_law_rows","_law_line"] (spRight32 K):=by
  refine def_of T sc_l_rows_right (fun _ _ _ _ _ _ us hl=>match us,hl with | [_,_],_=>rfl) (fun vs H Q E h=>?_) (fun f cdv A outer s H vs Q E hr h=>?_)
  · obtain ⟨l,x,L,us,gs,Ls,rfl,_⟩:=h
    rfl
  obtain ⟨l,xl,L,us,gs,Ls,rfl,el,al,sr,few,dx,bk,q⟩:=h
  have nd:=sc_l_rows_right.nd
  have hu:=hr.units
  have lu:=al.len
  have ng:gs≠[]:=fun z=>by have:=sr.rl.1;rw [z] at this;simp at this
  have t1:∃ t,Hold (cxOf CX0 P w K mg base n_l_rows_right "_law_rows_right" (defScope s_l_rows_right) f cdv A outer s H E).nox ((defBody s_l_rows_right).drop 1) t∧∀(o3 o4:Option V) (H1:Hp),Same H H1→
      t {nx:=fun _ H'=>Q .non H',rt:=Q} [some (.ref l),some xl,o3,o4] H1:=by
    refine ex_imp (for_lit (X:=(cxOf CX0 P w K mg base n_l_rows_right "_law_rows_right" (defScope s_l_rows_right) f cdv A outer s H E).nox) (N:=n_l_rows_right) (sc:=defScope s_l_rows_right) (xs:=nums32.map Lt.int) (g:=gName 2) ?h ⟨(pss_one (ps_ret pe_bl))⟩ ⟨(pss_one (ps_for PassesOwn.never rfl (pi_range1 rfl Z_range (pa_cons (pe_op op_add (pv 2) pe_int) pa_nil)) (pg_name (i:=3) nd rfl (Or.inl rfl)) (pss_one (ps_if (pt_cmpR op_ne (pe_def D_law_worth (hr.mono (by omega)) rfl (pa_cons (pv 0) (pa_cons (pv 2) (pa_cons (pv 3) (pa_cons pe_int pa_nil))))) (pe_def D_law_height (hr.mono (by omega)) rfl (pa_cons (pv 1) (pa_cons (pv 2) (pa_cons (pv 3) pa_nil)))) (nomark _)) (pss_one (ps_ret pe_bl)) pss_nil))))⟩ ?a ?b PassesOwn.never rfl (pg_name (i:=2) nd rfl (Or.inl rfl)) ?s) ?r
    case h=>kernel_rfl
    case a=>rfl
    case b=>rfl
    case s=>intro _;rfl
    intro t k o3 o4 H1 s1
    refine k _ _ _ rfl fun a us' H2 s2 ea lu'=>?_
    have eu:=ints_of lu'
    subst eu
    have s12:=s1.trans s2
    refine for_list (xs:=nums32.map V.int) (fun i σ H'=>Same H2 H'∧∃ o3 o4,σ=[some (.ref l),some xl,o3,o4]) ⟨Same.refl _,_,_,rfl⟩ (fun i σ H' _ z=>SqL.of (z.1 _ _ ea)) (fun i x σ H' hx z=>?_) (fun σ H' z=>?_)
    · obtain ⟨sm,o3,o4,rfl⟩:=z
      obtain ⟨n,rfl,n1,n12⟩:=num_at32 hx
      refine ⟨_,rfl,_,_,rfl,rfl,_,rfl,by omega,by omega,?_⟩
      refine for_range (fun j σ H3=>Same H2 H3∧∃ o4,σ=[some (.ref l),some xl,some (.int n),o4]) ⟨sm,_,rfl⟩ (fun j σ H3 hj z=>?_) (fun σ H3 z=>?_)
      · obtain ⟨sm3,o4,rfl⟩:=z
        have e0:(0:Int)+(j:Int)=(j:Int):=by omega
        rw [e0]
        have sA:=s12.trans sm3
        refine ⟨_,rfl,_,rfl,_,rfl,l,us,gs,n,(j:Int),0,rfl,sA _ _ el,al.imp (GrV.to (Kp.of sA)),sr.ok,ng,by omega,fun H4 s4=>?_⟩
        have j0:(j:Int)≤n:=by omega
        refine ⟨_,rfl,_,rfl,_,rfl,xl,L,n,(j:Int),rfl,(dx.ts sA.ts).ts s4.ts,bk.b,by omega,by omega,by omega,j0,rfl,_,rfl,?_⟩
        have e:=sr.last (n:=n) (x:=(j:Int)) (by omega) (by omega) j0
        exact iteNS (congrArg V.int e) ⟨sm3.trans s4,_,rfl⟩
      · obtain ⟨sm3,o4,rfl⟩:=z
        exact ⟨sm3,_,_,rfl⟩
    · obtain ⟨sm,o3,o4,rfl⟩:=z
      exact q _ (s12.trans sm)
  obtain ⟨t1,ht1,k1⟩:=t1
  refine ⟨_,pss_consH (ps_if (PW.pt (pw_or (pt_not (pt_val (pe_callB call_isi rfl Z_isinstance (by decide +kernel) (pa_cons (pv 0) (pa_cons (pe_bltn (v:=V.ty "list") rfl Z_list (by decide +kernel) rfl) pa_nil))))) (pw_or (pt_cmpR op_notN (pe_def D_law_fault (hr.mono (by omega)) rfl (pa_cons (pv 0) pa_nil)) pe_non (nomark _)) (pw_or1 (pt_cmpR (op_inD hu) (pe_tup (pa_cons pe_str pa_nil)) (pv 0) rfl))))) (pss_one (ps_ret pe_bl)) pss_nil) ht1,?_⟩
  refine ⟨_,rfl,_,_,_,_,true,rfl,(fun _ h=>h),.lst el,kit_same,_,rfl,?_⟩
  have ft:flt13 (gs.map tgG)=none:=flt13_none sr.ok ng (by omega)
  refine iteF ⟨_,rfl,l,us,gs.map tgG,rfl,el,all2_map (fun v g z=>GrV.tg v g z) al,by simp;omega,fun H1 s1=>?_⟩
  rw [ft]
  refine ⟨rfl,_,rfl,iteF ?_⟩
  refine ⟨(by show 1≤sizeLine;decide),fun t ht=>?_⟩
  have s2:=same_new ht (.tup [V.str "q"])
  have sA:=s1.trans s2
  have dq:Dat K (upd H1 t (.tup [V.str "q"])) (rwD (rowK "q" [])) (.ref t):=RwV.dat ⟨t,rfl,upd_same⟩
  have al1:All2 (RwV (upd H1 t (.tup [V.str "q"]))) us (gs.map Gr.rw):=All2.to_map (al.imp fun v g z=>RwV.to (Kp.of sA) _ _ z)
  have ok:∀ x∈gs.map Gr.rw,RwOk x:=by
    intro x hx
    obtain ⟨g,_,rfl⟩:=List.mem_map.mp hx
    exact gr_ok g
  refine ⟨_,rfl,rwD (rowK "q" []),(gs.map Gr.rw).map rwD,l,us,.inl dq,rfl,SqL.of (sA _ _ el),RwV.all al1,rws_lay ok,rw_lay q_ok,Nat.le_trans (rws_depth _) (by decide),_,rfl,?_⟩
  rw [rws_any,noq_gs sr.nq]
  exact iteF (k1 _ _ _ sA)
end
end Mine
namespace Mine
open PySem L2
section
variable {P:Program} {w:World} {K:PySem.W.Frag} {mg:Str→Option Value} {base:Heap}
theorem ok_law {f:Addr} {fd:FuncData} (F:Fun K "law" "law" s_law f fd) (Z_list:mg "list"=none) (D_law_cell:Def P w K mg base 1 "_law_cell" ["_law_script","_law_k"] (spCell K)) (D__law_built:Def P w K mg base 4 "_law_built" ["_law_script","_law_at","_law_turns","_law_steep"] (spBuilt32 K))
    (D_rows_of_line:Def P w K mg base 7 "rows_of_line" ["line"] (spBack32 K)) (D_law_rows_right:Def P w K mg base 4 "_law_rows_right" ["_law_rows","_law_line"] (spRight32 K)) (D_line_of_rows:Def P w K mg base 10 "line_of_rows" ["rows"] (spLineR K)):FnOk P w K mg base CX0 12 f fd ["_law_script"] (spLaw K):=by
  refine F.ok sc_law (fun vs H Q E h=>?_) (fun cdv A outer s H vs Q E hr h=>?_)
  · obtain ⟨a,ns,rfl,_⟩:=h
    rfl
  obtain ⟨a,ns,rfl,S,q⟩:=h
  have nd:=sc_law.nd
  have hu:=hr.units
  have t1:∃ t,Hold (cxOf CX0 P w K mg base n_law "law" (defScope s_law) f cdv A outer s H E).nox ((defBody s_law).drop 1) t∧∀(x:V) (L:List St4) (o2:Option V) (H0:Hp),Same H H0→Dat K H0 (lnD L) x→Bk 10 L→
      t {nx:=fun _ H'=>Q .non H',rt:=Q} [some (.ref a),some x,o2] H0:=by
    refine ⟨_,⟨(pss_cons (ps_set (i:=2) nd rfl (Or.inl rfl) (pe_def D_rows_of_line (hr.mono (by decide)) rfl (pa_cons (pv 1) pa_nil)))
    (pss_cons (ps_if (PW.pt (pw_or (pt_not (pt_val (pe_def D_law_rows_right (hr.mono (by omega)) rfl (pa_cons (pv 2) (pa_cons (pv 1) pa_nil))))) (pw_or1 (pt_cmpR (op_neD hu) (pe_def D_line_of_rows (hr.mono (by omega)) rfl (pa_cons (pe_callTy call_list_of rfl Z_list (by decide +kernel) (pa_cons (pv 2) pa_nil)) pa_nil)) (pv 1) (nomark _))))) (pss_one (ps_ret pe_bl)) pss_nil)
    (pss_cons (ps_expr (pe_bm PySem.F.plainAttrs_list PySem.F.slot_list_append PySem.F.type_list_append mt_append (pv 2) (pa_cons (pe_tup (pa_cons pe_str pa_nil)) pa_nil)))
    (pss_cons (ps_asg (pe_tup (pa_cons pe_str pa_nil)) (pg_sub (pv 2) pe_int set_list))
    (pss_one (ps_ret (pe_def D_law_rows_right (hr.mono (by omega)) rfl (pa_cons (pe_def D_rows_of_line (hr.mono (by decide)) rfl (pa_cons (pv 1) pa_nil)) (pa_cons (pv 1) pa_nil)))))))))⟩,?_⟩
    intro x L o2 H0 s0 dx bk
    refine ⟨_,rfl,x,L,rfl,dx,bk,fun l us gs Ls H1 R=>?_⟩
    have few:=R.few
    have lu:=R.al.len
    have rl:=R.sr.rl
    refine ⟨_,rfl,_,rfl,l,x,L,us,gs,Ls,rfl,R.el,R.al,R.sr,R.few,dx.ts R.sm.ts,bk,fun H2 s2=>⟨_,rfl,?_⟩⟩
    refine iteF ⟨_,rfl,l,us,rfl,.inl (SqL.of (s2 _ _ R.el)),fun l2 hl2=>?_⟩
    have u3:=same_new hl2 (.lst us)
    have s3:=s2.trans u3
    refine ⟨l2,us,gs,Ls,_,rfl,upd_same,R.al.imp (GrV.to (Kp.of s3)),R.sr.ok,by omega,R.sr.nq,rl,fun v1 H4 s4 d4=>?_⟩
    have s5:=(R.sm.trans s3).trans s4
    refine ⟨_,rfl,_,_,.inl d4,.inl (dx.ts s5.ts),ln_shaped _,ln_shaped _,?_⟩
    rw [ln_eqv,decide_eq_true rfl]
    refine ⟨_,rfl,iteF ?_⟩
    have e5:=s4 _ _ (s3 _ _ R.el)
    refine ⟨_,rfl,.inl ⟨rfl,_,SqL.of e5⟩,(by show 1≤sizeLine;decide),fun t ht=>?_⟩
    have u6:=same_new ht (.tup [V.str "q"])
    refine ⟨l,us,_,rfl,rfl,u6 _ _ e5,small1000 (by omega),?_⟩
    refine ⟨(by show 1≤sizeLine;decide),fun t2 ht2=>?_⟩
    have u7:=same_new ht2 (.tup [V.str "q"])
    refine ⟨_,rfl,l,us++[.ref t],0,0,rfl,rfl,u7 _ _ upd_same,(by unfold ixN;simp),?_⟩
    have hl0:H0 l=none:=R.fr
    have sA:=same_mut (same_mut (s5.trans u6) hl0 (.lst (us++[.ref t])) |>.trans u7) hl0 (.lst ((us++[V.ref t]).set 0 (.ref t2)))
    have dz:=dx.ts sA.ts
    refine ⟨_,rfl,x,L,rfl,dz,bk,fun l' us' gs' Ls' H' R'=>⟨_,rfl,l',x,L,us',gs',Ls',rfl,R'.el,R'.al,R'.sr,R'.few,dz.ts R'.sm.ts,bk,fun H'' s''=>q _⟩⟩
  obtain ⟨t1,ht1,k1⟩:=t1
  refine ⟨_,pss_consH (ps_set (i:=1) nd rfl (Or.inl rfl) (pe_def D__law_built (hr.mono (by decide)) rfl (pa_cons (pv 0) (pa_cons pe_int (pa_cons (pe_op op_mod (pe_def D_law_cell (hr.mono (by omega)) rfl (pa_cons (pv 0) (pa_cons pe_int pa_nil))) pe_int) (pa_cons pe_int pa_nil)))))) ht1,?_⟩
  refine ⟨_,rfl,_,rfl,a,ns,0,rfl,S,by decide,by decide,fun c _=>⟨_,_,rfl,rfl,(by show (0:Int) < 6;decide),a,ns,_,rfl,S,Int.emod_nonneg _ (by decide),(by have:=Int.emod_lt_of_pos c (show (0:Int) < 6 by decide);show c % 6≤5;omega),fun v L H0 s0 dx bk=>k1 v L _ H0 s0 dx bk⟩⟩
end
end Mine
namespace PySem.W.Fast
def tw1139314173124841472:=0
def tw6381924729814683904:=0
def tw15335474645647565152:=0
def tw726030555309088256:=0
def tw13789249343974623872:=0
def tw16971020008139313888:=0
def tw1829237564768477952:=0
def tw14316219296733774592:=0
def tw12791073118418841440:=0
def tw3587611574240296864:=0
def tw9670355676858376160:=0
def tw4846984937515328513:=0
def tw8363059302536984641:=0
def tw10204565955095449761:=0
def tw7314023740308586689:=0
def tw4952367241725264065:=0
def tw1310095462788684097:=0
def tw10639920550995118529:=0
def tw11709438144379426401:=0
def tw7956786770741934753:=0
def tw6717095335333723969:=0
def tw277805163652047745:=0
def tw8789916044397291489:=0
def tw11364285617601079265:=0
def tw7273727282658787394:=0
def tw11755999511044839490:=0
def tw8544669284601522274:=0
def tw2365730999240411426:=0
def tw5346277888025581026:=0
def tw18085231894892192226:=0
def tw10055331541395348002:=0
def tw11428576034381728322:=0
def tw4628794807222941314:=0
def tw1647122448848928482:=0
def tw2171221401504622338:=0
def tw1303071340044168098:=0
def tw14868833515063184547:=0
def tw3210184280194973955:=0
def tw2443025584202846467:=0
def tw10168603058434776355:=0
def tw14553332100040483203:=0
def tw5862270220129672675:=0
def tw2004199171808878275:=0
def tw12325010735124990723:=0
def tw14989174971622844259:=0
def tw1513504915489165219:=0
def tw10543810673523073060:=0
def tw2297603518730420324:=0
def tw16098785804368661860:=0
def tw17254548799482729860:=0
def tw14593023454749569412:=0
def tw14726833515578515844:=0
def tw4428727104610396580:=0
def tw2896643158985362884:=0
def tw5303367703795263940:=0
def tw18016232242122540516:=0
def tw13229204663279803908:=0
def tw11731193009711892100:=0
def tw6474324273214847716:=0
def tw3577003504071413508:=0
def tw13011997508916970468:=0
def tw9449771317549001733:=0
def tw15082882257447893061:=0
def tw2816175616087770437:=0
def tw2749928150988825029:=0
def tw15108302957229818341:=0
def tw11772850790557528645:=0
def tw17268250101576096325:=0
def tw991262047479062437:=0
def tw4197186652195704870:=0
def tw8461430999462593574:=0
def tw10662086957218716742:=0
def tw9091513495236696390:=0
def tw12125805845468343622:=0
def tw16010132677775312294:=0
def tw9540544639771484710:=0
def tw15263061137522109094:=0
def tw2889540177087835814:=0
def tw14892140955102798662:=0
def tw1035744810145003430:=0
def tw12582832517564298150:=0
def tw4050871712326412295:=0
def tw3761256283893812391:=0
def tw14618639282510257351:=0
def tw9539987077520141671:=0
def tw15593704612991915495:=0
def tw11180056142569482887:=0
def tw1223402139369611943:=0
def tw12251771517551004551:=0
def tw3660242696081141671:=0
def tw10191671887961234440:=0
def tw7669299688429985864:=0
def tw16325967971588805736:=0
def tw7077950342783169672:=0
def tw16836086477965501640:=0
def tw4797918930344613096:=0
def tw13970593291567606056:=0
def tw17926530139017232712:=0
def tw17311298060968405352:=0
def tw11631200384568764808:=0
def tw16719318099664989672:=0
def tw4714350527775829576:=0
def tw13978777884036947624:=0
def tw11316096621038039816:=0
def tw8557796687001199432:=0
def tw17554160150263648168:=0
def tw14253541519102147528:=0
def tw5575750326145862632:=0
def tw6286958053702967337:=0
def tw5695183666648360009:=0
def tw5318570458347348105:=0
def tw10496000785648154793:=0
def tw3987677077855393961:=0
def tw11760479747939039433:=0
def tw12333733051107893513:=0
def tw13519200269084439913:=0
def tw10024504194760134185:=0
def tw16644286276315214377:=0
def tw7046574107387281993:=0
def tw12413601635456816745:=0
def tw1960545851920974537:=0
def tw9084388948860928713:=0
def tw16609713077388799689:=0
def tw8418641733017032521:=0
def tw2855465454132748105:=0
def tw9136359877696343913:=0
def tw2304726642644084585:=0
def tw9109539166087510889:=0
def tw14049832289001223081:=0
def tw9793087014645421001:=0
def tw16862724668575007882:=0
def tw16587243613803102410:=0
def tw6635532685407104266:=0
def tw327673245307728138:=0
def tw6079421026008705322:=0
def tw8614737919412214090:=0
def tw13527405922910710122:=0
def tw986786051234266538:=0
def tw5719058871244128778:=0
def tw16850301011946332714:=0
def tw8125041699447695914:=0
def tw10204065982850449994:=0
def tw7306532811596990058:=0
def tw14333342720070989450:=0
def tw9089346735078193866:=0
def tw7022192565872604906:=0
def tw924002093932287786:=0
def tw14383966590703654730:=0
def tw13764014281228045226:=0
def tw11836036006889553963:=0
def tw5444099982086524971:=0
def tw6039817872763643019:=0
def tw12729796450267523275:=0
def tw14879591967852634379:=0
def tw11013860721233290571:=0
def tw15824810451261854027:=0
def tw15710459597812799115:=0
def tw1636279361076478731:=0
def tw11513485892137594635:=0
def tw9269325772136498987:=0
def tw402986868070138795:=0
def tw2139946466062843851:=0
def tw1946554535808583884:=0
def tw6655936013520977132:=0
def tw12268706327463074092:=0
def tw677634160013417932:=0
def tw11251990537760853484:=0
def tw5240722299144471084:=0
def tw4698696179078167180:=0
def tw1026569158653578988:=0
def tw11193332924673851276:=0
def tw7895662260378716044:=0
def tw6932518441913610413:=0
def tw2582229437141215437:=0
def tw13659885214472517869:=0
def tw5176590684310145261:=0
def tw17805057196506153261:=0
def tw2620923229992246893:=0
def tw7493345380551361229:=0
def tw12787976869904648206:=0
def tw2583868259558856718:=0
def tw4269030952067898414:=0
def tw9018793349741550766:=0
def tw838025221897440462:=0
def tw2436888914138649838:=0
def tw10653820962287716622:=0
def tw13827534535391549774:=0
def tw16918698467689113038:=0
def tw3122235230354460110:=0
def tw18345133037355149870:=0
def tw13682317307652546094:=0
def tw10998100018206825070:=0
def tw8515360866690498446:=0
def tw7371427890799387566:=0
def tw785338871134991407:=0
def tw17349002105349024879:=0
def tw4066240045465032847:=0
def tw14406670044126156975:=0
def tw8183298458412936431:=0
def tw17393971077879482767:=0
def tw11390909107477122479:=0
def tw4300031773148976623:=0
def tw15678032271622947343:=0
def tw6329508823741184559:=0
def tw2857353743731276399:=0
def tw17954966582270799535:=0
def tw9853259320752785135:=0
def tw1767484988656198415:=0
def tw14973405346760936303:=0
def tw3731671631399466927:=0
def tw4487456013569668176:=0
def tw7479711151427381360:=0
def tw6202800613328231600:=0
def tw17051852069314485552:=0
def tw15827198317917105520:=0
def tw9142239531141214608:=0
def tw1881097880043783696:=0
def tw4342959871640427056:=0
def tw15041608325106542128:=0
def tw16826238451236878928:=0
def tw5063672900194808400:=0
def tw16701642310171819728:=0
def tw12175235613852621616:=0
def tw11255076793757465520:=0
def tw4839047237256973264:=0
def tw3996591792954097809:=0
def tw17554725510379951345:=0
def tw3549800483003631889:=0
def tw7045575006970576273:=0
def tw13039536341914580401:=0
def tw17549187489123283409:=0
def tw17640310190050835985:=0
def tw4187394961067806289:=0
def tw640768363389769329:=0
def tw8419916010421580401:=0
def tw3562722880841049905:=0
def tw9630901654272200561:=0
def tw13434786638393969553:=0
def tw12356726970331433905:=0
def tw7094091343424773138:=0
def tw4410280902732142610:=0
def tw12532591336893498418:=0
def tw1965682131615978962:=0
def tw18049852338019927538:=0
def tw1147177045681252914:=0
def tw6438057571216398930:=0
def tw13855697711539651186:=0
def tw16323773973467520690:=0
def tw12671557349963006706:=0
def tw8517569175644951282:=0
def tw17011995532269680530:=0
def tw7383693388413345875:=0
def tw1585841088357982323:=0
def tw16431247635171958931:=0
def tw836138477704724723:=0
def tw10431658397134309043:=0
def tw11272165291435403123:=0
def tw10659636401107622803:=0
def tw17455840577509818259:=0
def tw4612842734686275636:=0
def tw17856723962596248692:=0
def tw14814121987124088116:=0
def tw13843832283922550100:=0
def tw125847043786274228:=0
def tw11953942533724047796:=0
def tw10506424616712377812:=0
def tw5369626288010708436:=0
def tw5559571500748038676:=0
def tw5939942074039988788:=0
def tw2218760672820721300:=0
def tw1193974283526439668:=0
def tw6782156574246922036:=0
def tw18163355460635783028:=0
def tw15157364802731585492:=0
def tw10533920173752662996:=0
def tw8016025146436484084:=0
def tw14828321055513972789:=0
def tw2519262494707254453:=0
def tw14939323810534712501:=0
def tw11262079260424012117:=0
def tw1935949910495317333:=0
def tw3665074249693718933:=0
def tw11246350440887298485:=0
def tw18015050295412232821:=0
def tw17944990390016433813:=0
def tw2213384811794048693:=0
def tw7534472708433294005:=0
def tw15175121056046759605:=0
def tw13642736048148370197:=0
def tw14215455660414569301:=0
def tw14919651274181767061:=0
def tw7967271505262575638:=0
def tw17818492896249871414:=0
def tw10533547437109517430:=0
def tw10109709752113356918:=0
def tw6481064300890693814:=0
def tw15110995372461192502:=0
def tw14213571867814969750:=0
def tw2309113137252686454:=0
def tw193907426254572182:=0
def tw16168602017747560118:=0
def tw7344195189995593526:=0
def tw18015529199623506742:=0
def tw12231773602950792022:=0
def tw17236484826938042294:=0
def tw16362726596551375895:=0
def tw17629110784539544599:=0
def tw7793787762113765495:=0
def tw7823499696055011543:=0
def tw14333258284939514199:=0
def tw12126875889294489079:=0
def tw15588529597251055127:=0
def tw10033364702127090231:=0
def tw6344516306699483863:=0
def tw1946298510642573015:=0
def tw5797613738853708856:=0
def tw8313124412103965752:=0
def tw16079448037397930328:=0
def tw747824133359811992:=0
def tw6010793920888858040:=0
def tw18107476377508867512:=0
def tw11908371515279049208:=0
def tw8622512768780318264:=0
def tw12265675266981602968:=0
def tw12676888421275755224:=0
def tw11028653482153444120:=0
def tw8381929710407048984:=0
def tw18086696796905957304:=0
def tw9034462871681559512:=0
def tw12455043689870836761:=0
def tw17147264715452630073:=0
def tw2587030331584840921:=0
def tw16523897474586971385:=0
def tw17443904862263047673:=0
def tw5468879225197929977:=0
def tw10798818502850600601:=0
def tw8023874996529031897:=0
def tw6115425989425560281:=0
def tw8654752689836067737:=0
def tw15245958413207527385:=0
def tw13204607319210109018:=0
def tw12474032853336998010:=0
def tw6676174413851141242:=0
def tw5441514203839632666:=0
def tw11764930807861056890:=0
def tw14412017852051453338:=0
def tw7732897353936103866:=0
def tw9071412260210076090:=0
def tw1493238970530326170:=0
def tw9081505115197647642:=0
def tw15474709256334018587:=0
def tw12364664524229690395:=0
def tw1564572612010333211:=0
def tw7003818198159127611:=0
def tw10270649746641821883:=0
def tw10250568734769390779:=0
def tw5628123445457778075:=0
def tw13148568374810504667:=0
def tw4332503262904342075:=0
def tw548270934815429275:=0
def tw9126515649994016635:=0
def tw6018865405835617308:=0
def tw16849135993365326076:=0
def tw15058536401977175356:=0
def tw14051763022570273116:=0
def tw14339682723266100892:=0
def tw12882678403473193884:=0
def tw11615611920092512156:=0
def tw7550464411050159036:=0
def tw13940813518380878780:=0
def tw17522935009024313469:=0
def tw5673029626733917341:=0
def tw1841530955597471933:=0
def tw1514640762018407709:=0
def tw16716038434078709213:=0
def tw11926517606719799869:=0
def tw12134565484418002557:=0
def tw4916982892121308829:=0
def tw12151528700376422237:=0
def tw2691565800287403166:=0
def tw10429697145312065822:=0
def tw6717982956393486878:=0
def tw3013081815630205854:=0
def tw10189317686577126463:=0
def tw11987244823081060479:=0
def tw17512650572459819167:=0
def tw12568615879147104511:=0
def tw13349526519020243327:=0
def tw12080099293375547871:=0
def tw5401947256317943327:=0
def tw1476870123198574399:=0
def tw5597283283571321823:=0
def tw858770018072509059:=0
def tw9160427366275787700:=0
def tw18221147162102073593:=0
def tw873762134289502136:=0
def tw3789213281755092999:=0
def tw773658005169093827:=0
def tw11342557182513410324:=0
def tw9735998720116288382:=0
def tw3813556399437756309:=0
def tw1831355992768972419:=0
end PySem.W.Fast
open PySem PySem.W PyProof.Rows
theorem Mine.classes_mk {K:Frag} {h:Heap} {mg:Str→Option Value} {aT:Addr} {es:Array DictEntry} {ep:Nat} (X:K.In h) (G:h.Ns mainGlobals mg)
    (qni:kitOne K (.type "NoneType") (.type "int")=some false)
    (qsi:kitOne K (.type "str") (.type "int")=some false)
    (qti:kitOne K (.type "tuple") (.type "int")=some false)
    (qbi:kitOne K (.type "bool") (.type "int")=some true)
    (qib:kitOne K (.type "int") (.type "bool")=some false)
    (qns:kitOne K (.type "NoneType") (.type "str")=some false)
    (qis:kitOne K (.type "int") (.type "str")=some false)
    (qbs:kitOne K (.type "bool") (.type "str")=some false)
    (qts:kitOne K (.type "tuple") (.type "str")=some false)
    (qnt:kitOne K (.type "NoneType") (.type "tuple")=some false)
    (qit:kitOne K (.type "int") (.type "tuple")=some false)
    (qst:kitOne K (.type "str") (.type "tuple")=some false)
    (qbt:kitOne K (.type "bool") (.type "tuple")=some false)
    (qlt:kitOne K (.type "list") (.type "tuple")=some false)
    (qdt:kitOne K (.type "dict") (.type "tuple")=some false)
    (t1:nsIn K mainGlobals "TAKEN"=some (some (.ref aT)))
    (t2:K.lookup aT=some ⟨.type "dict",none,.dict es ep,#[]⟩)
    (t3:(aT == sysModules)=false)
    (t4:KTD.Rows (fun (n:Int) v=>∃ t,v=Value.int n t) es.toList Mine.TK) :
    Mine.Kit13 K∧L2.TopDict K mg "TAKEN" Mine.TK :=
  ⟨⟨qni,qsi,qti,qbi,qib,qns,qis,qbs,qts,qnt,qit,qst,qbt,qlt,qdt⟩,L2.topdict_mk X G t1 t2 t3 t4⟩
set_option maxRecDepth 100000 in
set_option maxHeartbeats 0 in
theorem PySem.Challenge.cw_leansay_k32_whole_built_lines_back_holds : PySem.Challenge.rw_leansay_k32_whole_built_lines_back.Holds := by
  w_on;o_law;k_head;(case hw=>w_witness2)
  k_fill
  refine L2.walk_bits (l:=PySem.Challenge.rw_leansay_k32_whole_built_lines_back) (n:=63) (k:=12) (x:="_law_script") (CX:=L2.CX0) (sp:=Mine.spLaw) rfl (by decide) rfl ⟨rfl,by decide,by decide⟩ (fun w h Y=>PySem.W.kIn_of Y) ?F ?S ?C
  case F =>
    intro w mg fa h KX G hmg
    have T_common_factor:L2.TopDef (L2.KOf KX) mg "common_factor" Mine.s_common_factor:=by
      dsimp only [L2.KOf]
      refine' L2.top_mk KX G ?a ?l ?c ?k;(case a=>k_is);(case l=>k_is);(case c=>k_is);(case k=>k_is)
    have T_fraction:L2.TopDef (L2.KOf KX) mg "fraction" Mine.s_fraction:=by
      dsimp only [L2.KOf]
      refine' L2.top_mk KX G ?a ?l ?c ?k;(case a=>k_is);(case l=>k_is);(case c=>k_is);(case k=>k_is)
    have T_less:L2.TopDef (L2.KOf KX) mg "less" Mine.s_less:=by
      dsimp only [L2.KOf]
      refine' L2.top_mk KX G ?a ?l ?c ?k;(case a=>k_is);(case l=>k_is);(case c=>k_is);(case k=>k_is)
    have T_is_outside:L2.TopDef (L2.KOf KX) mg "is_outside" Mine.s_is_outside:=by
      dsimp only [L2.KOf]
      refine' L2.top_mk KX G ?a ?l ?c ?k;(case a=>k_is);(case l=>k_is);(case c=>k_is);(case k=>k_is)
    have T_told_by_stretch:L2.TopDef (L2.KOf KX) mg "told_by_stretch" Mine.s_told_by_stretch:=by
      dsimp only [L2.KOf]
      refine' L2.top_mk KX G ?a ?l ?c ?k;(case a=>k_is);(case l=>k_is);(case c=>k_is);(case k=>k_is)
    have T_joined:L2.TopDef (L2.KOf KX) mg "joined" Mine.s_joined:=by
      dsimp only [L2.KOf]
      refine' L2.top_mk KX G ?a ?l ?c ?k;(case a=>k_is);(case l=>k_is);(case c=>k_is);(case k=>k_is)
    have T_put_steeper:L2.TopDef (L2.KOf KX) mg "put_steeper" Mine.s_put_steeper:=by
      dsimp only [L2.KOf]
      refine' L2.top_mk KX G ?a ?l ?c ?k;(case a=>k_is);(case l=>k_is);(case c=>k_is);(case k=>k_is)
    have T_flat_rows:L2.TopDef (L2.KOf KX) mg "flat_rows" Mine.s_flat_rows:=by
      dsimp only [L2.KOf]
      refine' L2.top_mk KX G ?a ?l ?c ?k;(case a=>k_is);(case l=>k_is);(case c=>k_is);(case k=>k_is)
    have T_straight_rows:L2.TopDef (L2.KOf KX) mg "straight_rows" Mine.s_straight_rows:=by
      dsimp only [L2.KOf]
      refine' L2.top_mk KX G ?a ?l ?c ?k;(case a=>k_is);(case l=>k_is);(case c=>k_is);(case k=>k_is)
    have T_is_out:L2.TopDef (L2.KOf KX) mg "is_out" Mine.s_is_out:=by
      dsimp only [L2.KOf]
      refine' L2.top_mk KX G ?a ?l ?c ?k;(case a=>k_is);(case l=>k_is);(case c=>k_is);(case k=>k_is)
    have T_must_stay:L2.TopDef (L2.KOf KX) mg "must_stay" Mine.s_must_stay:=by
      dsimp only [L2.KOf]
      refine' L2.top_mk KX G ?a ?l ?c ?k;(case a=>k_is);(case l=>k_is);(case c=>k_is);(case k=>k_is)
    have T_must_lead_back:L2.TopDef (L2.KOf KX) mg "must_lead_back" Mine.s_must_lead_back:=by
      dsimp only [L2.KOf]
      refine' L2.top_mk KX G ?a ?l ?c ?k;(case a=>k_is);(case l=>k_is);(case c=>k_is);(case k=>k_is)
    have T_moved:L2.TopDef (L2.KOf KX) mg "moved" Mine.s_moved:=by
      dsimp only [L2.KOf]
      refine' L2.top_mk KX G ?a ?l ?c ?k;(case a=>k_is);(case l=>k_is);(case c=>k_is);(case k=>k_is)
    have T_put_straights:L2.TopDef (L2.KOf KX) mg "put_straights" Mine.s_put_straights:=by
      dsimp only [L2.KOf]
      refine' L2.top_mk KX G ?a ?l ?c ?k;(case a=>k_is);(case l=>k_is);(case c=>k_is);(case k=>k_is)
    have T_put_folded:L2.TopDef (L2.KOf KX) mg "put_folded" Mine.s_put_folded:=by
      dsimp only [L2.KOf]
      refine' L2.top_mk KX G ?a ?l ?c ?k;(case a=>k_is);(case l=>k_is);(case c=>k_is);(case k=>k_is)
    have T_is_below_at:L2.TopDef (L2.KOf KX) mg "is_below_at" Mine.s_is_below_at:=by
      dsimp only [L2.KOf]
      refine' L2.top_mk KX G ?a ?l ?c ?k;(case a=>k_is);(case l=>k_is);(case c=>k_is);(case k=>k_is)
    have T_is_below:L2.TopDef (L2.KOf KX) mg "is_below" Mine.s_is_below:=by
      dsimp only [L2.KOf]
      refine' L2.top_mk KX G ?a ?l ?c ?k;(case a=>k_is);(case l=>k_is);(case c=>k_is);(case k=>k_is)
    have T_rows_of_line:L2.TopDef (L2.KOf KX) mg "rows_of_line" Mine.s_rows_of_line:=by
      dsimp only [L2.KOf]
      refine' L2.top_mk KX G ?a ?l ?c ?k;(case a=>k_is);(case l=>k_is);(case c=>k_is);(case k=>k_is)
    have T_straight:L2.TopDef (L2.KOf KX) mg "straight" Mine.s_straight:=by
      dsimp only [L2.KOf]
      refine' L2.top_mk KX G ?a ?l ?c ?k;(case a=>k_is);(case l=>k_is);(case c=>k_is);(case k=>k_is)
    have T_side_by_side:L2.TopDef (L2.KOf KX) mg "side_by_side" Mine.s_side_by_side:=by
      dsimp only [L2.KOf]
      refine' L2.top_mk KX G ?a ?l ?c ?k;(case a=>k_is);(case l=>k_is);(case c=>k_is);(case k=>k_is)
    have T_added:L2.TopDef (L2.KOf KX) mg "added" Mine.s_added:=by
      dsimp only [L2.KOf]
      refine' L2.top_mk KX G ?a ?l ?c ?k;(case a=>k_is);(case l=>k_is);(case c=>k_is);(case k=>k_is)
    have T_turned:L2.TopDef (L2.KOf KX) mg "turned" Mine.s_turned:=by
      dsimp only [L2.KOf]
      refine' L2.top_mk KX G ?a ?l ?c ?k;(case a=>k_is);(case l=>k_is);(case c=>k_is);(case k=>k_is)
    have T_raised:L2.TopDef (L2.KOf KX) mg "raised" Mine.s_raised:=by
      dsimp only [L2.KOf]
      refine' L2.top_mk KX G ?a ?l ?c ?k;(case a=>k_is);(case l=>k_is);(case c=>k_is);(case k=>k_is)
    have T_greater_stretches:L2.TopDef (L2.KOf KX) mg "greater_stretches" Mine.s_greater_stretches:=by
      dsimp only [L2.KOf]
      refine' L2.top_mk KX G ?a ?l ?c ?k;(case a=>k_is);(case l=>k_is);(case c=>k_is);(case k=>k_is)
    have T_greater_line:L2.TopDef (L2.KOf KX) mg "greater_line" Mine.s_greater_line:=by
      dsimp only [L2.KOf]
      refine' L2.top_mk KX G ?a ?l ?c ?k;(case a=>k_is);(case l=>k_is);(case c=>k_is);(case k=>k_is)
    have T_lesser_line:L2.TopDef (L2.KOf KX) mg "lesser_line" Mine.s_lesser_line:=by
      dsimp only [L2.KOf]
      refine' L2.top_mk KX G ?a ?l ?c ?k;(case a=>k_is);(case l=>k_is);(case c=>k_is);(case k=>k_is)
    have T_cut_off:L2.TopDef (L2.KOf KX) mg "cut_off" Mine.s_cut_off:=by
      dsimp only [L2.KOf]
      refine' L2.top_mk KX G ?a ?l ?c ?k;(case a=>k_is);(case l=>k_is);(case c=>k_is);(case k=>k_is)
    have T_is_whole:L2.TopDef (L2.KOf KX) mg "is_whole" Mine.s_is_whole:=by
      dsimp only [L2.KOf]
      refine' L2.top_mk KX G ?a ?l ?c ?k;(case a=>k_is);(case l=>k_is);(case c=>k_is);(case k=>k_is)
    have T_how_many_it_takes:L2.TopDef (L2.KOf KX) mg "how_many_it_takes" Mine.s_how_many_it_takes:=by
      dsimp only [L2.KOf]
      refine' L2.top_mk KX G ?a ?l ?c ?k;(case a=>k_is);(case l=>k_is);(case c=>k_is);(case k=>k_is)
    have T_is_place_ahead:L2.TopDef (L2.KOf KX) mg "is_place_ahead" Mine.s_is_place_ahead:=by
      dsimp only [L2.KOf]
      refine' L2.top_mk KX G ?a ?l ?c ?k;(case a=>k_is);(case l=>k_is);(case c=>k_is);(case k=>k_is)
    have T_is_row:L2.TopDef (L2.KOf KX) mg "is_row" Mine.s_is_row:=by
      dsimp only [L2.KOf]
      refine' L2.top_mk KX G ?a ?l ?c ?k;(case a=>k_is);(case l=>k_is);(case c=>k_is);(case k=>k_is)
    have T_rows_fault:L2.TopDef (L2.KOf KX) mg "rows_fault" Mine.s_rows_fault:=by
      dsimp only [L2.KOf]
      refine' L2.top_mk KX G ?a ?l ?c ?k;(case a=>k_is);(case l=>k_is);(case c=>k_is);(case k=>k_is)
    have T_must_be_rows:L2.TopDef (L2.KOf KX) mg "must_be_rows" Mine.s_must_be_rows:=by
      dsimp only [L2.KOf]
      refine' L2.top_mk KX G ?a ?l ?c ?k;(case a=>k_is);(case l=>k_is);(case c=>k_is);(case k=>k_is)
    have T_leaf_line:L2.TopDef (L2.KOf KX) mg "leaf_line" Mine.s_leaf_line:=by
      dsimp only [L2.KOf]
      refine' L2.top_mk KX G ?a ?l ?c ?k;(case a=>k_is);(case l=>k_is);(case c=>k_is);(case k=>k_is)
    have T_fold_line:L2.TopDef (L2.KOf KX) mg "fold_line" Mine.s_fold_line:=by
      dsimp only [L2.KOf]
      refine' L2.top_mk KX G ?a ?l ?c ?k;(case a=>k_is);(case l=>k_is);(case c=>k_is);(case k=>k_is)
    have T_row_line:L2.TopDef (L2.KOf KX) mg "row_line" Mine.s_row_line:=by
      dsimp only [L2.KOf]
      refine' L2.top_mk KX G ?a ?l ?c ?k;(case a=>k_is);(case l=>k_is);(case c=>k_is);(case k=>k_is)
    have T_last_line:L2.TopDef (L2.KOf KX) mg "last_line" Mine.s_last_line:=by
      dsimp only [L2.KOf]
      refine' L2.top_mk KX G ?a ?l ?c ?k;(case a=>k_is);(case l=>k_is);(case c=>k_is);(case k=>k_is)
    have T_must_be_without_q:L2.TopDef (L2.KOf KX) mg "must_be_without_q" Mine.s_must_be_without_q:=by
      dsimp only [L2.KOf]
      refine' L2.top_mk KX G ?a ?l ?c ?k;(case a=>k_is);(case l=>k_is);(case c=>k_is);(case k=>k_is)
    have T_line_of_rows:L2.TopDef (L2.KOf KX) mg "line_of_rows" Mine.s_line_of_rows:=by
      dsimp only [L2.KOf]
      refine' L2.top_mk KX G ?a ?l ?c ?k;(case a=>k_is);(case l=>k_is);(case c=>k_is);(case k=>k_is)
    have T_l_cell:L2.TopDef (L2.KOf KX) mg "_law_cell" Mine.s_l_cell:=by
      dsimp only [L2.KOf]
      refine' L2.top_mk KX G ?a ?l ?c ?k;(case a=>k_is);(case l=>k_is);(case c=>k_is);(case k=>k_is)
    have T_l_whole:L2.TopDef (L2.KOf KX) mg "_law_whole" Mine.s_l_whole:=by
      dsimp only [L2.KOf]
      refine' L2.top_mk KX G ?a ?l ?c ?k;(case a=>k_is);(case l=>k_is);(case c=>k_is);(case k=>k_is)
    have T_l_row:L2.TopDef (L2.KOf KX) mg "_law_row" Mine.s_l_row:=by
      dsimp only [L2.KOf]
      refine' L2.top_mk KX G ?a ?l ?c ?k;(case a=>k_is);(case l=>k_is);(case c=>k_is);(case k=>k_is)
    have T_l_fault:L2.TopDef (L2.KOf KX) mg "_law_fault" Mine.s_l_fault:=by
      dsimp only [L2.KOf]
      refine' L2.top_mk KX G ?a ?l ?c ?k;(case a=>k_is);(case l=>k_is);(case c=>k_is);(case k=>k_is)
    have T_l_fold:L2.TopDef (L2.KOf KX) mg "_law_fold" Mine.s_l_fold:=by
      dsimp only [L2.KOf]
      refine' L2.top_mk KX G ?a ?l ?c ?k;(case a=>k_is);(case l=>k_is);(case c=>k_is);(case k=>k_is)
    have T_l_worth:L2.TopDef (L2.KOf KX) mg "_law_worth" Mine.s_l_worth:=by
      dsimp only [L2.KOf]
      refine' L2.top_mk KX G ?a ?l ?c ?k;(case a=>k_is);(case l=>k_is);(case c=>k_is);(case k=>k_is)
    have T_l_lowest:L2.TopDef (L2.KOf KX) mg "_law_lowest" Mine.s_l_lowest:=by
      dsimp only [L2.KOf]
      refine' L2.top_mk KX G ?a ?l ?c ?k;(case a=>k_is);(case l=>k_is);(case c=>k_is);(case k=>k_is)
    have T_l_meet:L2.TopDef (L2.KOf KX) mg "_law_meet" Mine.s_l_meet:=by
      dsimp only [L2.KOf]
      refine' L2.top_mk KX G ?a ?l ?c ?k;(case a=>k_is);(case l=>k_is);(case c=>k_is);(case k=>k_is)
    have T_l_inward:L2.TopDef (L2.KOf KX) mg "_law_inward" Mine.s_l_inward:=by
      dsimp only [L2.KOf]
      refine' L2.top_mk KX G ?a ?l ?c ?k;(case a=>k_is);(case l=>k_is);(case c=>k_is);(case k=>k_is)
    have T_l_ways:L2.TopDef (L2.KOf KX) mg "_law_ways" Mine.s_l_ways:=by
      dsimp only [L2.KOf]
      refine' L2.top_mk KX G ?a ?l ?c ?k;(case a=>k_is);(case l=>k_is);(case c=>k_is);(case k=>k_is)
    have T_l_way_out:L2.TopDef (L2.KOf KX) mg "_law_way_out" Mine.s_l_way_out:=by
      dsimp only [L2.KOf]
      refine' L2.top_mk KX G ?a ?l ?c ?k;(case a=>k_is);(case l=>k_is);(case c=>k_is);(case k=>k_is)
    have T_l_built:L2.TopDef (L2.KOf KX) mg "_law_built" Mine.s_l_built:=by
      dsimp only [L2.KOf]
      refine' L2.top_mk KX G ?a ?l ?c ?k;(case a=>k_is);(case l=>k_is);(case c=>k_is);(case k=>k_is)
    have T_l_height:L2.TopDef (L2.KOf KX) mg "_law_height" Mine.s_l_height:=by
      dsimp only [L2.KOf]
      refine' L2.top_mk KX G ?a ?l ?c ?k;(case a=>k_is);(case l=>k_is);(case c=>k_is);(case k=>k_is)
    have T_l_rows_right:L2.TopDef (L2.KOf KX) mg "_law_rows_right" Mine.s_l_rows_right:=by
      dsimp only [L2.KOf]
      refine' L2.top_mk KX G ?a ?l ?c ?k;(case a=>k_is);(case l=>k_is);(case c=>k_is);(case k=>k_is)
    have T_law:L2.TopDef (L2.KOf KX) mg "law" Mine.s_law:=by
      dsimp only [L2.KOf]
      refine' L2.top_mk KX G ?a ?l ?c ?k;(case a=>k_is);(case l=>k_is);(case c=>k_is);(case k=>k_is)
    have Z_len:mg "len"=none:=by
      refine' PySem.W.mg_none_of KX G ?z;(case z=>k_is)
    have Z_abs:mg "abs"=none:=by
      refine' PySem.W.mg_none_of KX G ?z;(case z=>k_is)
    have Z_sum:mg "sum"=none:=by
      refine' PySem.W.mg_none_of KX G ?z;(case z=>k_is)
    have Z_min:mg "min"=none:=by
      refine' PySem.W.mg_none_of KX G ?z;(case z=>k_is)
    have Z_max:mg "max"=none:=by
      refine' PySem.W.mg_none_of KX G ?z;(case z=>k_is)
    have Z_range:mg "range"=none:=by
      refine' PySem.W.mg_none_of KX G ?z;(case z=>k_is)
    have Z_int:mg "int"=none:=by
      refine' PySem.W.mg_none_of KX G ?z;(case z=>k_is)
    have Z_bool:mg "bool"=none:=by
      refine' PySem.W.mg_none_of KX G ?z;(case z=>k_is)
    have Z_tuple:mg "tuple"=none:=by
      refine' PySem.W.mg_none_of KX G ?z;(case z=>k_is)
    have Z_list:mg "list"=none:=by
      refine' PySem.W.mg_none_of KX G ?z;(case z=>k_is)
    have Z_str:mg "str"=none:=by
      refine' PySem.W.mg_none_of KX G ?z;(case z=>k_is)
    have Z_enumerate:mg "enumerate"=none:=by
      refine' PySem.W.mg_none_of KX G ?z;(case z=>k_is)
    have Z_isinstance:mg "isinstance"=none:=by
      refine' PySem.W.mg_none_of KX G ?z;(case z=>k_is)
    have Z_all:mg "all"=none:=by
      refine' PySem.W.mg_none_of KX G ?z;(case z=>k_is)
    have P_NOUGHT:L2.TopTup (L2.KOf KX) mg "NOUGHT" [0,1]:=by
      dsimp only [L2.KOf]
      refine' L2.toptup_mk (ns:=[0,1]) KX G ?e ?l ?z ?v;(case e=>k_is);(case l=>k_is);(case z=>decide);(case v=>exact (.cons ⟨_,rfl⟩ (.cons ⟨_,rfl⟩ .nil)))
    have P_WHOLE:L2.TopTup (L2.KOf KX) mg "WHOLE" [1,1]:=by
      dsimp only [L2.KOf]
      refine' L2.toptup_mk (ns:=[1,1]) KX G ?e ?l ?z ?v;(case e=>k_is);(case l=>k_is);(case z=>decide);(case v=>exact (.cons ⟨_,rfl⟩ (.cons ⟨_,rfl⟩ .nil)))
    have I_MOST_ROWS:∃ t,mg "MOST_ROWS"=some (.int 400 t):=by
      refine' L2.topint_mk KX G ?ie ?iq;(case ie=>k_is);(case iq=>exact ⟨_,rfl⟩)
    have I_STEEPEST_straights:∃ t,mg "STEEPEST_straights"=some (.int 12 t):=by
      refine' L2.topint_mk KX G ?ie ?iq;(case ie=>k_is);(case iq=>exact ⟨_,rfl⟩)
    have I_STEEPEST_backs:∃ t,mg "STEEPEST_backs"=some (.int 4 t):=by
      refine' L2.topint_mk KX G ?ie ?iq;(case ie=>k_is);(case iq=>exact ⟨_,rfl⟩)
    have I_MOST_STRETCHES:∃ t,mg "MOST_STRETCHES"=some (.int 6 t):=by
      refine' L2.topint_mk KX G ?ie ?iq;(case ie=>k_is);(case iq=>exact ⟨_,rfl⟩)
    have CC:Mine.Kit13 (L2.KOf KX)∧L2.TopDict (L2.KOf KX) mg "TAKEN" Mine.TK:=by
      dsimp only [L2.KOf]
      refine' Mine.classes_mk KX G ?qni ?qsi ?qti ?qbi ?qib ?qns ?qis ?qbs ?qts ?qnt ?qit ?qst ?qbt ?qlt ?qdt ?t1 ?t2 ?t3 ?t4
      (case qni=>first | k_is | kit_is)
      (case qsi=>first | k_is | kit_is)
      (case qti=>first | k_is | kit_is)
      (case qbi=>first | k_is | kit_is)
      (case qib=>first | k_is | kit_is)
      (case qns=>first | k_is | kit_is)
      (case qis=>first | k_is | kit_is)
      (case qbs=>first | k_is | kit_is)
      (case qts=>first | k_is | kit_is)
      (case qnt=>first | k_is | kit_is)
      (case qit=>first | k_is | kit_is)
      (case qst=>first | k_is | kit_is)
      (case qbt=>first | k_is | kit_is)
      (case qlt=>first | k_is | kit_is)
      (case qdt=>first | k_is | kit_is)
      (case t1=>k_is)
      (case t2=>k_is)
      (case t3=>decide)
      (case t4=>exact (.cons rfl ⟨_,rfl⟩ (.cons rfl ⟨_,rfl⟩ (.cons rfl ⟨_,rfl⟩ (.cons rfl ⟨_,rfl⟩ (.cons rfl ⟨_,rfl⟩ (.cons rfl ⟨_,rfl⟩ (.cons rfl ⟨_,rfl⟩ (.cons rfl ⟨_,rfl⟩ (.cons rfl ⟨_,rfl⟩ (.cons rfl ⟨_,rfl⟩ .nil)))))))))))
    have Z:=CC
    obtain ⟨f,fd,F,m⟩:=T_law.ex
    have e:=hmg.symm.trans m
    cases e
    obtain ⟨oc,od,kV,doc,pm,an,cdv,ct,osl,hfd,lk,hcd⟩:=id F.ex
    subst hfd
    refine ⟨PySem.W.fnOf "law" "law" (L2.defArgs Mine.s_law) (L2.defBody Mine.s_law) (L2.defScope Mine.s_law) .none kV doc pm an cdv ct,fun s u=>.of_eq rfl,fun base kb nb=>?_⟩
    obtain ⟨tm,M_MOST⟩:=I_MOST_ROWS
    obtain ⟨ts,M_STEEP⟩:=I_STEEPEST_straights
    obtain ⟨tq,M_STR⟩:=I_MOST_STRETCHES
    obtain ⟨tb,M_SB⟩:=I_STEEPEST_backs
    have dFactor:=Mine.ok_factor (P:=PySem.Challenge.rw_leansay_k32_whole_built_lines_back.prog) (w:=w) (base:=base) T_common_factor Z_abs
    have dFrac:=Mine.ok_fraction T_fraction dFactor
    have dLess:=Mine.ok_less (P:=PySem.Challenge.rw_leansay_k32_whole_built_lines_back.prog) (w:=w) (base:=base) T_less
    have dJoined:=Mine.ok_joined (P:=PySem.Challenge.rw_leansay_k32_whole_built_lines_back.prog) (w:=w) (base:=base) T_joined Z_tuple
    have dSbs:=Mine.ok_side_by_side T_side_by_side Z_len dLess
    have dTurned:=Mine.ok_turned (P:=PySem.Challenge.rw_leansay_k32_whole_built_lines_back.prog) (w:=w) (base:=base) T_turned Z_tuple
    have dRaised:=Mine.ok_raised (P:=PySem.Challenge.rw_leansay_k32_whole_built_lines_back.prog) (w:=w) (base:=base) T_raised Z_tuple
    have dAdded:=Mine.ok_added T_added dSbs dJoined
    have dGr:=Mine.ok_gr T_greater_line P_NOUGHT dSbs (Mine.ok_gst T_greater_stretches dFrac) dJoined
    have dLe:=Mine.ok_le T_lesser_line dTurned dGr
    have dStr:=Mine.ok_straight (P:=PySem.Challenge.rw_leansay_k32_whole_built_lines_back.prog) (w:=w) (base:=base) T_straight P_WHOLE
    have dCut:=Mine.ok_cut T_cut_off dStr dGr dLe
    have dFold:=Mine.ok_foldLine T_fold_line dAdded dTurned dRaised dGr dLe dCut
    have dRow:=Mine.ok_rowLine T_row_line Z_len (Mine.ok_leafLine T_leaf_line dStr) dTurned dRaised dFold
    have dIw:=Mine.ok_isWhole (P:=PySem.Challenge.rw_leansay_k32_whole_built_lines_back.prog) (w:=w) (base:=base) T_is_whole Z_isinstance Z_int Z_bool Z.1.ib
    have dHow:=Mine.ok_how (P:=PySem.Challenge.rw_leansay_k32_whole_built_lines_back.prog) (w:=w) (base:=base) T_how_many_it_takes Z.2
    have dAh:=Mine.ok_ahead T_is_place_ahead dIw
    have dIr:=Mine.ok_isRow T_is_row Z_isinstance Z_tuple Z_len Z_str Z_all M_MOST dHow dAh
    have dMust:=Mine.ok_must T_must_be_rows (Mine.ok_fault T_rows_fault Z_enumerate Z_len dIr)
    have dLine:=Mine.ok_lineR T_line_of_rows dMust (Mine.ok_noQ (P:=PySem.Challenge.rw_leansay_k32_whole_built_lines_back.prog) (w:=w) (base:=base) T_must_be_without_q) (Mine.ok_lastLine T_last_line dRow)
    have dLw:=Mine.ok_lwhole (P:=PySem.Challenge.rw_leansay_k32_whole_built_lines_back.prog) (w:=w) (base:=base) T_l_whole Z_isinstance Z_int Z_bool Z.1
    have dLr:=Mine.ok_lrow T_l_row Z_isinstance Z_tuple Z_len Z_str Z_all Z.1 dLw
    have dLf:=Mine.ok_lfault T_l_fault Z_range Z_len dLr
    have dWo:=Mine.ok_worth14 T_l_worth Z_len (Mine.ok_fold14 (P:=PySem.Challenge.rw_leansay_k32_whole_built_lines_back.prog) (w:=w) (base:=base) T_l_fold Z_min Z_max)
    have dCell:=Mine.ok_cell (P:=PySem.Challenge.rw_leansay_k32_whole_built_lines_back.prog) (w:=w) (base:=base) T_l_cell Z_len
    have dSteep:=Mine.ok_steep30 (P:=PySem.Challenge.rw_leansay_k32_whole_built_lines_back.prog) (w:=w) (base:=base) T_put_steeper Z_len Z_range
    have dStraight:=Mine.ok_straight30 T_straight_rows Z_abs Z_len Z_range M_STEEP (Mine.ok_flat30 (P:=PySem.Challenge.rw_leansay_k32_whole_built_lines_back.prog) (w:=w) (base:=base) T_flat_rows) dSteep
    have dLow:=Mine.ok_lowL (P:=PySem.Challenge.rw_leansay_k32_whole_built_lines_back.prog) (w:=w) (base:=base) T_l_lowest Z_abs
    have dWays:=Mine.ok_ways32 T_l_ways Z_range (Mine.ok_meet32 T_l_meet dLow) (Mine.ok_inward32 (P:=PySem.Challenge.rw_leansay_k32_whole_built_lines_back.prog) (w:=w) (base:=base) T_l_inward)
    have dBuilt:=Mine.ok_built32 T_l_built Z_len Z_sum Z_range Z_tuple dCell dWays (Mine.ok_wayOut32 T_l_way_out dLow)
    have dRight:=Mine.ok_right32 T_l_rows_right Z_isinstance Z_list Z_range Z_min Z_max dLf dWo (Mine.ok_height32 (P:=PySem.Challenge.rw_leansay_k32_whole_built_lines_back.prog) (w:=w) (base:=base) T_l_height)
    have dOut:=Mine.ok_isOut32 T_is_out (Mine.ok_outside T_is_outside P_NOUGHT P_WHOLE dLess) (Mine.ok_told T_told_by_stretch dFrac)
    have dStay:=Mine.ok_stay32 T_must_stay Z_enumerate P_NOUGHT dOut
    have dLead:=Mine.ok_back32 T_must_lead_back Z_enumerate Z_len Z_abs M_STR M_SB dStay
    have dPut:=Mine.ok_put32 T_put_straights Z_len dStraight (Mine.ok_moved32 (P:=PySem.Challenge.rw_leansay_k32_whole_built_lines_back.prog) (w:=w) (base:=base) T_moved Z_tuple)
    have dBack:=Mine.ok_back T_rows_of_line P_NOUGHT dLead dPut (Mine.ok_folded32 (P:=PySem.Challenge.rw_leansay_k32_whole_built_lines_back.prog) (w:=w) (base:=base) T_put_folded Z_len) (Mine.ok_below32 T_is_below (Mine.ok_belowAt32 (P:=PySem.Challenge.rw_leansay_k32_whole_built_lines_back.prog) (w:=w) (base:=base) T_is_below_at))
    exact Mine.ok_law F Z_list dCell dBuilt dBack dRight dLine
  case S=>exact fun K H a ns hl hb hO hS=>⟨a,ns,rfl,Mine.scr_of hO hS hl hb,fun _=>rfl⟩
  case C=>exact fun _ _ _ _ z=>z
